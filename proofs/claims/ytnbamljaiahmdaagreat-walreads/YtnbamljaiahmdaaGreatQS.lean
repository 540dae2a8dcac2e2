/-
  Slices of records and batches in memory; a batch's bytes; a Writer that is a packer's.
  sect.within, mayHead, packer.add, packer.begin, each.
  sect.Pack, Fits.
  Which records fit, as a plain fact.
  sect.LSN, Seq, Index, and the document's.
-/
import Derived.Test.YtnbamljaiahmdaaGreatQDecE
import Derived.Test.YtnbamljaiahmdaaGreatQF
import Derived.StillTailTactics
import Derived.Shelf.Abstract
namespace Go.Proofs.YtnbamljaiahmdaaGreat
open Go Go.RowKit Go.Shelf

/-! ### Slices of records -/
/-- A record's cells, from a place on. -/
structure RcD.Cells (w : World) (x : RcD) (b o : Nat) : Prop where
  k : w.cell? ⟨b, o, none⟩ = some (.int .i64 x.k)
  f1 : w.cell? ⟨b, o + 1, none⟩ = some (.int .i64 (x.f 1))
  f2 : w.cell? ⟨b, o + 2, none⟩ = some (.int .i64 (x.f 2))
  f3 : w.cell? ⟨b, o + 3, none⟩ = some (.int .i64 (x.f 3))
  f4 : w.cell? ⟨b, o + 4, none⟩ = some (.int .i64 (x.f 4))
  f5 : w.cell? ⟨b, o + 5, none⟩ = some (.int .i64 (x.f 5))
  f6 : w.cell? ⟨b, o + 6, none⟩ = some (.int .i64 (x.f 6))
  f7 : w.cell? ⟨b, o + 7, none⟩ = some (.int .i64 (x.f 7))
  f8 : w.cell? ⟨b, o + 8, none⟩ = some (.int .i64 (x.f 8))
  f9 : w.cell? ⟨b, o + 9, none⟩ = some (.int .i64 (x.f 9))
  c10 : w.cell? ⟨b, o + 10, none⟩ = some (.bool x.o.is)
  c11 : w.cell? ⟨b, o + 11, none⟩ = some (.slice x.o.B x.o.m x.o.d)
  c12 : w.cell? ⟨b, o + 12, none⟩ = some (.bool x.v.is)
  c13 : w.cell? ⟨b, o + 13, none⟩ = some (.slice x.v.B x.v.m x.v.d)
theorem RcD.Cells.of {w : World} {x : RcD} {b o : Nat} (h : ∀ (j : Nat) (u : Value), x.cells[j]? = some u → w.cell? ⟨b, o + j, none⟩ = some u) : x.Cells w b o :=
  ⟨h 0 _ rfl, h 1 _ rfl, h 2 _ rfl, h 3 _ rfl, h 4 _ rfl, h 5 _ rfl, h 6 _ rfl, h 7 _ rfl, h 8 _ rfl, h 9 _ rfl, h 10 _ rfl, h 11 _ rfl, h 12 _ rfl, h 13 _ rfl⟩
theorem RcD.Cells.get {w : World} {x : RcD} {b o : Nat} (h : x.Cells w b o) {j : Nat} {u : Value} (hj : x.cells[j]? = some u) : w.cell? ⟨b, o + j, none⟩ = some u := by
  have hlt : j < 14 := (Array.getElem?_eq_some_iff.1 hj).1
  match j, hlt with
  | 0, _ => injection hj with e; subst e; exact h.k
  | 1, _ => injection hj with e; subst e; exact h.f1
  | 2, _ => injection hj with e; subst e; exact h.f2
  | 3, _ => injection hj with e; subst e; exact h.f3
  | 4, _ => injection hj with e; subst e; exact h.f4
  | 5, _ => injection hj with e; subst e; exact h.f5
  | 6, _ => injection hj with e; subst e; exact h.f6
  | 7, _ => injection hj with e; subst e; exact h.f7
  | 8, _ => injection hj with e; subst e; exact h.f8
  | 9, _ => injection hj with e; subst e; exact h.f9
  | 10, _ => injection hj with e; subst e; exact h.c10
  | 11, _ => injection hj with e; subst e; exact h.c11
  | 12, _ => injection hj with e; subst e; exact h.c12
  | 13, _ => injection hj with e; subst e; exact h.c13
theorem RcD.Cells.keep {w w' : World} {x : RcD} {b o : Nat} (h : x.Cells w b o) (hk : w'.heap[b]? = w.heap[b]?) : x.Cells w' b o :=
  .of fun _ _ hu => (World.cell?_of_block hk).trans (h.get hu)
theorem RcD.Cells.lt {w : World} {x : RcD} {b o : Nat} (h : x.Cells w b o) : b < w.heap.size := World.block_lt_of_cell? w _ h.k

structure Rs (w : World) (A : Option Addr) (n c : Nat) (l : List RcD) : Prop where
  len : l.length = n
  cap : n ≤ c
  cells : 0 < n → ∃ b o, A = some ⟨b, o, none⟩ ∧ ∀ (i : Nat) (x : RcD), l[i]? = some x → x.Cells w b (o + i * 14)
  ats : ∀ x ∈ l, x.At w
section
variable {w w' : World} {A : Option Addr} {n c : Nat} {l : List RcD}
theorem Rs.nil (w : World) (A : Option Addr) (c : Nat) : Rs w A 0 c [] := ⟨rfl, Nat.zero_le _, fun h => absurd h (by omega), by simp⟩
theorem Rs.keep (h : Rs w A n c l) (hm : Mod (fun _ => False) w w') : Rs w' A n c l := by
  refine ⟨h.len, h.cap, fun hp => ?_, fun x hx => (h.ats x hx).keep hm⟩
  obtain ⟨b, o, hA, hc⟩ := h.cells hp
  exact ⟨b, o, hA, fun i x hx => (hc i x hx).keep (hm.block b (hc i x hx).lt id)⟩
theorem Rs.pre (h : Rs w A n c l) {k : Nat} (hk : k ≤ n) : Rs w A k c (l.take k) := by
  have := h.len
  have := h.cap
  refine ⟨by simp; omega, by omega, fun hp => ?_, fun x hx => h.ats x (List.mem_of_mem_take hx)⟩
  obtain ⟨b, o, hA, hc⟩ := h.cells (by omega)
  refine ⟨b, o, hA, fun i x hx => hc i x ?_⟩
  rw [List.getElem?_take] at hx
  split at hx
  · exact hx
  · cases hx
end

/-! ### Batches -/
structure BtD where
  e : Int
  s : Int
  f : Int
  A : Option Addr
  n : Nat
  c : Nat
  l : List RcD
abbrev BtD.cells (x : BtD) : Array Value := #[.int .i64 x.e, .int .i64 x.s, .int .i64 x.f, .slice x.A x.n x.c]
abbrev BtD.val (x : BtD) : Value := .agg x.cells
def BtD.At (w : World) (x : BtD) : Prop := Rs w x.A x.n x.c x.l
def BtD.In (w : World) (x : BtD) (g : Nat) : Prop := w.heap[g]? = some (.cells x.cells 68 (0, 0))
section
variable {w w' : World} {x : BtD} {g : Nat}
theorem BtD.At.keep (h : x.At w) (hm : Mod (fun _ => False) w w') : x.At w' := Rs.keep h hm
theorem BtD.In.lt (h : x.In w g) : g < w.heap.size := (Array.getElem?_eq_some_iff.1 h).1
theorem BtD.In.fz (h : x.In w g) (i : Nat) : w.frozen? ⟨g, i, none⟩ = false := frozen_of_block h i
theorem BtD.In.c0 (h : x.In w g) : w.cell? ⟨g, 0, none⟩ = some (.int .i64 x.e) := by rw [cell_of_row w g 0 _ _ _ h]; rfl
theorem BtD.In.c1 (h : x.In w g) : w.cell? ⟨g, 1, none⟩ = some (.int .i64 x.s) := by rw [cell_of_row w g 1 _ _ _ h]; rfl
theorem BtD.In.c2 (h : x.In w g) : w.cell? ⟨g, 2, none⟩ = some (.int .i64 x.f) := by rw [cell_of_row w g 2 _ _ _ h]; rfl
theorem BtD.In.c3 (h : x.In w g) : w.cell? ⟨g, 3, none⟩ = some (.slice x.A x.n x.c) := by rw [cell_of_row w g 3 _ _ _ h]; rfl
theorem BtD.In.mod {F : Nat → Prop} (h : x.In w g) (hm : Mod F w w') (hg : ¬ F g) : x.In w' g := (hm.block g h.lt hg).trans h
theorem BtD.In.keep (h : x.In w g) (hm : Mod (fun _ => False) w w') : x.In w' g := h.mod hm id
theorem BtD.In.new (w : World) (x : BtD) : x.In (w.alloc (.cells x.cells 68)) w.heap.size := heap_alloc_new w _
end

/-! ### A batch's bytes -/
def inB (n m : Int) : Bool := decide (0 ≤ n) && decide (n ≤ m)
def headOk (e s f : Int) : Bool := inB e 65535 && inB s 16777215 && inB f s
def lenc (x : RcD) : List UInt8 := UInt8.ofNat (encB x).length :: encB x
def recsB (l : List RcD) : List UInt8 := l.flatMap lenc
def headB (e s f : Int) (n : Nat) : List UInt8 := le 2 e.toNat ++ le 4 s.toNat ++ le 4 f.toNat ++ le 1 n
def packB (e s f : Int) (l : List RcD) : List UInt8 := headB e s f l.length ++ recsB l
def packE (e s f : Int) (l : List RcD) : Int :=
  if headOk e s f && l.all mayB then (if 60 < l.length ∨ 248 < (packB e s f l).length then 2 else 0) else 1
def packR (e s f : Int) (l : List RcD) : List UInt8 := if packE e s f l = 0 then packB e s f l else []
theorem headB_len (e s f : Int) (n : Nat) : (headB e s f n).length = 11 := by simp [headB, le_length]
theorem headOk_bd {e s f : Int} (h : headOk e s f = true) : 0 ≤ e ∧ e ≤ 65535 ∧ 0 ≤ s ∧ s ≤ 16777215 ∧ 0 ≤ f ∧ f ≤ s := by
  simp [headOk, inB] at h
  omega
theorem packE_arg {e s f : Int} {l : List RcD} (h : headOk e s f = false) : packE e s f l = 1 := by unfold packE; rw [h]; rfl
theorem packE_rec {e s f : Int} {l : List RcD} (h : l.all mayB = false) : packE e s f l = 1 := by unfold packE; rw [h, Bool.and_false]; rfl
theorem packE_long {e s f : Int} {l : List RcD} (h : headOk e s f = true) (h2 : l.all mayB = true) (hl : 60 < l.length ∨ 248 < (packB e s f l).length) : packE e s f l = 2 := by unfold packE; rw [h, h2, Bool.and_true, if_pos rfl, if_pos hl]
theorem packE_ok {e s f : Int} {l : List RcD} (h : headOk e s f = true) (h2 : l.all mayB = true) (hl : ¬ (60 < l.length ∨ 248 < (packB e s f l).length)) : packE e s f l = 0 := by unfold packE; rw [h, h2, Bool.and_true, if_pos rfl, if_neg hl]
theorem packE_zero {e s f : Int} {l : List RcD} (h : packE e s f l = 0) : headOk e s f = true ∧ l.all mayB = true ∧ l.length ≤ 60 ∧ (packB e s f l).length ≤ 248 := by
  unfold packE at h
  split at h
  · rename_i h1
    split at h
    · cases h
    · rename_i h2
      rw [Bool.and_eq_true] at h1
      exact ⟨h1.1, h1.2, by omega, by omega⟩
  · cases h
theorem packR_no {e s f : Int} {l : List RcD} (h : packE e s f l ≠ 0) : packR e s f l = [] := by unfold packR; rw [if_neg h]
theorem packR_ok {e s f : Int} {l : List RcD} (h : packE e s f l = 0) : packR e s f l = packB e s f l := by unfold packR; rw [if_pos h]
theorem lenc_len {w : World} {x : RcD} (hx : x.At w) (h : mayB x = true) : (lenc x).length ≤ 76 := by
  have := (encB_size hx h).2
  unfold lenc
  rw [List.length_cons]
  omega
theorem recsB_len {w : World} : ∀ {l : List RcD}, (∀ x ∈ l, x.At w) → l.all mayB = true → (recsB l).length ≤ l.length * 76
  | [], _, _ => by simp [recsB]
  | x :: l, hx, h => by
    rw [List.all_cons, Bool.and_eq_true] at h
    have h1 := lenc_len (hx x (List.mem_cons_self ..)) h.1
    have h2 := recsB_len (fun y hy => hx y (List.mem_cons_of_mem _ hy)) h.2
    simp only [recsB, List.flatMap_cons, List.length_append, List.length_cons] at *
    omega
theorem recsB_succ {l : List RcD} {j : Nat} {x : RcD} (h : l[j]? = some x) : recsB (l.take (j + 1)) = recsB (l.take j) ++ lenc x := by
  obtain ⟨hj, e⟩ := List.getElem?_eq_some_iff.1 h
  unfold recsB
  rw [List.take_succ_eq_append_getElem hj, List.flatMap_append, e]
  simp
theorem all_succ {l : List RcD} {j : Nat} {x : RcD} (h : l[j]? = some x) : (l.take (j + 1)).all mayB = ((l.take j).all mayB && mayB x) := by
  obtain ⟨hj, e⟩ := List.getElem?_eq_some_iff.1 h
  rw [List.take_succ_eq_append_getElem hj, List.all_append, e]
  simp
theorem all_no {l : List RcD} {j : Nat} {x : RcD} (h : l[j]? = some x) (hx : mayB x = false) : l.all mayB = false := by
  rw [List.all_eq_false]
  exact ⟨x, List.mem_of_getElem? h, by rw [hx]; simp⟩

/-! ### A packer -/
/-- A block whose type is no Writer's and not bytes' has not turned. -/
def Far (W W' : World) : Prop := ∀ (b : Nat) (cs : Array Value) (t : TypeId) (fr : Nat × Nat), W.heap[b]? = some (Obj.cells cs t fr) → t ≠ 5 → t ≠ 126 → t ≠ 128 → W'.heap[b]? = W.heap[b]?
theorem far_of {W W' : World} {base g : Nat} {A : Option Addr} {n c : Nat} {xs : List UInt8} (h : Wr W base g A n c xs) (hm : Mod (WF g A) W W') : Far W W' := by
  intro b cs t fr hb h1 h2 h3
  refine hm.block b (Array.getElem?_eq_some_iff.1 hb).1 (fun e => ?_)
  rcases e with e | e
  · subst e
    obtain ⟨T, hT, e⟩ := h.2.1
    rw [hb] at e
    injection e with e
    injection e with _ e
    subst e
    rcases hT with e | e
    · exact h2 e
    · exact h3 e
  · obtain ⟨_, cur, hc, _⟩ := h.2.2.block e
    rw [hb] at hc
    injection hc with e
    injection e with _ e
    exact h1 e
theorem BtD.In.far {W W' : World} {x : BtD} {g : Nat} (h : x.In W g) (hf : Far W W') : x.In W' g := (hf g _ _ _ h (by decide) (by decide) (by decide)).trans h
/-- A packer in new memory, whose Writer has these bytes; nothing old has turned. -/
structure PS (w : World) (g : Nat) (xs : List UInt8) (W : World) : Prop where
  ex : ∃ A n c, Wr W w.heap.size g A n c xs
  old : Mod (fun _ => False) w W
section
variable {w W W' : World} {g : Nat} {xs ys : List UInt8}
theorem PS.keep (h : PS w g xs W) (hm : Mod (fun _ => False) W W') : PS w g xs W' := by
  obtain ⟨A, n, c, hw⟩ := h.ex
  exact ⟨⟨A, n, c, hw.mod hm id (fun _ _ => id)⟩, h.old.trans hm (fun _ _ h => h)⟩
theorem ps_new (w : World) : PS w w.heap.size [] (w.alloc (.cells #[.slice none 0 0] 128)) :=
  ⟨⟨none, 0, 0, ⟨Nat.le_refl _, ⟨_, .inr rfl, heap_alloc_new w _⟩, OwV.nil _ _ _⟩⟩, (Mod.refl _ w).alloc _⟩
theorem ps_bytes (h : PS w g xs W) (hl : xs.length ≤ 900000) :
    Calls Tryz.prog 75 #[.pointer (some ⟨g, 0, none⟩)] W fun e w' => e = .returned (.slice (some ⟨W.heap.size, 0, none⟩) xs.length xs.length) ∧ Fresh W w' xs := by
  obtain ⟨A, n, c, hw⟩ := h.ex
  have hn : xs.length = n := by have := hw.2.2.len; simpa using this
  subst hn
  exact bytes_ok W _ _ A _ c xs hw (by omega)
theorem ps_put (h : PS w g xs W) (hl : xs.length ≤ 900000) (n k : Int) (hk : widthOk k = true) (hn0 : 0 ≤ n) (hn : n < 256 ^ k.toNat) :
    Calls Tryz.prog 85 #[.pointer (some ⟨g, 0, none⟩), .int .i64 n, .int .i64 k] W fun e W' => e = .returned (.int .i64 0) ∧ PS w g (xs ++ le k.toNat n.toNat) W' ∧ Far W W' := by
  obtain ⟨A, m, c, hw⟩ := h.ex
  have hm : xs.length = m := by have := hw.2.2.len; simpa using this
  refine (put_ok W _ _ A m c xs hw (by omega) n k hk hn0 hn).mono ?_
  rintro e W' ⟨rfl, A', c', h1, h2, _⟩
  exact ⟨rfl, ⟨⟨_, _, _, h1⟩, wr_old hw h.old h2⟩, far_of hw h2⟩
end
end Go.Proofs.YtnbamljaiahmdaaGreat

namespace Go.Proofs.YtnbamljaiahmdaaGreat
open Go Go.RowKit Go.Shelf

set_option maxRecDepth 100000 in
theorem within_ok (w : World) (n m : Int) :
    Calls Tryz.prog 44 #[.int .i64 n, .int .i64 m] w fun e w' => e = .returned (.bool (inB n m)) ∧ w = w' := by
  by_cases h : 0 ≤ n
  · have Hd : Hid (inB n m = decide (n ≤ m)) := by show _ = _; simp [inB, h]
    go_enter Tryz.func44, Tryz.ntmps44
    go_wp2
    go_ret
    exact ⟨by rw [Hd.out]; rfl, rfl⟩
  · have Hd : Hid (inB n m = false) := by show _ = _; simp [inB, h]
    have h' : n < 0 := by omega
    clear h
    go_enter Tryz.func44, Tryz.ntmps44
    go_wp2
    go_ret
    exact ⟨by rw [Hd.out]; rfl, rfl⟩

set_option maxRecDepth 100000 in
set_option maxHeartbeats 1000000 in
theorem mayHead_ok (w : World) (x : BtD) :
    Calls Tryz.prog 71 #[x.val] w fun e w' => e = .returned (.bool (headOk x.e x.s x.f)) ∧ Mod (fun _ => False) w w' := by
  obtain ⟨w1, hw1⟩ : ∃ w1, w.alloc (.cells x.cells 68) = w1 := ⟨_, rfl⟩
  have hI : x.In w1 w.heap.size := by rw [← hw1]; exact BtD.In.new w x
  have Hm : Hid (Mod (fun _ => False) w w1) := by rw [← hw1]; exact (Mod.refl _ w).alloc _
  have c0 := hI.c0
  have c1 := hI.c1
  have c2 := hI.c2
  have H0 := Lib.hid (within_ok w1 x.e 65535)
  have H1 := Lib.hid (within_ok w1 x.s 16777215)
  have H2 := Lib.hid (within_ok w1 x.f x.s)
  clear hI
  cases h0 : inB x.e 65535 with
  | false =>
    have Hr : Hid (headOk x.e x.s x.f = false) := by show _ = _; unfold headOk; rw [h0]; rfl
    rw [h0] at H0
    clear h0
    go_enter Tryz.func71, Tryz.ntmps71
    go_wp2_with fail
    refine H0.out.mono ?_
    rintro e w2 ⟨rfl, rfl⟩
    clear hw1 H0 H1 H2
    go_wp2
    go_ret
    exact ⟨by rw [Hr.out]; rfl, Hm.out⟩
  | true =>
    rw [h0] at H0
    cases h1 : inB x.s 16777215 with
    | false =>
      have Hr : Hid (headOk x.e x.s x.f = false) := by show _ = _; unfold headOk; rw [h0, h1]; rfl
      rw [h1] at H1
      clear h0 h1
      go_enter Tryz.func71, Tryz.ntmps71
      go_wp2_with fail
      refine H0.out.mono ?_
      rintro e w2 ⟨rfl, rfl⟩
      clear hw1
      go_wp2_with fail
      refine H1.out.mono ?_
      rintro e w3 ⟨rfl, rfl⟩
      clear H0 H1 H2
      go_wp2
      go_ret
      exact ⟨by rw [Hr.out]; rfl, Hm.out⟩
    | true =>
      have Hr : Hid (headOk x.e x.s x.f = inB x.f x.s) := by show _ = _; unfold headOk; rw [h0, h1]; rfl
      rw [h1] at H1
      clear h0 h1
      go_enter Tryz.func71, Tryz.ntmps71
      go_wp2_with fail
      refine H0.out.mono ?_
      rintro e w2 ⟨rfl, rfl⟩
      clear hw1
      go_wp2_with fail
      refine H1.out.mono ?_
      rintro e w3 ⟨rfl, rfl⟩
      go_wp2_with fail
      refine H2.out.mono ?_
      rintro e w4 ⟨rfl, rfl⟩
      clear H0 H1 H2
      go_wp2
      go_ret
      exact ⟨by rw [Hr.out]; rfl, Hm.out⟩

set_option maxRecDepth 100000 in
set_option maxHeartbeats 1000000 in
theorem padd_no (w W : World) (g : Nat) (xs : List UInt8) (h : PS w g xs W) (x : RcD) (hm : mayB x = false) :
    Calls Tryz.prog 74 #[.pointer (some ⟨g, 0, none⟩), x.val] W fun e W' => e = .returned (.int .i64 1) ∧ PS w g xs W' := by
  obtain ⟨w1, hw1⟩ : ∃ w1, W.alloc (.cells x.cells 47) = w1 := ⟨_, rfl⟩
  have hI : x.In w1 W.heap.size := by rw [← hw1]; exact RcD.In.new W x
  have h1 : PS w g xs w1 := by rw [← hw1]; exact h.keep ((Mod.refl _ W).alloc _)
  have Hc := Lib.hid (encode_no w1 x hm)
  have H1 := Lib.hid h1
  have Hw1 := Lib.hid hw1
  have p0 := hI.kind
  have p1 := hI.num (i := 1) (by omega) (by omega)
  have p2 := hI.num (i := 2) (by omega) (by omega)
  have p3 := hI.num (i := 3) (by omega) (by omega)
  have p4 := hI.num (i := 4) (by omega) (by omega)
  have p5 := hI.num (i := 5) (by omega) (by omega)
  have p6 := hI.num (i := 6) (by omega) (by omega)
  have p7 := hI.num (i := 7) (by omega) (by omega)
  have p8 := hI.num (i := 8) (by omega) (by omega)
  have p9 := hI.num (i := 9) (by omega) (by omega)
  have p10 := hI.c10
  have p11 := hI.c11
  have p12 := hI.c12
  have p13 := hI.c13
  clear hI h1 hm h hw1
  go_enter Tryz.func74, Tryz.ntmps74
  go_wp2_with fail
  rw [show W.alloc (.cells x.cells 47) = w1 from Hw1.out]
  clear Hw1
  refine Hc.out.mono ?_
  rintro e w2 ⟨rfl, hm2⟩
  have H2 := Lib.hid (H1.out.keep hm2)
  clear hm2 Hc H1 p0 p1 p2 p3 p4 p5 p6 p7 p8 p9 p10 p11 p12 p13
  go_wp2
  go_ret
  exact ⟨rfl, H2.out⟩

set_option maxRecDepth 100000 in
set_option maxHeartbeats 1000000 in
theorem padd_yes (w W : World) (g : Nat) (xs : List UInt8) (h : PS w g xs W) (hl : xs.length ≤ 800000) (x : RcD) (hx : x.At W) (hm : mayB x = true) :
    Calls Tryz.prog 74 #[.pointer (some ⟨g, 0, none⟩), x.val] W fun e W' => e = .returned (.int .i64 0) ∧ PS w g (xs ++ lenc x) W' := by
  obtain ⟨w1, hw1⟩ : ∃ w1, W.alloc (.cells x.cells 47) = w1 := ⟨_, rfl⟩
  have hI : x.In w1 W.heap.size := by rw [← hw1]; exact RcD.In.new W x
  have hm1 : Mod (fun _ => False) W w1 := by rw [← hw1]; exact (Mod.refl _ W).alloc _
  obtain ⟨A, n, c, hw⟩ := h.ex
  have hn : xs.length = n := by have := hw.2.2.len; simpa using this
  have Hold := Lib.hid (h.old.trans hm1 (fun _ _ h => h))
  have Hwr : Hid (Wr w1 w.heap.size g A n c xs) := hw.mod hm1 id (fun _ _ => id)
  have Hn : Hid (n ≤ 800000) := by show _ ≤ _; omega
  have Hsz := Lib.hid (encB_size hx hm).2
  have Hc := Lib.hid (encode_yes w1 x (hx.keep hm1) hm)
  have Hw1 := Lib.hid hw1
  have p0 := hI.kind
  have p1 := hI.num (i := 1) (by omega) (by omega)
  have p2 := hI.num (i := 2) (by omega) (by omega)
  have p3 := hI.num (i := 3) (by omega) (by omega)
  have p4 := hI.num (i := 4) (by omega) (by omega)
  have p5 := hI.num (i := 5) (by omega) (by omega)
  have p6 := hI.num (i := 6) (by omega) (by omega)
  have p7 := hI.num (i := 7) (by omega) (by omega)
  have p8 := hI.num (i := 8) (by omega) (by omega)
  have p9 := hI.num (i := 9) (by omega) (by omega)
  have p10 := hI.c10
  have p11 := hI.c11
  have p12 := hI.c12
  have p13 := hI.c13
  clear hI hm h hw1 hm1 hw hn hl hx
  go_enter Tryz.func74, Tryz.ntmps74
  go_wp2_with fail
  rw [show W.alloc (.cells x.cells 47) = w1 from Hw1.out]
  clear Hw1
  refine Hc.out.mono ?_
  rintro e w2 ⟨q, rfl, hq, hq2, hm2⟩
  have hwr2 : Wr w2 w.heap.size g A n c xs := Hwr.out.mod hm2 id (fun _ _ => id)
  have hsep : ∀ k, blkOf (some ⟨q, 0, none⟩ : Option Addr) = some k → 0 < (encB x).length → ¬ WF g A k := by
    intro k hk _ e
    injection hk with hk
    have hk : q = k := hk
    subst hk
    rcases e with e | e
    · have := Hwr.out.lt; omega
    · have := (Hwr.out.2.2.lt q e).2; omega
  have Hl := Lib.hid (lay_ok w2 _ g A n c xs hwr2 (by have := Hn.out; omega) _ _ _ _ (Sl.of_block hq) (by have := Hsz.out; omega) hsep)
  have H2 := Lib.hid hwr2
  have Hold2 := Lib.hid (Hold.out.trans hm2 (fun _ _ h => h))
  clear hm2 Hc Hwr Hold hq hq2 hwr2 hsep p0 p1 p2 p3 p4 p5 p6 p7 p8 p9 p10 p11 p12 p13
  obtain ⟨m, hm⟩ : ∃ m, (encB x).length = m := ⟨_, rfl⟩
  have Hm := Lib.hid hm
  rw [hm] at Hl ⊢
  clear hm Hsz
  go_wp2_with fail
  refine Hl.out.mono ?_
  rintro e w3 ⟨rfl, A', c', h3, hm3, _⟩
  have H3 : Hid (PS w g (xs ++ lenc x) w3) := ⟨⟨A', _, c', by unfold lenc; rw [Hm.out]; exact h3⟩, wr_old H2.out Hold2.out hm3⟩
  clear h3 hm3 Hl H2 Hold2
  go_wp2
  go_ret
  exact ⟨rfl, H3.out⟩

set_option maxRecDepth 100000 in
set_option maxHeartbeats 2000000 in
theorem begin_ok (w W : World) (g : Nat) (h : PS w g [] W) (x : BtD) (hh : headOk x.e x.s x.f = true) (hl : x.n ≤ 200) :
    Calls Tryz.prog 72 #[.pointer (some ⟨g, 0, none⟩), x.val] W fun e W' => e = .returned (.tuple #[]) ∧ PS w g (headB x.e x.s x.f x.n) W' := by
  obtain ⟨w1, hw1⟩ : ∃ w1, W.alloc (.cells x.cells 68) = w1 := ⟨_, rfl⟩
  have hI : x.In w1 W.heap.size := by rw [← hw1]; exact BtD.In.new W x
  have hm1 : Mod (fun _ => False) W w1 := by rw [← hw1]; exact (Mod.refl _ W).alloc _
  have hbd := headOk_bd hh
  have H1 := Lib.hid (ps_put (h.keep hm1.drew) (by simp) x.e 2 rfl hbd.1 (by show x.e < 256 ^ (2 : Nat); omega))
  have Hbd := Lib.hid hbd
  have Hl := Lib.hid hl
  have HI := Lib.hid hI
  have Hw1 := Lib.hid hw1
  have c0 := hI.c0
  clear hI hm1 hbd hh hl hw1
  go_enter Tryz.func72, Tryz.ntmps72
  go_wp2_with fail
  rw [show W.alloc (.cells x.cells 68) = w1 from Hw1.out]
  clear Hw1
  go_still_tail 5, (by kernel_rfl)
  change wpList _ _ _ _ _ w1.drew
  have HI1 : Hid (x.In w1.drew W.heap.size) := HI.out
  clear c0 HI
  generalize w1.drew = wd at *
  go_wp2_with fail
  refine H1.out.mono ?_
  rintro e w2 ⟨rfl, h2, hf2⟩
  have hI2 := HI1.out.far hf2
  have c1 := hI2.c1
  have H2 := Lib.hid (ps_put (h2.keep ((Mod.refl _ w2).drew)) (by simp [le_length]) x.s 4 rfl Hbd.out.2.2.1 (by have := Hbd.out; show x.s < 256 ^ (4 : Nat); omega))
  have HI2 : Hid (x.In w2.drew W.heap.size) := hI2
  clear h2 hf2 hI2 H1 HI1
  go_wp2_with fail
  go_still_tail 5, (by kernel_rfl)
  change wpList _ _ _ _ _ w2.drew
  clear c1
  generalize w2.drew = wd2 at *
  go_wp2_with fail
  refine H2.out.mono ?_
  rintro e w3 ⟨rfl, h3, hf3⟩
  have hI3 := HI2.out.far hf3
  have c2 := hI3.c2
  have H3 := Lib.hid (ps_put (h3.keep ((Mod.refl _ w3).drew)) (by simp [le_length]) x.f 4 rfl Hbd.out.2.2.2.2.1 (by have := Hbd.out; show x.f < 256 ^ (4 : Nat); omega))
  have HI3 : Hid (x.In w3.drew W.heap.size) := hI3
  clear h3 hf3 hI3 H2 HI2
  go_wp2_with fail
  go_still_tail 5, (by kernel_rfl)
  change wpList _ _ _ _ _ w3.drew
  clear c2
  generalize w3.drew = wd3 at *
  go_wp2_with fail
  refine H3.out.mono ?_
  rintro e w4 ⟨rfl, h4, hf4⟩
  have hI4 := HI3.out.far hf4
  have c3 := hI4.c3
  have H4 := Lib.hid (ps_put (h4.keep ((Mod.refl _ w4).drew)) (by simp [le_length]) (x.n : Int) 1 rfl (by omega) (by have := Hl.out; show (x.n : Int) < 256 ^ (1 : Nat); omega))
  clear h4 hf4 hI4 H3 HI3
  go_wp2_with fail
  go_still_tail 6, (by kernel_rfl)
  change wpList _ _ _ _ _ w4.drew
  clear c3
  generalize w4.drew = wd4 at *
  go_wp2_with fail
  refine H4.out.mono ?_
  rintro e w5 ⟨rfl, h5, _⟩
  have H5 : Hid (PS w g (headB x.e x.s x.f x.n) w5) := h5
  clear h5 H4
  go_wp2
  go_end0
  exact ⟨rfl, H5.out⟩

def eachE (l : List RcD) : Int := if l.all mayB then 0 else 1
theorem eachE_no {l : List RcD} (h : l.all mayB = false) : eachE l = 1 := by unfold eachE; rw [h]; rfl
theorem eachE_yes {l : List RcD} (h : l.all mayB = true) : eachE l = 0 := by unfold eachE; rw [h]; rfl
structure EachAns (w : World) (g : Nat) (xs : List UInt8) (l : List RcD) (e : Ending) (W' : World) : Prop where
  ret : e = .returned (.int .i64 (eachE l))
  yes : l.all mayB = true → PS w g (xs ++ recsB l) W'
  old : Mod (fun _ => False) w W'

set_option maxRecDepth 100000 in
set_option maxHeartbeats 2000000 in
theorem each_ok (w W : World) (g : Nat) (xs : List UInt8) (h : PS w g xs W) (hl : xs.length ≤ 700000) (A : Option Addr) (n c : Nat) (l : List RcD) (hr : Rs w A n c l) (hn : n ≤ 200) :
    Calls Tryz.prog 73 #[.slice A n c, .func (.func 74) #[.pointer (some ⟨g, 0, none⟩)] #[]] W fun e W' => EachAns w g xs l e W' := by
  have hlen := hr.len
  have Hr := Lib.hid hr
  have Hl := Lib.hid hl
  have Hlen := Lib.hid hlen
  have hnI : (n : Int) ≤ 200 := by omega
  have H := Lib.hid h
  clear h hr hl hlen hn
  go_enter Tryz.func73, Tryz.ntmps73
  go_wp2_with fail
  go_loopw [10] (fun i wr => ∃ j : Nat, j ≤ n ∧ i = .int .i64 j ∧ (l.take j).all mayB = true ∧ PS w g (xs ++ recsB (l.take j)) wr) (fun i _ => n - (intOf i).toNat)
  case atStart => exact ⟨0, by omega, rfl, by simp, by simpa [recsB] using H.out⟩
  case round =>
    obtain ⟨j, hj, rfl, hall, hps⟩ := hrel
    have Hall := Lib.hid hall
    have Hps := Lib.hid hps
    clear hall hps
    by_cases hlt : j < n
    · obtain ⟨b, o, rfl, hc⟩ := Hr.out.cells (by omega)
      have hx : l[j]? = some (l[j]'(by rw [Hlen.out]; exact hlt)) := List.getElem?_eq_getElem _
      obtain ⟨x, hxe⟩ : ∃ x, x = l[j]'(by rw [Hlen.out]; exact hlt) := ⟨_, rfl⟩
      rw [← hxe] at hx
      clear hxe
      have hC := (hc j x hx).keep (Hps.out.old.block b (hc j x hx).lt id)
      have hxm := List.mem_of_getElem? hx
      have HxA : Hid (x.At wr) := (Hr.out.ats x hxm).keep Hps.out.old
      have p0 := hC.k
      have p1 := hC.f1
      have p2 := hC.f2
      have p3 := hC.f3
      have p4 := hC.f4
      have p5 := hC.f5
      have p6 := hC.f6
      have p7 := hC.f7
      have p8 := hC.f8
      have p9 := hC.f9
      have p10 := hC.c10
      have p11 := hC.c11
      have p12 := hC.c12
      have p13 := hC.c13
      have Hx := Lib.hid hx
      have Hrl : Hid ((recsB (l.take j)).length ≤ 200 * 76) := by
        have := recsB_len (l := l.take j) (fun y hy => Hr.out.ats y (List.mem_of_mem_take hy)) Hall.out
        have h2 : (l.take j).length ≤ j := by simp; omega
        show _ ≤ _
        have : (l.take j).length * 76 ≤ 200 * 76 := Nat.mul_le_mul_right 76 (by omega)
        omega
      clear hC hxm hx hc
      have hps2 : PS w g (xs ++ recsB (l.take j)) (wr.alloc (.cells x.cells 47)) := Hps.out.keep ((Mod.refl _ wr).alloc _)
      cases hmay : mayB x with
      | false =>
        have Hadd := Lib.hid (padd_no w _ g _ hps2 x hmay)
        have Hno : Hid (l.all mayB = false) := all_no Hx.out hmay
        clear hps2 hmay
        go_wp2_with fail
        refine Hadd.out.mono ?_
        rintro e w2 ⟨rfl, h2⟩
        have H2 := Lib.hid h2.old
        clear h2 Hadd p0 p1 p2 p3 p4 p5 p6 p7 p8 p9 p10 p11 p12 p13
        go_wp2
        go_ret
        exact ⟨by rw [eachE_no Hno.out]; rfl, fun h => absurd (h.symm.trans Hno.out) (by decide), H2.out⟩
      | true =>
        have Hadd := Lib.hid (padd_yes w _ g _ hps2 (by have := Hrl.out; have := Hl.out; simp; omega) x (HxA.out.keep ((Mod.refl _ wr).alloc _)) hmay)
        have Hal : Hid ((l.take (j + 1)).all mayB = true) := by show _ = _; rw [all_succ Hx.out, Hall.out, hmay]; rfl
        clear hps2 hmay
        go_wp2_with fail
        refine Hadd.out.mono ?_
        rintro e w2 ⟨rfl, h2⟩
        have H2 : Hid (PS w g (xs ++ recsB (l.take (j + 1))) w2) := by show PS _ _ _ _; rw [recsB_succ Hx.out, ← List.append_assoc]; exact h2
        clear h2 Hadd p0 p1 p2 p3 p4 p5 p6 p7 p8 p9 p10 p11 p12 p13
        go_wp2
        go_roundw
        case rel => exact ⟨j + 1, by omega, by go_num, Hal.out, H2.out⟩
        case measure => simp [intOf]; omega
    · obtain rfl : j = n := by omega
      have e : l.take j = l := List.take_of_length_le (by rw [Hlen.out]; omega)
      rw [e] at Hall Hps
      clear e
      go_wp2
      go_ret
      exact ⟨by rw [eachE_yes Hall.out]; rfl, fun _ => Hps.out, Hps.out.old⟩
end Go.Proofs.YtnbamljaiahmdaaGreat

namespace Go.Proofs.YtnbamljaiahmdaaGreat
open Go Go.RowKit Go.Shelf

/-- What Pack answers: bytes in a row of the call's own, and an error. -/
structure PackAns (w : World) (er : Int) (bs : List UInt8) (e : Ending) (w' : World) : Prop where
  ex : ∃ A m c, e = .returned (.tuple #[.slice A m c, .int .i64 er]) ∧ OwV w' w.heap.size 5 A m c (bs.map bv)
  old : Mod (fun _ => False) w w'

set_option maxRecDepth 100000 in
set_option maxHeartbeats 2000000 in
theorem pack_ok (w : World) (x : BtD) (hx : x.At w) (hn : x.n ≤ 200) :
    Calls Tryz.prog 57 #[x.val] w (PackAns w (packE x.e x.s x.f x.l) (packR x.e x.s x.f x.l)) := by
  obtain ⟨w1, hw1⟩ : ∃ w1, w.alloc (.cells x.cells 68) = w1 := ⟨_, rfl⟩
  have hI : x.In w1 w.heap.size := by rw [← hw1]; exact BtD.In.new w x
  have hm1 : Mod (fun _ => False) w w1 := by rw [← hw1]; exact (Mod.refl _ w).alloc _
  have Hm1 := Lib.hid hm1
  have HI1 := Lib.hid hI
  have Hx := Lib.hid hx
  have Hn := Lib.hid hn
  have hlen : x.l.length = x.n := Rs.len hx
  have Hlen := Lib.hid hlen
  have Hw1 := Lib.hid hw1
  have Hh := Lib.hid (mayHead_ok w1 x)
  have c0 := hI.c0
  have c1 := hI.c1
  have c2 := hI.c2
  have c3 := hI.c3
  clear hI hm1 hx hn hlen hw1
  go_enter Tryz.func57, Tryz.ntmps57
  go_wp2_with fail
  rw [show w.alloc (.cells x.cells 68) = w1 from Hw1.out]
  clear Hw1
  refine Hh.out.mono ?_
  rintro e w2 ⟨rfl, hm2⟩
  have Hm2 := Lib.hid (Hm1.out.trans hm2 (fun _ _ h => h))
  have hI2 := HI1.out.keep hm2
  have HI2 := Lib.hid hI2
  clear c0 c1 c2 c3 Hh hm2 Hm1 HI1
  cases hh : headOk x.e x.s x.f with
  | false =>
    have He : Hid (packE x.e x.s x.f x.l = 1) := packE_arg hh
    have Hb : Hid (packR x.e x.s x.f x.l = []) := packR_no (by rw [He.out]; decide)
    clear hh hI2
    go_wp2
    go_ret2
    exact ⟨⟨none, 0, 0, by rw [He.out]; rfl, by rw [Hb.out]; exact OwV.nil _ _ _⟩, Hm2.out⟩
  | true =>
  have hp := ps_new w2
  have hmp : Mod (fun _ => False) w2 (w2.alloc (.cells #[.slice none 0 0] 128)) := (Mod.refl _ w2).alloc _
  have hI3 := hI2.keep hmp
  have d0 := hI3.c0
  have d1 := hI3.c1
  have d2 := hI3.c2
  have d3 := hI3.c3
  have Hb := Lib.hid (begin_ok w2 _ _ hp x hh Hn.out)
  have Hhd := Lib.hid hh
  clear hh hI2 hp hmp hI3
  obtain ⟨w3, hw3⟩ : ∃ w3, w2.alloc (.cells #[.slice none 0 0] 128) = w3 := ⟨_, rfl⟩
  rw [hw3] at Hb d0 d1 d2 d3
  go_wp2_with fail
  refine Hb.out.mono ?_
  rintro e w4 ⟨rfl, h4⟩
  have hI4 := HI2.out.keep h4.old
  have d3 := hI4.c3
  have hE := each_ok w2 w4 _ _ h4 (by rw [headB_len]; omega) x.A x.n x.c x.l (Rs.keep Hx.out Hm2.out) Hn.out
  have HE := Lib.hid hE
  clear d0 d1 d2 hw3 hE h4 hI4 Hb
  go_wp2_with fail
  refine HE.out.mono ?_
  rintro e w5 ⟨rfl, h5, hm5⟩
  have Hm5 := Lib.hid (Hm2.out.trans hm5 (fun _ _ h => h))
  have HI5 := Lib.hid (HI2.out.keep hm5)
  have H5 := Lib.hid h5
  clear h5 hm5 HE d3 HI2 Hm2
  cases hall : x.l.all mayB with
  | false =>
    have He : Hid (packE x.e x.s x.f x.l = 1) := packE_rec hall
    have Hb : Hid (packR x.e x.s x.f x.l = []) := packR_no (by rw [He.out]; decide)
    rw [eachE_no hall]
    clear hall H5
    go_wp2
    go_ret2
    exact ⟨⟨none, 0, 0, by rw [He.out]; rfl, by rw [Hb.out]; exact OwV.nil _ _ _⟩, Hm5.out⟩
  | true =>
  rw [eachE_yes hall]
  have h5 : PS w2 w2.heap.size (packB x.e x.s x.f x.l) w5 := by unfold packB; rw [Hlen.out]; exact H5.out hall
  have hrl : (packB x.e x.s x.f x.l).length ≤ 20000 := by
    have h1 := recsB_len (fun y hy => Hx.out.ats y hy) hall
    have h2 := Hlen.out
    have h3 := Hn.out
    have h4 : x.l.length * 76 ≤ 200 * 76 := Nat.mul_le_mul_right 76 (by omega)
    unfold packB
    rw [List.length_append, headB_len]
    omega
  have HB := Lib.hid (ps_bytes h5 (by omega))
  have Hall := Lib.hid hall
  have Hrl := Lib.hid hrl
  clear h5 H5 hall hrl
  obtain ⟨m, hm⟩ : ∃ m, (packB x.e x.s x.f x.l).length = m := ⟨_, rfl⟩
  have Hmm := Lib.hid hm
  rw [hm] at HB
  have hmI : (m : Int) ≤ 20000 := by have := Hrl.out; omega
  clear hm
  go_wp2_with fail
  refine HB.out.mono ?_
  rintro e w6 ⟨rfl, hf1, _, hf3⟩
  have Hm6 := Lib.hid (Hm5.out.trans hf3 (fun _ _ h => h))
  have d3 := (HI5.out.keep hf3).c3
  have Hf1 := Lib.hid hf1
  clear hf1 hf3 HB HI5
  by_cases h60 : 60 < x.n
  · have He : Hid (packE x.e x.s x.f x.l = 2) := packE_long Hhd.out Hall.out (.inl (by rw [Hlen.out]; exact h60))
    have Hb : Hid (packR x.e x.s x.f x.l = []) := packR_no (by rw [He.out]; decide)
    have hd : decide ((60 : Int) < x.n) = true := by simp; omega
    clear h60
    go_wp2
    go_ret2
    exact ⟨⟨none, 0, 0, by rw [He.out]; rfl, by rw [Hb.out]; exact OwV.nil _ _ _⟩, Hm6.out⟩
  by_cases h248 : 248 < m
  · have He : Hid (packE x.e x.s x.f x.l = 2) := packE_long Hhd.out Hall.out (.inr (by rw [Hmm.out]; exact h248))
    have Hb : Hid (packR x.e x.s x.f x.l = []) := packR_no (by rw [He.out]; decide)
    have hd : decide ((60 : Int) < x.n) = false := by simp; omega
    have hd2 : decide ((248 : Int) < m) = true := by simp; omega
    clear h60 h248
    go_wp2
    go_ret2
    exact ⟨⟨none, 0, 0, by rw [He.out]; rfl, by rw [Hb.out]; exact OwV.nil _ _ _⟩, Hm6.out⟩
  · have He : Hid (packE x.e x.s x.f x.l = 0) := packE_ok Hhd.out Hall.out (by rw [Hmm.out, Hlen.out]; omega)
    have Hb : Hid (packR x.e x.s x.f x.l = packB x.e x.s x.f x.l) := packR_ok He.out
    have hd : decide ((60 : Int) < x.n) = false := by simp; omega
    have hd2 : decide ((248 : Int) < m) = false := by simp; omega
    have Hlt : Hid (w.heap.size ≤ w5.heap.size) := Hm5.out.size
    clear h60 h248
    go_wp2
    go_ret2
    refine ⟨⟨some ⟨w5.heap.size, 0, none⟩, m, m, by rw [He.out]; rfl, ?_⟩, Hm6.out⟩
    rw [Hb.out]
    have := OwV.of_block (base := w.heap.size) (e := 5) (cur := (packB x.e x.s x.f x.l).map bv) Hlt.out Hf1.out (by rw [List.length_map, Hmm.out]; have := Hrl.out; rw [Hmm.out] at this; unfold maxLen; omega)
    rw [List.length_map, Hmm.out] at this
    exact this

def fitsB (l : List RcD) : Bool := packE 0 0 0 l == 0
set_option maxRecDepth 100000 in
theorem fits_ok (w : World) (A : Option Addr) (n c : Nat) (l : List RcD) (h : Rs w A n c l) (hn : n ≤ 200) :
    Calls Tryz.prog 34 #[.slice A n c] w fun e w' => e = .returned (.bool (fitsB l)) ∧ Mod (fun _ => False) w w' := by
  have hp := pack_ok w ⟨0, 0, 0, A, n, c, l⟩ h hn
  have Hp : Hid (Calls Tryz.prog 57 #[.agg #[.int .i64 0, .int .i64 0, .int .i64 0, .slice A n c]] w (PackAns w (packE 0 0 0 l) (packR 0 0 0 l))) := hp
  clear hp h hn
  go_enter Tryz.func34, Tryz.ntmps34
  go_wp2_with fail
  refine Hp.out.mono ?_
  rintro e w1 ⟨⟨A1, m1, c1, rfl, _⟩, hm⟩
  have Hm := Lib.hid hm
  clear hm Hp
  go_wp2
  go_ret
  exact ⟨rfl, Hm.out⟩
end Go.Proofs.YtnbamljaiahmdaaGreat

namespace Go.Proofs.YtnbamljaiahmdaaGreat
open Go Go.RowKit

theorem fitsB_iff (l : List RcD) : fitsB l = true ↔ l.all mayB = true ∧ l.length ≤ 60 ∧ 11 + (recsB l).length ≤ 248 := by
  have hp : (packB 0 0 0 l).length = 11 + (recsB l).length := by unfold packB; rw [List.length_append, headB_len]
  unfold fitsB
  rw [beq_iff_eq]
  constructor
  · intro h
    obtain ⟨_, h2, h3, h4⟩ := packE_zero h
    exact ⟨h2, h3, by omega⟩
  · rintro ⟨h2, h3, h4⟩
    exact packE_ok rfl h2 (by omega)
theorem recsB_append (a b : List RcD) : recsB (a ++ b) = recsB a ++ recsB b := List.flatMap_append
theorem fits_packs {e s f : Int} {l : List RcD} (h : packE e s f l = 0) : fitsB l = true := by
  obtain ⟨_, h2, h3, h4⟩ := packE_zero h
  unfold packB at h4
  rw [List.length_append, headB_len] at h4
  exact (fitsB_iff l).2 ⟨h2, h3, h4⟩
end Go.Proofs.YtnbamljaiahmdaaGreat

namespace Go.Proofs.YtnbamljaiahmdaaGreat
open Go Go.RowKit

def lsnV (s i : Int) : Int := if inB s 16777215 && inB i 255 then 256 * s + i else 0
def seqV (n : Int) : Int := if inB n 4294967295 then n / 256 else 0
def idxV (n : Int) : Int := if inB n 4294967295 then n % 256 else 0
theorem inB_iff {n m : Int} : inB n m = true ↔ 0 ≤ n ∧ n ≤ m := by simp [inB]
theorem inB_not {n m : Int} (h : inB n m = false) : n < 0 ∨ m < n := by
  rcases Int.lt_or_le n 0 with h0 | h0
  · exact .inl h0
  rcases Int.lt_or_le m n with h1 | h1
  · exact .inr h1
  · rw [inB_iff.2 ⟨h0, h1⟩] at h; cases h

set_option maxRecDepth 100000 in
theorem lsn_ok (w : World) (s i : Int) :
    Calls Tryz.prog 25 #[.int .i64 s, .int .i64 i] w fun e w' => e = .returned (.int .i64 (lsnV s i)) ∧ w = w' := by
  have H1 := Lib.hid (within_ok w s 16777215)
  have H2 := Lib.hid (within_ok w i 255)
  cases h1 : inB s 16777215 with
  | false =>
    have Hr : Hid (lsnV s i = 0) := by show _ = _; unfold lsnV; rw [h1]; rfl
    rw [h1] at H1
    clear h1
    go_enter Tryz.func25, Tryz.ntmps25
    go_wp2_with fail
    refine H1.out.mono ?_
    rintro e w2 ⟨rfl, rfl⟩
    clear H1 H2
    go_wp2
    go_ret
    exact ⟨by rw [Hr.out]; rfl, rfl⟩
  | true =>
    rw [h1] at H1
    cases h2 : inB i 255 with
    | false =>
      have Hr : Hid (lsnV s i = 0) := by show _ = _; unfold lsnV; rw [h1, h2]; rfl
      rw [h2] at H2
      clear h1 h2
      go_enter Tryz.func25, Tryz.ntmps25
      go_wp2_with fail
      refine H1.out.mono ?_
      rintro e w2 ⟨rfl, rfl⟩
      go_wp2_with fail
      refine H2.out.mono ?_
      rintro e w2 ⟨rfl, rfl⟩
      clear H1 H2
      go_wp2
      go_ret
      exact ⟨by rw [Hr.out]; rfl, rfl⟩
    | true =>
      have Hr : Hid (lsnV s i = 256 * s + i) := by show _ = _; unfold lsnV; rw [h1, h2]; rfl
      rw [h2] at H2
      obtain ⟨a0, a1⟩ := inB_iff.1 h1
      obtain ⟨b0, b1⟩ := inB_iff.1 h2
      clear h1 h2
      go_enter Tryz.func25, Tryz.ntmps25
      go_wp2_with fail
      refine H1.out.mono ?_
      rintro e w2 ⟨rfl, rfl⟩
      go_wp2_with fail
      refine H2.out.mono ?_
      rintro e w2 ⟨rfl, rfl⟩
      clear H1 H2
      go_wp2
      go_ret
      exact ⟨by rw [Hr.out]; rfl, rfl⟩

end Go.Proofs.YtnbamljaiahmdaaGreat
