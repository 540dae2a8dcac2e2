/-
  Slices of records and batches in memory; a batch's bytes; a Writer that is a packer's.
-/
import Derived.Test.YtpkgeidenkjnfaaLaws7
import Derived.Test.YtpkgeidenkjnfaaTake7
import Derived.StillTailTactics
import Derived.Shelf.Abstract
namespace Go.Proofs.Ytpkgeidenkjnfaa
open Go Go.RowKit Go.Shelf

/-! ### Slices of records -/
/-- A record's cells, from a place on. -/
structure RcD.Cells (w : World) (x : RcD) (b o : Nat) : Prop where
  k : w.cell? ⟨b, o, none⟩ = some (.int .i64 x.k)
  f1 : w.cell? ⟨b, o + 1, none⟩ = some (.int .i64 (x.f 1))
  f2 : w.cell? ⟨b, o + 2, none⟩ = some (.int .i64 (x.f 2))
  f3 : w.cell? ⟨b, o + 3, none⟩ = some (.int .i64 (x.f 3))
  f4 : w.cell? ⟨b, o + 4, none⟩ = some (.int .i64 (x.f 4))
  f5 : w.cell? ⟨b, o + 5, none⟩ = some (.int .i64 (x.f 5))
  f6 : w.cell? ⟨b, o + 6, none⟩ = some (.int .i64 (x.f 6))
  f7 : w.cell? ⟨b, o + 7, none⟩ = some (.int .i64 (x.f 7))
  f8 : w.cell? ⟨b, o + 8, none⟩ = some (.int .i64 (x.f 8))
  f9 : w.cell? ⟨b, o + 9, none⟩ = some (.int .i64 (x.f 9))
  c10 : w.cell? ⟨b, o + 10, none⟩ = some (.bool x.o.is)
  c11 : w.cell? ⟨b, o + 11, none⟩ = some (.slice x.o.B x.o.m x.o.d)
  c12 : w.cell? ⟨b, o + 12, none⟩ = some (.bool x.v.is)
  c13 : w.cell? ⟨b, o + 13, none⟩ = some (.slice x.v.B x.v.m x.v.d)
theorem RcD.Cells.of {w : World} {x : RcD} {b o : Nat} (h : ∀ (j : Nat) (u : Value), x.cells[j]? = some u → w.cell? ⟨b, o + j, none⟩ = some u) : x.Cells w b o :=
  ⟨h 0 _ rfl, h 1 _ rfl, h 2 _ rfl, h 3 _ rfl, h 4 _ rfl, h 5 _ rfl, h 6 _ rfl, h 7 _ rfl, h 8 _ rfl, h 9 _ rfl, h 10 _ rfl, h 11 _ rfl, h 12 _ rfl, h 13 _ rfl⟩
theorem RcD.Cells.get {w : World} {x : RcD} {b o : Nat} (h : x.Cells w b o) {j : Nat} {u : Value} (hj : x.cells[j]? = some u) : w.cell? ⟨b, o + j, none⟩ = some u := by
  have hlt : j < 14 := (Array.getElem?_eq_some_iff.1 hj).1
  match j, hlt with
  | 0, _ => injection hj with e; subst e; exact h.k
  | 1, _ => injection hj with e; subst e; exact h.f1
  | 2, _ => injection hj with e; subst e; exact h.f2
  | 3, _ => injection hj with e; subst e; exact h.f3
  | 4, _ => injection hj with e; subst e; exact h.f4
  | 5, _ => injection hj with e; subst e; exact h.f5
  | 6, _ => injection hj with e; subst e; exact h.f6
  | 7, _ => injection hj with e; subst e; exact h.f7
  | 8, _ => injection hj with e; subst e; exact h.f8
  | 9, _ => injection hj with e; subst e; exact h.f9
  | 10, _ => injection hj with e; subst e; exact h.c10
  | 11, _ => injection hj with e; subst e; exact h.c11
  | 12, _ => injection hj with e; subst e; exact h.c12
  | 13, _ => injection hj with e; subst e; exact h.c13
theorem RcD.Cells.keep {w w' : World} {x : RcD} {b o : Nat} (h : x.Cells w b o) (hk : w'.heap[b]? = w.heap[b]?) : x.Cells w' b o :=
  .of fun _ _ hu => (World.cell?_of_block hk).trans (h.get hu)
theorem RcD.Cells.lt {w : World} {x : RcD} {b o : Nat} (h : x.Cells w b o) : b < w.heap.size := World.block_lt_of_cell? w _ h.k

structure Rs (w : World) (A : Option Addr) (n c : Nat) (l : List RcD) : Prop where
  len : l.length = n
  cap : n ≤ c
  cells : 0 < n → ∃ b o, A = some ⟨b, o, none⟩ ∧ ∀ (i : Nat) (x : RcD), l[i]? = some x → x.Cells w b (o + i * 14)
  ats : ∀ x ∈ l, x.At w
section
variable {w w' : World} {A : Option Addr} {n c : Nat} {l : List RcD}
theorem Rs.nil (w : World) (A : Option Addr) (c : Nat) : Rs w A 0 c [] := ⟨rfl, Nat.zero_le _, fun h => absurd h (by omega), by simp⟩
theorem Rs.keep (h : Rs w A n c l) (hm : Mod (fun _ => False) w w') : Rs w' A n c l := by
  refine ⟨h.len, h.cap, fun hp => ?_, fun x hx => (h.ats x hx).keep hm⟩
  obtain ⟨b, o, hA, hc⟩ := h.cells hp
  exact ⟨b, o, hA, fun i x hx => (hc i x hx).keep (hm.block b (hc i x hx).lt id)⟩
theorem Rs.pre (h : Rs w A n c l) {k : Nat} (hk : k ≤ n) : Rs w A k c (l.take k) := by
  have := h.len
  have := h.cap
  refine ⟨by simp; omega, by omega, fun hp => ?_, fun x hx => h.ats x (List.mem_of_mem_take hx)⟩
  obtain ⟨b, o, hA, hc⟩ := h.cells (by omega)
  refine ⟨b, o, hA, fun i x hx => hc i x ?_⟩
  rw [List.getElem?_take] at hx
  split at hx
  · exact hx
  · cases hx
end

/-! ### Batches -/
structure BtD where
  e : Int
  s : Int
  f : Int
  A : Option Addr
  n : Nat
  c : Nat
  l : List RcD
abbrev BtD.cells (x : BtD) : Array Value := #[.int .i64 x.e, .int .i64 x.s, .int .i64 x.f, .slice x.A x.n x.c]
abbrev BtD.val (x : BtD) : Value := .agg x.cells
def BtD.At (w : World) (x : BtD) : Prop := Rs w x.A x.n x.c x.l
def BtD.In (w : World) (x : BtD) (g : Nat) : Prop := w.heap[g]? = some (.cells x.cells 24 (0, 0))
section
variable {w w' : World} {x : BtD} {g : Nat}
theorem BtD.At.keep (h : x.At w) (hm : Mod (fun _ => False) w w') : x.At w' := Rs.keep h hm
theorem BtD.In.lt (h : x.In w g) : g < w.heap.size := (Array.getElem?_eq_some_iff.1 h).1
theorem BtD.In.fz (h : x.In w g) (i : Nat) : w.frozen? ⟨g, i, none⟩ = false := frozen_of_block h i
theorem BtD.In.c0 (h : x.In w g) : w.cell? ⟨g, 0, none⟩ = some (.int .i64 x.e) := by rw [cell_of_row w g 0 _ _ _ h]; rfl
theorem BtD.In.c1 (h : x.In w g) : w.cell? ⟨g, 1, none⟩ = some (.int .i64 x.s) := by rw [cell_of_row w g 1 _ _ _ h]; rfl
theorem BtD.In.c2 (h : x.In w g) : w.cell? ⟨g, 2, none⟩ = some (.int .i64 x.f) := by rw [cell_of_row w g 2 _ _ _ h]; rfl
theorem BtD.In.c3 (h : x.In w g) : w.cell? ⟨g, 3, none⟩ = some (.slice x.A x.n x.c) := by rw [cell_of_row w g 3 _ _ _ h]; rfl
theorem BtD.In.mod {F : Nat → Prop} (h : x.In w g) (hm : Mod F w w') (hg : ¬ F g) : x.In w' g := (hm.block g h.lt hg).trans h
theorem BtD.In.keep (h : x.In w g) (hm : Mod (fun _ => False) w w') : x.In w' g := h.mod hm id
theorem BtD.In.new (w : World) (x : BtD) : x.In (w.alloc (.cells x.cells 24)) w.heap.size := heap_alloc_new w _
end

/-! ### A batch's bytes -/
def inB (n m : Int) : Bool := decide (0 ≤ n) && decide (n ≤ m)
def headOk (e s f : Int) : Bool := inB e 65535 && inB s 16777215 && inB f s
def lenc (x : RcD) : List UInt8 := UInt8.ofNat (encB x).length :: encB x
def recsB (l : List RcD) : List UInt8 := l.flatMap lenc
def headB (e s f : Int) (n : Nat) : List UInt8 := le 2 e.toNat ++ le 4 s.toNat ++ le 4 f.toNat ++ le 1 n
def packB (e s f : Int) (l : List RcD) : List UInt8 := headB e s f l.length ++ recsB l
def packE (e s f : Int) (l : List RcD) : Int :=
  if headOk e s f && l.all mayB then (if 60 < l.length ∨ 248 < (packB e s f l).length then 2 else 0) else 1
def packR (e s f : Int) (l : List RcD) : List UInt8 := if packE e s f l = 0 then packB e s f l else []
theorem headB_len (e s f : Int) (n : Nat) : (headB e s f n).length = 11 := by simp [headB, le_length]
theorem headOk_bd {e s f : Int} (h : headOk e s f = true) : 0 ≤ e ∧ e ≤ 65535 ∧ 0 ≤ s ∧ s ≤ 16777215 ∧ 0 ≤ f ∧ f ≤ s := by
  simp [headOk, inB] at h
  omega
theorem packE_arg {e s f : Int} {l : List RcD} (h : headOk e s f = false) : packE e s f l = 1 := by unfold packE; rw [h]; rfl
theorem packE_rec {e s f : Int} {l : List RcD} (h : l.all mayB = false) : packE e s f l = 1 := by unfold packE; rw [h, Bool.and_false]; rfl
theorem packE_long {e s f : Int} {l : List RcD} (h : headOk e s f = true) (h2 : l.all mayB = true) (hl : 60 < l.length ∨ 248 < (packB e s f l).length) : packE e s f l = 2 := by unfold packE; rw [h, h2, Bool.and_true, if_pos rfl, if_pos hl]
theorem packE_ok {e s f : Int} {l : List RcD} (h : headOk e s f = true) (h2 : l.all mayB = true) (hl : ¬ (60 < l.length ∨ 248 < (packB e s f l).length)) : packE e s f l = 0 := by unfold packE; rw [h, h2, Bool.and_true, if_pos rfl, if_neg hl]
theorem packE_zero {e s f : Int} {l : List RcD} (h : packE e s f l = 0) : headOk e s f = true ∧ l.all mayB = true ∧ l.length ≤ 60 ∧ (packB e s f l).length ≤ 248 := by
  unfold packE at h
  split at h
  · rename_i h1
    split at h
    · cases h
    · rename_i h2
      rw [Bool.and_eq_true] at h1
      exact ⟨h1.1, h1.2, by omega, by omega⟩
  · cases h
theorem packR_no {e s f : Int} {l : List RcD} (h : packE e s f l ≠ 0) : packR e s f l = [] := by unfold packR; rw [if_neg h]
theorem packR_ok {e s f : Int} {l : List RcD} (h : packE e s f l = 0) : packR e s f l = packB e s f l := by unfold packR; rw [if_pos h]
theorem lenc_len {w : World} {x : RcD} (hx : x.At w) (h : mayB x = true) : (lenc x).length ≤ 76 := by
  have := (encB_size hx h).2
  unfold lenc
  rw [List.length_cons]
  omega
theorem recsB_len {w : World} : ∀ {l : List RcD}, (∀ x ∈ l, x.At w) → l.all mayB = true → (recsB l).length ≤ l.length * 76
  | [], _, _ => by simp [recsB]
  | x :: l, hx, h => by
    rw [List.all_cons, Bool.and_eq_true] at h
    have h1 := lenc_len (hx x (List.mem_cons_self ..)) h.1
    have h2 := recsB_len (fun y hy => hx y (List.mem_cons_of_mem _ hy)) h.2
    simp only [recsB, List.flatMap_cons, List.length_append, List.length_cons] at *
    omega
theorem recsB_succ {l : List RcD} {j : Nat} {x : RcD} (h : l[j]? = some x) : recsB (l.take (j + 1)) = recsB (l.take j) ++ lenc x := by
  obtain ⟨hj, e⟩ := List.getElem?_eq_some_iff.1 h
  unfold recsB
  rw [List.take_succ_eq_append_getElem hj, List.flatMap_append, e]
  simp
theorem all_succ {l : List RcD} {j : Nat} {x : RcD} (h : l[j]? = some x) : (l.take (j + 1)).all mayB = ((l.take j).all mayB && mayB x) := by
  obtain ⟨hj, e⟩ := List.getElem?_eq_some_iff.1 h
  rw [List.take_succ_eq_append_getElem hj, List.all_append, e]
  simp
theorem all_no {l : List RcD} {j : Nat} {x : RcD} (h : l[j]? = some x) (hx : mayB x = false) : l.all mayB = false := by
  rw [List.all_eq_false]
  exact ⟨x, List.mem_of_getElem? h, by rw [hx]; simp⟩

/-! ### A packer -/
/-- A block whose type is no Writer's and not bytes' has not turned. -/
def Far (W W' : World) : Prop := ∀ (b : Nat) (cs : Array Value) (t : TypeId) (fr : Nat × Nat), W.heap[b]? = some (Obj.cells cs t fr) → t ≠ 5 → t ≠ 50 → t ≠ 52 → W'.heap[b]? = W.heap[b]?
theorem far_of {W W' : World} {base g : Nat} {A : Option Addr} {n c : Nat} {xs : List UInt8} (h : Wr W base g A n c xs) (hm : Mod (WF g A) W W') : Far W W' := by
  intro b cs t fr hb h1 h2 h3
  refine hm.block b (Array.getElem?_eq_some_iff.1 hb).1 (fun e => ?_)
  rcases e with e | e
  · subst e
    obtain ⟨T, hT, e⟩ := h.2.1
    rw [hb] at e
    injection e with e
    injection e with _ e
    subst e
    rcases hT with e | e
    · exact h2 e
    · exact h3 e
  · obtain ⟨_, cur, hc, _⟩ := h.2.2.block e
    rw [hb] at hc
    injection hc with e
    injection e with _ e
    exact h1 e
theorem BtD.In.far {W W' : World} {x : BtD} {g : Nat} (h : x.In W g) (hf : Far W W') : x.In W' g := (hf g _ _ _ h (by decide) (by decide) (by decide)).trans h
/-- A packer in new memory, whose Writer has these bytes; nothing old has turned. -/
structure PS (w : World) (g : Nat) (xs : List UInt8) (W : World) : Prop where
  ex : ∃ A n c, Wr W w.heap.size g A n c xs
  old : Mod (fun _ => False) w W
section
variable {w W W' : World} {g : Nat} {xs ys : List UInt8}
theorem PS.keep (h : PS w g xs W) (hm : Mod (fun _ => False) W W') : PS w g xs W' := by
  obtain ⟨A, n, c, hw⟩ := h.ex
  exact ⟨⟨A, n, c, hw.mod hm id (fun _ _ => id)⟩, h.old.trans hm (fun _ _ h => h)⟩
theorem ps_new (w : World) : PS w w.heap.size [] (w.alloc (.cells #[.slice none 0 0] 52)) :=
  ⟨⟨none, 0, 0, ⟨Nat.le_refl _, ⟨_, .inr rfl, heap_alloc_new w _⟩, OwV.nil _ _ _⟩⟩, (Mod.refl _ w).alloc _⟩
theorem ps_bytes (h : PS w g xs W) (hl : xs.length ≤ 900000) :
    Calls Try.prog 28 #[.pointer (some ⟨g, 0, none⟩)] W fun e w' => e = .returned (.slice (some ⟨W.heap.size, 0, none⟩) xs.length xs.length) ∧ Fresh W w' xs := by
  obtain ⟨A, n, c, hw⟩ := h.ex
  have hn : xs.length = n := by have := hw.2.2.len; simpa using this
  subst hn
  exact bytes_ok W _ _ A _ c xs hw (by omega)
theorem ps_put (h : PS w g xs W) (hl : xs.length ≤ 900000) (n k : Int) (hk : widthOk k = true) (hn0 : 0 ≤ n) (hn : n < 256 ^ k.toNat) :
    Calls Try.prog 36 #[.pointer (some ⟨g, 0, none⟩), .int .i64 n, .int .i64 k] W fun e W' => e = .returned (.int .i64 0) ∧ PS w g (xs ++ le k.toNat n.toNat) W' ∧ Far W W' := by
  obtain ⟨A, m, c, hw⟩ := h.ex
  have hm : xs.length = m := by have := hw.2.2.len; simpa using this
  refine (put_ok W _ _ A m c xs hw (by omega) n k hk hn0 hn).mono ?_
  rintro e W' ⟨rfl, A', c', h1, h2, _⟩
  exact ⟨rfl, ⟨⟨_, _, _, h1⟩, wr_old hw h.old h2⟩, far_of hw h2⟩
end
end Go.Proofs.Ytpkgeidenkjnfaa
