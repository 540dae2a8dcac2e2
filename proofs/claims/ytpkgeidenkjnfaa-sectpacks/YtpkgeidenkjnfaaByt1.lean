/-
  The contracts of package byt's functions, callees first.
-/
import Derived.Test.YtpkgeidenkjnfaaRows
import Derived.Test.YtpkgeidenkjnfaaWords
import Derived.Test.YtpkgeidenkjnfaaMath
namespace Go.Proofs.Ytpkgeidenkjnfaa
open Go Go.RowKit

theorem byteElem : Elem Try.prog 27 5 (.int .u8 0) 1 := Elem.mk_ Try.underlying27 rfl (by kernel_rfl)

theorem run_makeBytes (n : Nat) (hn : n ≤ 140737488355328) (w : World) :
    (Instr.makeSlice 27 (.int .i64 (n : Int)) (.int .i64 (n : Int))).run Try.prog w =
      .ok (.slice (some ⟨w.heap.size, 0, none⟩) n n) (w.alloc (.cells (madeCells #[.int .u8 0] n) 5)) := by
  obtain ⟨ht, _, i, hi, hz, hsz, hby⟩ := byteElem
  have hb : (i.bytes : Int) * (n : Int) ≤ 281474976710656 := by rw [hby]; omega
  have hr := run_make (P := Try.prog) w 27 5 i (.int .u8 0) ht hi hz .i64 .i64 n n (by omega) (by omega) hb (by omega)
  simpa [hsz, Value.cells] using hr

set_option maxHeartbeats 400000 in
theorem clone_ok (w : World) (A : Option Addr) (n c : Nat) (xs : List UInt8) (h : Sl w A n c xs) (hn : n ≤ 140737488355328) :
    Calls Try.prog 39 #[.slice A n c] w fun e w' => e = .returned (.slice (some ⟨w.heap.size, 0, none⟩) n n) ∧
      w'.heap[w.heap.size]? = some (.cells (xs.map bv).toArray 5 (0, 0)) ∧ w'.heap.size = w.heap.size + 1 ∧ Mod (fun _ => False) w w' := by
  have hmk := fun W => run_makeBytes n hn W
  go_enter Try.func39, Try.ntmps39
  go_wp2_with (with_reducible refine wpList_copyall (.tmp 7) (.tmp 8) (g := w.heap.size) (n := n) (cur := List.replicate n (.int .u8 0)) (news := xs.map bv) byteElem rfl rfl rfl rfl ?hg (by simp) ?hs ?_)
  case hg =>
    rw [heap_alloc_new]
    have e : madeCells #[Value.int .u8 0] n = (List.replicate n (Value.int .u8 0)).toArray := by
      rw [← toList_madeCells_one]
    rw [e]
  case hs => exact (h.alloc _).src
  intro w1 hb hm hz
  have hmod : Mod (fun _ => False) w w1 := ((Mod.refl (fun _ => False) w).alloc _).trans hm (fun i hi e => by omega)
  have Hb := Lib.hid hb
  have Hz := Lib.hid hz
  clear hb hz hmk
  go_wp2
  go_ret
  exact ⟨rfl, Hb.out, Hz.out, hmod⟩

/-- A Writer at block g, whose bytes lie in a row of the call's own and are xs. -/
def Wr (w : World) (base g : Nat) (A : Option Addr) (n c : Nat) (xs : List UInt8) : Prop :=
  base ≤ g ∧ (∃ T, (T = 50 ∨ T = 52) ∧ w.heap[g]? = some (.cells #[.slice A n c] T (0, 0))) ∧ OwV w base 5 A n c (xs.map bv)

theorem Wr.cell {w : World} {base g : Nat} {A : Option Addr} {n c : Nat} {xs : List UInt8} (h : Wr w base g A n c xs) : w.cell? ⟨g, 0, none⟩ = some (.slice A n c) := by
  obtain ⟨_, _, e⟩ := h.2.1; rw [cell_of_row w g 0 _ _ _ e]; rfl
theorem Wr.frozen {w : World} {base g : Nat} {A : Option Addr} {n c : Nat} {xs : List UInt8} (h : Wr w base g A n c xs) : w.frozen? ⟨g, 0, none⟩ = false := by
  obtain ⟨_, _, this⟩ := h.2.1
  simp [World.frozen?, this]
theorem Wr.lt {w : World} {base g : Nat} {A : Option Addr} {n c : Nat} {xs : List UInt8} (h : Wr w base g A n c xs) : g < w.heap.size := by obtain ⟨_, _, e⟩ := h.2.1; exact (Array.getElem?_eq_some_iff.1 e).1
theorem Wr.ne {w : World} {base g : Nat} {A : Option Addr} {n c : Nat} {xs : List UInt8} (h : Wr w base g A n c xs) : blkOf A ≠ some g := by
  intro e
  obtain ⟨_, cur, hc, _⟩ := h.2.2.block e
  obtain ⟨T, hT, e'⟩ := h.2.1
  rw [e'] at hc
  injection hc with hc
  injection hc with _ ht
  rcases hT with rfl | rfl <;> exact absurd ht (by decide)
theorem Wr.mod {F : Nat → Prop} {w w' : World} {base g : Nat} {A : Option Addr} {n c : Nat} {xs : List UInt8} (h : Wr w base g A n c xs) (hm : Mod F w w') (hg : ¬ F g) (hF : ∀ k, blkOf A = some k → ¬ F k) : Wr w' base g A n c xs :=
  ⟨h.1, h.2.1.imp fun _ e => ⟨e.1, (hm.block g h.lt hg).trans e.2⟩, h.2.2.mod hm hF⟩

/-- What a Writer's step may turn: the Writer itself and the row of its bytes. -/
def WF (g : Nat) (A : Option Addr) (k : Nat) : Prop := k = g ∨ blkOf A = some k

theorem Wr.wf {w : World} {base g : Nat} {A : Option Addr} {n c : Nat} {xs : List UInt8} (h : Wr w base g A n c xs) {k : Nat} (hk : k < base) : ¬ WF g A k := by
  rintro (rfl | e)
  · have := h.1; omega
  · have := (h.2.2.lt k e).1; omega
/-- A Writer from 'base' on: a step of it turns nothing below. -/
theorem Wr.step {w0 w w' : World} {base g : Nat} {A : Option Addr} {n c : Nat} {xs : List UInt8} (h : Wr w base g A n c xs) (hm0 : Mod (fun k => base ≤ k) w0 w) (hm : Mod (WF g A) w w') : Mod (fun k => base ≤ k) w0 w' :=
  hm0.trans hm (fun i _ hF => by
    rcases Nat.lt_or_ge i base with hlt | hge
    · exact absurd hF (h.wf hlt)
    · exact hge)

set_option maxHeartbeats 400000 in
theorem add_ok (w : World) (base g : Nat) (A : Option Addr) (n c : Nat) (xs : List UInt8) (h : Wr w base g A n c xs) (B : Option Addr) (m d : Nat) (ys : List UInt8) (hs : Sl w B m d ys)
    (hb : n + m ≤ 1000000) :
    Calls Try.prog 49 #[.pointer (some ⟨g, 0, none⟩), .slice B m d] w fun e w' => e = .returned (.tuple #[]) ∧
      ∃ A' c', Wr w' base g A' (n + m) c' (xs ++ ys) ∧ Mod (WF g A) w w' ∧ (blkOf A' = blkOf A ∨ blkOf A' = some w.heap.size) := by
  have h1 := h.cell
  have h2 := h.frozen
  have hlt := h.lt
  have hne := h.ne
  have Hne := Lib.hid hne
  clear hne
  obtain ⟨T, hTT, hTb⟩ := h.2.1
  have HTT := Lib.hid hTT
  have HTb := Lib.hid hTb
  clear hTT hTb
  go_enter Try.func49, Try.ntmps49
  have hown0 := h.2.2
  have hsrc := hs.src
  have hbase : base ≤ w.heap.size := Nat.le_trans h.1 (Nat.le_of_lt hlt)
  have hml : n + m ≤ maxLen := by unfold maxLen; omega
  go_wp2_with (at_builtin; refine wpList_app (.tmp 8) (.tmp 9) byteElem rfl rfl rfl rfl hown0 hsrc (by omega) hml hbase ?_)
  intro A' c' w' hown hgr hat
  have h3 : w'.cell? ⟨g, 0, none⟩ = some (.slice A n c) := hgr.cell h1 (fun e => Hne.out e.symm)
  have h4 : w'.frozen? ⟨g, 0, none⟩ = false := (hgr.frozen_far ⟨g, 0, none⟩ hlt (fun e => Hne.out e.symm)).trans h2
  have hg3 : w'.heap[g]? = some (.cells #[.slice A n c] T (0, 0)) := (hgr.block g hlt (fun e => Hne.out e.symm)).trans HTb.out
  have Hg3 := Lib.hid hg3
  have Hat := Lib.hid hat
  clear hg3 hat
  go_wp2
  go_end0
  have hm1 : Mod (WF g A) w w' := (Mod.refl (WF g A) w).grown hgr (fun k e _ => .inr e)
  have hng : blkOf A' ≠ some g := by
    rcases Hat.out with e | e
    · rw [e]; exact Hne.out
    · rw [e]; intro e'; injection e' with e'; omega
  refine ⟨rfl, A', c', ⟨h.1, ?_, ?_⟩, hm1.setCell (fun _ => .inl rfl) _, Hat.out⟩
  · exact ⟨T, HTT.out, by rw [heap_set Hg3.out]; rfl⟩
  · have := hown.mod (((Mod.refl (fun k => k = g) w').setCell (p := ⟨g, 0, none⟩) (fun _ => rfl) (.slice A' (n + m) c'))) (fun k e1 e2 => hng (by rw [e1, e2]))
    simpa using this

theorem mayWidth_ok (w : World) (n : Int) (b : Bool) (hb : b = (decide (n = 1) || decide (n = 2) || decide (n = 4))) :
    Calls Try.prog 48 #[.int .i64 n] w fun e w' => e = .returned (.bool b) ∧ w = w' := by
  by_cases h1 : n = 1
  · subst h1; simp at hb; subst hb
    go_enter Try.func48, Try.ntmps48
    go_wp2
    go_ret
    exact ⟨rfl, rfl⟩
  by_cases h2 : n = 2
  · subst h2; simp at hb; subst hb
    go_enter Try.func48, Try.ntmps48
    go_wp2
    go_ret
    exact ⟨rfl, rfl⟩
  by_cases h4 : n = 4
  · subst h4; simp at hb; subst hb
    go_enter Try.func48, Try.ntmps48
    go_wp2
    go_ret
    exact ⟨rfl, rfl⟩
  · simp [h1, h2, h4] at hb; subst hb
    have g1 : (n == 1) = false := by simpa using h1
    have g2 : (n == 2) = false := by simpa using h2
    have g4 : (n == 4) = false := by simpa using h4
    clear h1 h2 h4
    go_enter Try.func48, Try.ntmps48
    go_wp2
    go_ret
    exact ⟨rfl, rfl⟩

def widthOk (k : Int) : Bool := decide (k = 1) || decide (k = 2) || decide (k = 4)

set_option maxHeartbeats 400000 in
theorem put_nil (w : World) (n k : Int) :
    Calls Try.prog 36 #[.pointer none, .int .i64 n, .int .i64 k] w fun e w' => e = .returned (.int .i64 1) ∧ w = w' := by
  go_enter Try.func36, Try.ntmps36
  go_wp2_with fail
  go_ret
  exact ⟨rfl, rfl⟩

set_option maxHeartbeats 400000 in
theorem put_no (w : World) (g : Nat) (n k : Int) (h : widthOk k = false ∨ n < 0 ∨ (256 : Int) ^ k.toNat ≤ n) :
    Calls Try.prog 36 #[.pointer (some ⟨g, 0, none⟩), .int .i64 n, .int .i64 k] w fun e w' => e = .returned (.int .i64 1) ∧ w = w' := by
  have hm := mayWidth_ok w k (widthOk k) rfl
  by_cases hk : widthOk k = false
  · rw [hk] at hm
    have Hm := Lib.hid hm
    clear hm
    go_enter Try.func36, Try.ntmps36
    go_wp2_with (go_at_call 48; refine Hm.out.mono ?_; rintro e w' ⟨rfl, rfl⟩)
    go_ret
    exact ⟨rfl, rfl⟩
  · have hk1 : widthOk k = true := by simpa using hk
    rw [hk1] at hm
    have Hm := Lib.hid hm
    have hk3 : k = 1 ∨ k = 2 ∨ k = 4 := by simpa [widthOk, or_assoc] using hk1
    have h' : n < 0 ∨ (256 : Int) ^ k.toNat ≤ n := by
      rcases h with h | h
      · exact absurd h hk
      · exact h
    clear hm hk h hk1
    by_cases hn : n < 0
    · have hd : decide (n < 0) = true := by simpa using hn
      clear h'
      rcases hk3 with rfl | rfl | rfl
      all_goals
        go_enter Try.func36, Try.ntmps36
        go_wp2_with (go_at_call 48; refine Hm.out.mono ?_; rintro e w' ⟨rfl, rfl⟩)
        go_ret
        exact ⟨rfl, rfl⟩
    · have hd : decide (n < 0) = false := by simpa using hn
      have h'' := h'.resolve_left hn
      clear h'
      rcases hk3 with rfl | rfl | rfl
      all_goals
        simp at h''
        have hn' : 0 ≤ n := by omega
        go_enter Try.func36, Try.ntmps36
        go_wp2_with (go_at_call 48; refine Hm.out.mono ?_; rintro e w' ⟨rfl, rfl⟩)
        go_ret
        exact ⟨rfl, rfl⟩

theorem widthOk_nat {k : Nat} (h : widthOk k = true) : k = 1 ∨ k = 2 ∨ k = 4 := by
  unfold widthOk at h
  simp only [Bool.or_eq_true, decide_eq_true_eq] at h
  omega

/-- Where a Writer's bytes may have gone: they lie where they lay, or in new memory. -/
def Hence (w : World) (A A' : Option Addr) : Prop := blkOf A' = blkOf A ∨ ∃ q, blkOf A' = some q ∧ w.heap.size ≤ q

theorem Wr.alloc {w : World} {base g : Nat} {A : Option Addr} {n c : Nat} {xs : List UInt8} (h : Wr w base g A n c xs) (o : Obj) : Wr (w.alloc o) base g A n c xs :=
  h.mod ((Mod.refl (fun _ => False) w).alloc o) id (fun _ _ => id)

theorem Hence.step {w wr : World} {A A' A2 : Option Addr} (h : Hence w A A') (hs : w.heap.size ≤ wr.heap.size) (h2 : blkOf A2 = blkOf A' ∨ blkOf A2 = some wr.heap.size) : Hence w A A2 := by
  rcases h2 with e | e
  · rcases h with e' | ⟨q, e', hq⟩
    · exact .inl (e.trans e')
    · exact .inr ⟨q, e.trans e', hq⟩
  · exact .inr ⟨_, e, hs⟩
theorem Hence.trans {w wr : World} {A A' A2 : Option Addr} (h : Hence w A A') (hs : w.heap.size ≤ wr.heap.size) (h2 : Hence wr A' A2) : Hence w A A2 := by
  rcases h2 with e | ⟨q, e, hq⟩
  · rcases h with e' | ⟨q, e', hq⟩
    · exact .inl (e.trans e')
    · exact .inr ⟨q, e.trans e', hq⟩
  · exact .inr ⟨_, e, by omega⟩
/-- What a step from A' on may turn was A's, or is new. -/
theorem Hence.wf {w : World} {g : Nat} {A A' : Option Addr} (h : Hence w A A') : ∀ k, k < w.heap.size → WF g A' k → WF g A k := by
  rintro k hk (rfl | e)
  · exact .inl rfl
  · rcases h with e' | ⟨q, e', hq⟩
    · exact .inr (e'.symm.trans e)
    · rw [e'] at e; injection e with e; omega

set_option maxHeartbeats 800000 in
theorem put_ok1 (w : World) (base g : Nat) (A : Option Addr) (m c : Nat) (xs : List UInt8) (h : Wr w base g A m c xs) (hb : m ≤ 900000) (n : Int) (hn0 : 0 ≤ n) (hn : n < 256 ^ 1) :
    Calls Try.prog 36 #[.pointer (some ⟨g, 0, none⟩), .int .i64 n, .int .i64 1] w fun e w' => e = .returned (.int .i64 0) ∧
      ∃ A' c', Wr w' base g A' (m + 1) c' (xs ++ le 1 n.toNat) ∧ Mod (WF g A) w w' ∧ Hence w A A' := by
  have Hm := Lib.hid (mayWidth_ok w 1 true (by decide))
  have hd : decide (n < 0) = false := by simpa using hn0
  simp at hn
  go_enter Try.func36, Try.ntmps36
  go_wp2_with (go_at_call 48; refine Hm.out.mono ?_; rintro e w' ⟨rfl, rfl⟩)
  clear Hm hd
  go_loopw [27] (fun i wr => ∃ (j : Nat) (A' : Option Addr) (c' : Nat), j ≤ 1 ∧ i = .int .i64 j ∧ Wr wr base g A' (m + j) c' (xs ++ le j n.toNat) ∧ Mod (WF g A) w wr ∧ Hence w A A') (fun i _ => 4 - (intOf i).toNat)
  case atStart => exact ⟨0, A, c, by omega, rfl, by simpa [le] using h, Mod.refl _ _, .inl rfl⟩
  case round =>
    obtain ⟨j, A', c', hj, rfl, hw, hmod, hat⟩ := hrel
    by_cases hlt : j < 1
    · go_wp2_with fail
      rw [byte_at n j hn0]
      refine (add_ok _ base g A' (m + j) c' _ (hw.alloc _) _ 1 1 [_] (Sl.one wr _ _) (by omega)).mono ?_
      rintro e w2 ⟨rfl, A2, c2, hw2, hm2, hat2⟩
      have hw3 : Wr w2 base g A2 (m + (j + 1)) c2 (xs ++ le (j + 1) n.toNat) := by
        rw [le_snoc]
        simpa [Nat.add_assoc] using hw2
      have hm3 : Mod (WF g A) w w2 := (hmod.alloc _).trans hm2 hat.wf
      have hat3 : Hence w A A2 := hat.trans hmod.size (hat2.elim .inl (fun e => .inr ⟨_, e, by simp⟩))
      clear hw2 hm2 hat2
      go_wp2
      go_roundw
      case rel => exact ⟨j + 1, A2, c2, by omega, by go_num, hw3, hm3, hat3⟩
      case measure => simp [intOf]; omega
    · obtain rfl : j = 1 := by omega
      go_wp2
      go_ret
      exact ⟨rfl, A', c', hw, hmod, hat⟩

set_option maxHeartbeats 800000 in
theorem put_ok2 (w : World) (base g : Nat) (A : Option Addr) (m c : Nat) (xs : List UInt8) (h : Wr w base g A m c xs) (hb : m ≤ 900000) (n : Int) (hn0 : 0 ≤ n) (hn : n < 256 ^ 2) :
    Calls Try.prog 36 #[.pointer (some ⟨g, 0, none⟩), .int .i64 n, .int .i64 2] w fun e w' => e = .returned (.int .i64 0) ∧
      ∃ A' c', Wr w' base g A' (m + 2) c' (xs ++ le 2 n.toNat) ∧ Mod (WF g A) w w' ∧ Hence w A A' := by
  have Hm := Lib.hid (mayWidth_ok w 2 true (by decide))
  have hd : decide (n < 0) = false := by simpa using hn0
  simp at hn
  go_enter Try.func36, Try.ntmps36
  go_wp2_with (go_at_call 48; refine Hm.out.mono ?_; rintro e w' ⟨rfl, rfl⟩)
  clear Hm hd
  go_loopw [27] (fun i wr => ∃ (j : Nat) (A' : Option Addr) (c' : Nat), j ≤ 2 ∧ i = .int .i64 j ∧ Wr wr base g A' (m + j) c' (xs ++ le j n.toNat) ∧ Mod (WF g A) w wr ∧ Hence w A A') (fun i _ => 4 - (intOf i).toNat)
  case atStart => exact ⟨0, A, c, by omega, rfl, by simpa [le] using h, Mod.refl _ _, .inl rfl⟩
  case round =>
    obtain ⟨j, A', c', hj, rfl, hw, hmod, hat⟩ := hrel
    by_cases hlt : j < 2
    · go_wp2_with fail
      rw [byte_at n j hn0]
      refine (add_ok _ base g A' (m + j) c' _ (hw.alloc _) _ 1 1 [_] (Sl.one wr _ _) (by omega)).mono ?_
      rintro e w2 ⟨rfl, A2, c2, hw2, hm2, hat2⟩
      have hw3 : Wr w2 base g A2 (m + (j + 1)) c2 (xs ++ le (j + 1) n.toNat) := by
        rw [le_snoc]
        simpa [Nat.add_assoc] using hw2
      have hm3 : Mod (WF g A) w w2 := (hmod.alloc _).trans hm2 hat.wf
      have hat3 : Hence w A A2 := hat.trans hmod.size (hat2.elim .inl (fun e => .inr ⟨_, e, by simp⟩))
      clear hw2 hm2 hat2
      go_wp2
      go_roundw
      case rel => exact ⟨j + 1, A2, c2, by omega, by go_num, hw3, hm3, hat3⟩
      case measure => simp [intOf]; omega
    · obtain rfl : j = 2 := by omega
      go_wp2
      go_ret
      exact ⟨rfl, A', c', hw, hmod, hat⟩

set_option maxHeartbeats 800000 in
theorem put_ok4 (w : World) (base g : Nat) (A : Option Addr) (m c : Nat) (xs : List UInt8) (h : Wr w base g A m c xs) (hb : m ≤ 900000) (n : Int) (hn0 : 0 ≤ n) (hn : n < 256 ^ 4) :
    Calls Try.prog 36 #[.pointer (some ⟨g, 0, none⟩), .int .i64 n, .int .i64 4] w fun e w' => e = .returned (.int .i64 0) ∧
      ∃ A' c', Wr w' base g A' (m + 4) c' (xs ++ le 4 n.toNat) ∧ Mod (WF g A) w w' ∧ Hence w A A' := by
  have Hm := Lib.hid (mayWidth_ok w 4 true (by decide))
  have hd : decide (n < 0) = false := by simpa using hn0
  simp at hn
  go_enter Try.func36, Try.ntmps36
  go_wp2_with (go_at_call 48; refine Hm.out.mono ?_; rintro e w' ⟨rfl, rfl⟩)
  clear Hm hd
  go_loopw [27] (fun i wr => ∃ (j : Nat) (A' : Option Addr) (c' : Nat), j ≤ 4 ∧ i = .int .i64 j ∧ Wr wr base g A' (m + j) c' (xs ++ le j n.toNat) ∧ Mod (WF g A) w wr ∧ Hence w A A') (fun i _ => 4 - (intOf i).toNat)
  case atStart => exact ⟨0, A, c, by omega, rfl, by simpa [le] using h, Mod.refl _ _, .inl rfl⟩
  case round =>
    obtain ⟨j, A', c', hj, rfl, hw, hmod, hat⟩ := hrel
    by_cases hlt : j < 4
    · go_wp2_with fail
      rw [byte_at n j hn0]
      refine (add_ok _ base g A' (m + j) c' _ (hw.alloc _) _ 1 1 [_] (Sl.one wr _ _) (by omega)).mono ?_
      rintro e w2 ⟨rfl, A2, c2, hw2, hm2, hat2⟩
      have hw3 : Wr w2 base g A2 (m + (j + 1)) c2 (xs ++ le (j + 1) n.toNat) := by
        rw [le_snoc]
        simpa [Nat.add_assoc] using hw2
      have hm3 : Mod (WF g A) w w2 := (hmod.alloc _).trans hm2 hat.wf
      have hat3 : Hence w A A2 := hat.trans hmod.size (hat2.elim .inl (fun e => .inr ⟨_, e, by simp⟩))
      clear hw2 hm2 hat2
      go_wp2
      go_roundw
      case rel => exact ⟨j + 1, A2, c2, by omega, by go_num, hw3, hm3, hat3⟩
      case measure => simp [intOf]; omega
    · obtain rfl : j = 4 := by omega
      go_wp2
      go_ret
      exact ⟨rfl, A', c', hw, hmod, hat⟩

theorem put_ok (w : World) (base g : Nat) (A : Option Addr) (m c : Nat) (xs : List UInt8) (h : Wr w base g A m c xs) (hb : m ≤ 900000) (n k : Int) (hk : widthOk k = true) (hn0 : 0 ≤ n) (hn : n < 256 ^ k.toNat) :
    Calls Try.prog 36 #[.pointer (some ⟨g, 0, none⟩), .int .i64 n, .int .i64 k] w fun e w' => e = .returned (.int .i64 0) ∧
      ∃ A' c', Wr w' base g A' (m + k.toNat) c' (xs ++ le k.toNat n.toNat) ∧ Mod (WF g A) w w' ∧ Hence w A A' := by
  have hk3 : k = 1 ∨ k = 2 ∨ k = 4 := by simpa [widthOk, or_assoc] using hk
  rcases hk3 with rfl | rfl | rfl
  · exact put_ok1 w base g A m c xs h hb n hn0 hn
  · exact put_ok2 w base g A m c xs h hb n hn0 hn
  · exact put_ok4 w base g A m c xs h hb n hn0 hn
end Go.Proofs.Ytpkgeidenkjnfaa
