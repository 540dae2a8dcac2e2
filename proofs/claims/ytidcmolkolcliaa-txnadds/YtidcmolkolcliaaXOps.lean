/-
  From a reading of an argument to our words: values, changes, transactions, slices of them.
-/
import Derived.Test.YtidcmolkolcliaaXKp
import Derived.Test.YtidcmolkolcliaaFrame
import Derived.Lib.SmallJoins
namespace Go.Proofs.Ytidcmolkolcliaa
open Go.ChangeShapes Go.WideShapes Go.ChangeAt Go.RowKit

theorem Try.own : ownKnob Try.prog.godebug = none := by kernel_rfl
theorem Try.laidOut : laidOutB Try.prog = true := by kernel_rfl

section
variable {H : Type} {enc : TypeId × Value → H} {W : World} {base : Nat} {spare : Nat → Bool} {held : Bool}
theorem list7 {α : Type} {l : List α} (h : l.length = 7) : ∃ v0 v1 v2 v3 v4 v5 v6, l = [v0, v1, v2, v3, v4, v5, v6] := by
  match l, h with
  | [v0, v1, v2, v3, v4, v5, v6], _ => exact ⟨v0, v1, v2, v3, v4, v5, v6, rfl⟩
theorem list6 {α : Type} {l : List α} (h : l.length = 6) : ∃ v0 v1 v2 v3 v4 v5, l = [v0, v1, v2, v3, v4, v5] := by
  match l, h with
  | [v0, v1, v2, v3, v4, v5], _ => exact ⟨v0, v1, v2, v3, v4, v5, rfl⟩
theorem list2 {α : Type} {l : List α} (h : l.length = 2) : ∃ v0 v1, l = [v0, v1] := by
  match l, h with
  | [v0, v1], _ => exact ⟨v0, v1, rfl⟩
set_option maxRecDepth 100000 in
set_option maxHeartbeats 2000000 in
theorem open_vl {r : Reach} {b0 : Nat} {v : Value} {d : DataW H} {p : List MemPlace} (hv : Value.okWide Try.prog W r b0 28 v) (h : DataW.Trod enc Try.prog W base spare held 28 v d p) :
    ∃ x : VlD, v = x.v ∧ x.At W := by
  obtain ⟨cs, rfl, hsz⟩ := okWide_struct Try.underlying28 hv
  obtain ⟨cl⟩ := cs
  obtain ⟨fuel, g0⟩ := h
  have g0 : DataW.trod enc Try.prog W base spare held fuel 28 cl = some (d, p) := g0
  have hsz2 : cl.length = 2 := hsz.trans (by kernel_rfl)
  obtain ⟨v0, v1, rfl⟩ := list2 hsz2
  obtain ⟨zz0, mm0, _, _, _, hz0, hf0⟩ := DataW.trod_struct Try.underlying28 g0
  have hl0 : zz0.length = 2 := hz0
  have a0 : DataW.trod enc Try.prog W base spare held mm0 4 (List.take (Try.prog.cellsOf 4) [v0, v1]) = some (zz0[0]'(by omega)) := (hf0 0 _ rfl).trans (List.getElem?_eq_getElem (by omega))
  rw [show Try.prog.cellsOf 4 = 1 by kernel_rfl] at a0
  change DataW.trod enc Try.prog W base spare held mm0 4 [v0] = some (zz0[0]'(by omega)) at a0
  have b0 : DataW.trod enc Try.prog W base spare held mm0 26 (List.take (Try.prog.cellsOf 26) [v1]) = some (zz0[1]'(by omega)) := (hf0 1 _ rfl).trans (List.getElem?_eq_getElem (by omega))
  rw [show Try.prog.cellsOf 26 = 1 by kernel_rfl] at b0
  change DataW.trod enc Try.prog W base spare held mm0 26 [v1] = some (zz0[1]'(by omega)) at b0
  obtain ⟨is0, p0, _⟩ := DataW.trod_bool Try.underlying4 a0
  obtain ⟨B0, l0, c0, q0⟩ := Go.Joins.slice_form Try.underlying26 b0
  simp only [List.cons.injEq, and_true] at p0 q0
  subst p0 q0
  obtain ⟨x0, h0, _⟩ := open_sl (d := (zz0[1]'(by omega)).1) (p := (zz0[1]'(by omega)).2) Try.underlying26 Try.underlying5 (by kernel_rfl) ⟨mm0, b0⟩
  exact ⟨⟨is0, B0, l0, c0, x0⟩, rfl, h0⟩
set_option maxRecDepth 100000 in
set_option maxHeartbeats 2000000 in
theorem read_chg {fuel : Nat} {cl : List Value} {y : DataW H × List MemPlace} (hl : cl.length = 7) (hf : DataW.trod enc Try.prog W base spare held fuel 30 cl = some y) :
    ∃ x : ChD, cl = x.cells.toList ∧ x.At W := by
  obtain ⟨v0, v1, v2, v3, v4, v5, v6, rfl⟩ := list7 hl
  obtain ⟨ys, n', _, _, _, hyl, hf'⟩ := DataW.trod_struct Try.underlying30 hf
  have hyl3 : ys.length = 5 := hyl
  have g0 : DataW.trod enc Try.prog W base spare held n' 3 (List.take (Try.prog.cellsOf 3) [v0, v1, v2, v3, v4, v5, v6]) = some (ys[0]'(by omega)) := (hf' 0 _ rfl).trans (List.getElem?_eq_getElem (by omega))
  rw [show Try.prog.cellsOf 3 = 1 by kernel_rfl] at g0
  change DataW.trod enc Try.prog W base spare held n' 3 [v0] = some (ys[0]'(by omega)) at g0
  have g1 : DataW.trod enc Try.prog W base spare held n' 3 (List.take (Try.prog.cellsOf 3) [v1, v2, v3, v4, v5, v6]) = some (ys[1]'(by omega)) := (hf' 1 _ rfl).trans (List.getElem?_eq_getElem (by omega))
  rw [show Try.prog.cellsOf 3 = 1 by kernel_rfl] at g1
  change DataW.trod enc Try.prog W base spare held n' 3 [v1] = some (ys[1]'(by omega)) at g1
  have g2 : DataW.trod enc Try.prog W base spare held n' 3 (List.take (Try.prog.cellsOf 3) [v2, v3, v4, v5, v6]) = some (ys[2]'(by omega)) := (hf' 2 _ rfl).trans (List.getElem?_eq_getElem (by omega))
  rw [show Try.prog.cellsOf 3 = 1 by kernel_rfl] at g2
  change DataW.trod enc Try.prog W base spare held n' 3 [v2] = some (ys[2]'(by omega)) at g2
  have g3 : DataW.trod enc Try.prog W base spare held n' 28 (List.take (Try.prog.cellsOf 28) [v3, v4, v5, v6]) = some (ys[3]'(by omega)) := (hf' 3 _ rfl).trans (List.getElem?_eq_getElem (by omega))
  rw [show Try.prog.cellsOf 28 = 2 by kernel_rfl] at g3
  change DataW.trod enc Try.prog W base spare held n' 28 [v3, v4] = some (ys[3]'(by omega)) at g3
  have g4 : DataW.trod enc Try.prog W base spare held n' 28 (List.take (Try.prog.cellsOf 28) [v5, v6]) = some (ys[4]'(by omega)) := (hf' 4 _ rfl).trans (List.getElem?_eq_getElem (by omega))
  rw [show Try.prog.cellsOf 28 = 2 by kernel_rfl] at g4
  change DataW.trod enc Try.prog W base spare held n' 28 [v5, v6] = some (ys[4]'(by omega)) at g4
  obtain ⟨k0, e0, _, _⟩ := DataW.trod_int Try.underlying3 g0
  obtain ⟨k1, e1, _, _⟩ := DataW.trod_int Try.underlying3 g1
  obtain ⟨k2, e2, _, _⟩ := DataW.trod_int Try.underlying3 g2
  obtain ⟨zz3, mm3, _, _, _, hz3, hf3⟩ := DataW.trod_struct Try.underlying28 g3
  have hl3 : zz3.length = 2 := hz3
  have a3 : DataW.trod enc Try.prog W base spare held mm3 4 (List.take (Try.prog.cellsOf 4) [v3, v4]) = some (zz3[0]'(by omega)) := (hf3 0 _ rfl).trans (List.getElem?_eq_getElem (by omega))
  rw [show Try.prog.cellsOf 4 = 1 by kernel_rfl] at a3
  change DataW.trod enc Try.prog W base spare held mm3 4 [v3] = some (zz3[0]'(by omega)) at a3
  have b3 : DataW.trod enc Try.prog W base spare held mm3 26 (List.take (Try.prog.cellsOf 26) [v4]) = some (zz3[1]'(by omega)) := (hf3 1 _ rfl).trans (List.getElem?_eq_getElem (by omega))
  rw [show Try.prog.cellsOf 26 = 1 by kernel_rfl] at b3
  change DataW.trod enc Try.prog W base spare held mm3 26 [v4] = some (zz3[1]'(by omega)) at b3
  obtain ⟨is3, p3, _⟩ := DataW.trod_bool Try.underlying4 a3
  obtain ⟨B3, l3, c3, q3⟩ := Go.Joins.slice_form Try.underlying26 b3
  obtain ⟨zz4, mm4, _, _, _, hz4, hf4⟩ := DataW.trod_struct Try.underlying28 g4
  have hl4 : zz4.length = 2 := hz4
  have a4 : DataW.trod enc Try.prog W base spare held mm4 4 (List.take (Try.prog.cellsOf 4) [v5, v6]) = some (zz4[0]'(by omega)) := (hf4 0 _ rfl).trans (List.getElem?_eq_getElem (by omega))
  rw [show Try.prog.cellsOf 4 = 1 by kernel_rfl] at a4
  change DataW.trod enc Try.prog W base spare held mm4 4 [v5] = some (zz4[0]'(by omega)) at a4
  have b4 : DataW.trod enc Try.prog W base spare held mm4 26 (List.take (Try.prog.cellsOf 26) [v6]) = some (zz4[1]'(by omega)) := (hf4 1 _ rfl).trans (List.getElem?_eq_getElem (by omega))
  rw [show Try.prog.cellsOf 26 = 1 by kernel_rfl] at b4
  change DataW.trod enc Try.prog W base spare held mm4 26 [v6] = some (zz4[1]'(by omega)) at b4
  obtain ⟨is4, p4, _⟩ := DataW.trod_bool Try.underlying4 a4
  obtain ⟨B4, l4, c4, q4⟩ := Go.Joins.slice_form Try.underlying26 b4
  simp only [List.cons.injEq, and_true] at e0 e1 e2 p3 q3 p4 q4
  subst e0 e1 e2 p3 q3 p4 q4
  obtain ⟨x3, h3, _⟩ := open_sl (d := (zz3[1]'(by omega)).1) (p := (zz3[1]'(by omega)).2) Try.underlying26 Try.underlying5 (by kernel_rfl) ⟨mm3, b3⟩
  obtain ⟨x4, h4, _⟩ := open_sl (d := (zz4[1]'(by omega)).1) (p := (zz4[1]'(by omega)).2) Try.underlying26 Try.underlying5 (by kernel_rfl) ⟨mm4, b4⟩
  exact ⟨⟨k0, k1, k2, ⟨is3, B3, l3, c3, x3⟩, ⟨is4, B4, l4, c4, x4⟩⟩, rfl, h3, h4⟩
theorem cells_chg : Try.prog.cellsOf 30 = 7 := by kernel_rfl
theorem open_chg {r : Reach} {b0 : Nat} {v : Value} {d : DataW H} {p : List MemPlace} (hv : Value.okWide Try.prog W r b0 30 v) (h : DataW.Trod enc Try.prog W base spare held 30 v d p) :
    ∃ x : ChD, v = x.val ∧ x.At W := by
  obtain ⟨cs, rfl, hsz⟩ := okWide_struct Try.underlying30 hv
  obtain ⟨cl⟩ := cs
  obtain ⟨fuel, hf⟩ := h
  have hf' : DataW.trod enc Try.prog W base spare held fuel 30 cl = some (d, p) := hf
  obtain ⟨x, e, hx⟩ := read_chg (hsz.trans cells_chg) hf'
  exact ⟨x, congrArg Value.agg (Array.ext' e), hx⟩
set_option maxRecDepth 100000 in
theorem open_chs {a : Option Addr} {len cap : Nat} {d : DataW H} {p : List MemPlace} (h : DataW.Trod enc Try.prog W base spare held 22 (.slice a len cap) d p) : ∃ l : List ChD, Cs W a len cap l := by
  obtain ⟨fuel, hf⟩ := h
  rcases Go.Deep.open_slice Try.underlying22 hf with ⟨hcs, _⟩ | ⟨x, l, c, m, n, D, Pl, hcs, _, hl, hm, hmm, hx, hi⟩
  · simp [Value.cells] at hcs
    obtain ⟨rfl, rfl, rfl⟩ := hcs
    exact ⟨[], rfl, Nat.le_refl _, fun h => absurd h (by omega), by simp⟩
  · simp [Value.cells] at hcs
    obtain ⟨rfl, rfl, rfl⟩ := hcs
    have hlm : len ≤ m := by rw [hmm]; split <;> omega
    have each : ∀ i, i < len → ∃ q : ChD, (∀ b o, x = ⟨b, o, none⟩ → q.Cells W b (o + i * 7)) ∧ (i = 0 → ∃ b o, x = ⟨b, o, none⟩) ∧ q.At W := by
      intro i hil
      obtain ⟨cs', hc', ht'⟩ := hi i (by omega)
      rw [cells_chg] at hc'
      obtain ⟨_, hcl, hat⟩ := World.cells?_some hc'
      obtain ⟨q, e, hq⟩ := read_chg hcl ht'
      subst e
      refine ⟨q, ?_, ?_, hq⟩
      · rintro b o rfl
        refine .of fun j u hu => ?_
        have hj : j < 7 := (Array.getElem?_eq_some_iff.1 hu).1
        have h1 := hat j hj
        rw [Go.WideShapes.add_plain, Go.WideShapes.add_plain, Array.getElem?_toList, hu] at h1
        exact h1
      · rintro rfl
        obtain ⟨b, o, spot⟩ := x
        have h0 := hat 0 (by omega)
        have := World.cell?_spot h0
        have hs : spot = none := by simpa [Addr.add] using this
        subst hs
        exact ⟨b, o, rfl⟩
    obtain ⟨l, hll, hq⟩ := list_of (Q := fun i (q : ChD) => (∀ b o, x = ⟨b, o, none⟩ → q.Cells W b (o + i * 7)) ∧ (i = 0 → ∃ b o, x = ⟨b, o, none⟩) ∧ q.At W) len each
    refine ⟨l, hll, hl, fun hp => ?_, fun y hy => ?_⟩
    · obtain ⟨b, o, rfl⟩ := (hq 0 _ (List.getElem?_eq_getElem (by omega))).2.1 rfl
      exact ⟨b, o, rfl, fun i y hy => (hq i y hy).1 b o rfl⟩
    · obtain ⟨i, hi⟩ := List.getElem?_of_mem hy
      exact (hq i y hi).2.2
set_option maxRecDepth 100000 in
theorem open_nums {a : Option Addr} {len cap : Nat} {d : DataW H} {p : List MemPlace} (h : DataW.Trod enc Try.prog W base spare held 23 (.slice a len cap) d p) : ∃ zs, Il W a len cap zs := by
  obtain ⟨fuel, hf⟩ := h
  rcases Go.Deep.open_slice Try.underlying23 hf with ⟨hcs, _⟩ | ⟨x, l, c, m, n, D, Pl, hcs, _, hl, hm, hmm, hx, hi⟩
  · simp [Value.cells] at hcs
    obtain ⟨rfl, rfl, rfl⟩ := hcs
    exact ⟨[], ⟨rfl, Nat.le_refl _, fun h => absurd h (by omega)⟩⟩
  · simp [Value.cells] at hcs
    obtain ⟨rfl, rfl, rfl⟩ := hcs
    have hlm : len ≤ m := by rw [hmm]; split <;> omega
    have hC : Try.prog.cellsOf 3 = 1 := by kernel_rfl
    have each : ∀ i, i < len → ∃ q : Int, (∀ b o, x = ⟨b, o, none⟩ → W.cell? ⟨b, o + i, none⟩ = some (.int .i64 q)) ∧ (i = 0 → ∃ b o, x = ⟨b, o, none⟩) := by
      intro i hil
      obtain ⟨cs', hc', ht'⟩ := hi i (by omega)
      rw [hC] at hc'
      obtain ⟨_, hcl, hat⟩ := World.cells?_some hc'
      obtain ⟨k, hk, _, f0⟩ := DataW.trod_int Try.underlying3 ht'
      subst hk
      refine ⟨k, ?_, ?_⟩
      · rintro b o rfl
        have h1 := hat 0 (by omega)
        rw [Go.WideShapes.add_plain, Go.WideShapes.add_plain] at h1
        simpa using h1
      · rintro rfl
        obtain ⟨b, o, spot⟩ := x
        have h0 := hat 0 (by omega)
        have := World.cell?_spot h0
        have hs : spot = none := by simpa [Addr.add] using this
        subst hs
        exact ⟨b, o, rfl⟩
    obtain ⟨X, hll, hq⟩ := list_of (Q := fun i (q : Int) => (∀ b o, x = ⟨b, o, none⟩ → W.cell? ⟨b, o + i, none⟩ = some (.int .i64 q)) ∧ (i = 0 → ∃ b o, x = ⟨b, o, none⟩)) len each
    refine ⟨X, ⟨hll, hl, fun hp => ?_⟩⟩
    obtain ⟨b, o, hxx⟩ := (hq 0 X[0] (List.getElem?_eq_getElem (by omega))).2 rfl
    exact ⟨b, o, by rw [hxx], fun i y hy => (hq i y hy).1 b o hxx⟩
set_option maxRecDepth 100000 in
set_option maxHeartbeats 2000000 in
theorem read_tx {fuel : Nat} {cl : List Value} {y : DataW H × List MemPlace} (hl : cl.length = 6) (hf : DataW.trod enc Try.prog W base spare held fuel 25 cl = some y) :
    ∃ x : TxD, cl = x.cells.toList ∧ x.At W := by
  obtain ⟨v0, v1, v2, v3, v4, v5, rfl⟩ := list6 hl
  obtain ⟨ys, n', _, _, _, hyl, hf'⟩ := DataW.trod_struct Try.underlying25 hf
  have hyl3 : ys.length = 6 := hyl
  have g0 : DataW.trod enc Try.prog W base spare held n' 3 (List.take (Try.prog.cellsOf 3) [v0, v1, v2, v3, v4, v5]) = some (ys[0]'(by omega)) := (hf' 0 _ rfl).trans (List.getElem?_eq_getElem (by omega))
  rw [show Try.prog.cellsOf 3 = 1 by kernel_rfl] at g0
  change DataW.trod enc Try.prog W base spare held n' 3 [v0] = some (ys[0]'(by omega)) at g0
  have g1 : DataW.trod enc Try.prog W base spare held n' 3 (List.take (Try.prog.cellsOf 3) [v1, v2, v3, v4, v5]) = some (ys[1]'(by omega)) := (hf' 1 _ rfl).trans (List.getElem?_eq_getElem (by omega))
  rw [show Try.prog.cellsOf 3 = 1 by kernel_rfl] at g1
  change DataW.trod enc Try.prog W base spare held n' 3 [v1] = some (ys[1]'(by omega)) at g1
  have g2 : DataW.trod enc Try.prog W base spare held n' 3 (List.take (Try.prog.cellsOf 3) [v2, v3, v4, v5]) = some (ys[2]'(by omega)) := (hf' 2 _ rfl).trans (List.getElem?_eq_getElem (by omega))
  rw [show Try.prog.cellsOf 3 = 1 by kernel_rfl] at g2
  change DataW.trod enc Try.prog W base spare held n' 3 [v2] = some (ys[2]'(by omega)) at g2
  have g3 : DataW.trod enc Try.prog W base spare held n' 3 (List.take (Try.prog.cellsOf 3) [v3, v4, v5]) = some (ys[3]'(by omega)) := (hf' 3 _ rfl).trans (List.getElem?_eq_getElem (by omega))
  rw [show Try.prog.cellsOf 3 = 1 by kernel_rfl] at g3
  change DataW.trod enc Try.prog W base spare held n' 3 [v3] = some (ys[3]'(by omega)) at g3
  have g4 : DataW.trod enc Try.prog W base spare held n' 22 (List.take (Try.prog.cellsOf 22) [v4, v5]) = some (ys[4]'(by omega)) := (hf' 4 _ rfl).trans (List.getElem?_eq_getElem (by omega))
  rw [show Try.prog.cellsOf 22 = 1 by kernel_rfl] at g4
  change DataW.trod enc Try.prog W base spare held n' 22 [v4] = some (ys[4]'(by omega)) at g4
  have g5 : DataW.trod enc Try.prog W base spare held n' 23 (List.take (Try.prog.cellsOf 23) [v5]) = some (ys[5]'(by omega)) := (hf' 5 _ rfl).trans (List.getElem?_eq_getElem (by omega))
  rw [show Try.prog.cellsOf 23 = 1 by kernel_rfl] at g5
  change DataW.trod enc Try.prog W base spare held n' 23 [v5] = some (ys[5]'(by omega)) at g5
  obtain ⟨k0, e0, _, _⟩ := DataW.trod_int Try.underlying3 g0
  obtain ⟨k1, e1, _, _⟩ := DataW.trod_int Try.underlying3 g1
  obtain ⟨k2, e2, _, _⟩ := DataW.trod_int Try.underlying3 g2
  obtain ⟨k3, e3, _, _⟩ := DataW.trod_int Try.underlying3 g3
  obtain ⟨A, n, c, e4⟩ := Go.Joins.slice_form Try.underlying22 g4
  obtain ⟨B, m, dd, e5⟩ := Go.Joins.slice_form Try.underlying23 g5
  simp only [List.cons.injEq, and_true] at e0 e1 e2 e3 e4 e5
  subst e0 e1 e2 e3 e4 e5
  obtain ⟨L, hL⟩ := open_chs (d := (ys[4]'(by omega)).1) (p := (ys[4]'(by omega)).2) ⟨n', g4⟩
  obtain ⟨S, hS⟩ := open_nums (d := (ys[5]'(by omega)).1) (p := (ys[5]'(by omega)).2) ⟨n', g5⟩
  exact ⟨⟨k0, k1, k2, k3, A, n, c, L, B, m, dd, S⟩, rfl, hL, hS⟩
theorem cells_tx : Try.prog.cellsOf 25 = 6 := by kernel_rfl
theorem open_tx {r : Reach} {b0 : Nat} {v : Value} {d : DataW H} {p : List MemPlace} (hv : Value.okWide Try.prog W r b0 25 v) (h : DataW.Trod enc Try.prog W base spare held 25 v d p) :
    ∃ x : TxD, v = x.val ∧ x.At W := by
  obtain ⟨cs, rfl, hsz⟩ := okWide_struct Try.underlying25 hv
  obtain ⟨cl⟩ := cs
  obtain ⟨fuel, hf⟩ := h
  have hf' : DataW.trod enc Try.prog W base spare held fuel 25 cl = some (d, p) := hf
  obtain ⟨x, e, hx⟩ := read_tx (hsz.trans cells_tx) hf'
  exact ⟨x, congrArg Value.agg (Array.ext' e), hx⟩
set_option maxRecDepth 100000 in
theorem open_txs {a : Option Addr} {len cap : Nat} {d : DataW H} {p : List MemPlace} (h : DataW.Trod enc Try.prog W base spare held 46 (.slice a len cap) d p) : ∃ l : List TxD, Xs W a len cap l := by
  obtain ⟨fuel, hf⟩ := h
  rcases Go.Deep.open_slice Try.underlying46 hf with ⟨hcs, _⟩ | ⟨x, l, c, m, n, D, Pl, hcs, _, hl, hm, hmm, hx, hi⟩
  · simp [Value.cells] at hcs
    obtain ⟨rfl, rfl, rfl⟩ := hcs
    exact ⟨[], rfl, Nat.le_refl _, fun h => absurd h (by omega), by simp⟩
  · simp [Value.cells] at hcs
    obtain ⟨rfl, rfl, rfl⟩ := hcs
    have hlm : len ≤ m := by rw [hmm]; split <;> omega
    have each : ∀ i, i < len → ∃ q : TxD, (∀ b o, x = ⟨b, o, none⟩ → q.Cells W b (o + i * 6)) ∧ (i = 0 → ∃ b o, x = ⟨b, o, none⟩) ∧ q.At W := by
      intro i hil
      obtain ⟨cs', hc', ht'⟩ := hi i (by omega)
      rw [cells_tx] at hc'
      obtain ⟨_, hcl, hat⟩ := World.cells?_some hc'
      obtain ⟨q, e, hq⟩ := read_tx hcl ht'
      subst e
      refine ⟨q, ?_, ?_, hq⟩
      · rintro b o rfl
        refine .of fun j u hu => ?_
        have hj : j < 6 := (Array.getElem?_eq_some_iff.1 hu).1
        have h1 := hat j hj
        rw [Go.WideShapes.add_plain, Go.WideShapes.add_plain, Array.getElem?_toList, hu] at h1
        exact h1
      · rintro rfl
        obtain ⟨b, o, spot⟩ := x
        have h0 := hat 0 (by omega)
        have := World.cell?_spot h0
        have hs : spot = none := by simpa [Addr.add] using this
        subst hs
        exact ⟨b, o, rfl⟩
    obtain ⟨l, hll, hq⟩ := list_of (Q := fun i (q : TxD) => (∀ b o, x = ⟨b, o, none⟩ → q.Cells W b (o + i * 6)) ∧ (i = 0 → ∃ b o, x = ⟨b, o, none⟩) ∧ q.At W) len each
    refine ⟨l, hll, hl, fun hp => ?_, fun y hy => ?_⟩
    · obtain ⟨b, o, rfl⟩ := (hq 0 _ (List.getElem?_eq_getElem (by omega))).2.1 rfl
      exact ⟨b, o, rfl, fun i y hy => (hq i y hy).1 b o rfl⟩
    · obtain ⟨i, hi⟩ := List.getElem?_of_mem hy
      exact (hq i y hi).2.2
end
end Go.Proofs.Ytidcmolkolcliaa
