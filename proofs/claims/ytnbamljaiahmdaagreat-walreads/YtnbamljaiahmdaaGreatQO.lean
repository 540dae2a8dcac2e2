/-
  From a reading of an argument api.Rec to the words of our walks.
-/
import Derived.Test.YtnbamljaiahmdaaGreatQS
import Derived.Test.YtnbamljaiahmdaaGreatQA
import Derived.Lib.SmallJoins
namespace Go.Proofs.YtnbamljaiahmdaaGreat
open Go.ChangeShapes Go.WideShapes Go.ChangeAt Go.RowKit

theorem Tryz.own : ownKnob Tryz.prog.godebug = none := by kernel_rfl
theorem Tryz.bytes1 : Tryz.prog.bytesOf 5 = 1 := by kernel_rfl
theorem Tryz.laidOut : laidOutB Tryz.prog = true := by kernel_rfl

theorem list14 {α : Type} {l : List α} (h : l.length = 14) : ∃ v0 v1 v2 v3 v4 v5 v6 v7 v8 v9 v10 v11 v12 v13, l = [v0, v1, v2, v3, v4, v5, v6, v7, v8, v9, v10, v11, v12, v13] := by
  match l, h with
  | [v0, v1, v2, v3, v4, v5, v6, v7, v8, v9, v10, v11, v12, v13], _ => exact ⟨v0, v1, v2, v3, v4, v5, v6, v7, v8, v9, v10, v11, v12, v13, rfl⟩
def nums (k1 k2 k3 k4 k5 k6 k7 k8 k9 : Int) (i : Nat) : Int := if i = 1 then k1 else if i = 2 then k2 else if i = 3 then k3 else if i = 4 then k4 else if i = 5 then k5 else if i = 6 then k6 else if i = 7 then k7 else if i = 8 then k8 else k9

set_option maxRecDepth 100000 in
set_option maxHeartbeats 2000000 in
/-- The cells of a record. -/
theorem read_rec {H : Type} {enc : TypeId × Value → H} {W : World} {base : Nat} {spare : Nat → Bool} {held : Bool} {fuel : Nat} {cl : List Value} {y : DataW H × List MemPlace} (hl : cl.length = 14) (hf : DataW.trod enc Tryz.prog W base spare held fuel 47 cl = some y) :
    ∃ x : RcD, cl = x.cells.toList ∧ x.At W := by
  obtain ⟨v0, v1, v2, v3, v4, v5, v6, v7, v8, v9, v10, v11, v12, v13, rfl⟩ := list14 hl
  obtain ⟨ys, n', _, _, _, hyl, hf'⟩ := DataW.trod_struct Tryz.underlying47 hf
  have hyl3 : ys.length = 12 := hyl
  have s3 : Tryz.prog.cellsOf 3 = 1 := by kernel_rfl
  have s4 : Tryz.prog.cellsOf 4 = 1 := by kernel_rfl
  have s6 : Tryz.prog.cellsOf 45 = 2 := by kernel_rfl
  have s7 : Tryz.prog.cellsOf 28 = 1 := by kernel_rfl
  have g0 : DataW.trod enc Tryz.prog W base spare held n' 3 (List.take (Tryz.prog.cellsOf 3) [v0, v1, v2, v3, v4, v5, v6, v7, v8, v9, v10, v11, v12, v13]) = some (ys[0]'(by omega)) := (hf' 0 _ rfl).trans (List.getElem?_eq_getElem (by omega))
  rw [s3] at g0
  change DataW.trod enc Tryz.prog W base spare held n' 3 [v0] = some (ys[0]'(by omega)) at g0
  obtain ⟨k0, e0, _, _⟩ := DataW.trod_int Tryz.underlying3 g0
  have g1 : DataW.trod enc Tryz.prog W base spare held n' 3 (List.take (Tryz.prog.cellsOf 3) [v1, v2, v3, v4, v5, v6, v7, v8, v9, v10, v11, v12, v13]) = some (ys[1]'(by omega)) := (hf' 1 _ rfl).trans (List.getElem?_eq_getElem (by omega))
  rw [s3] at g1
  change DataW.trod enc Tryz.prog W base spare held n' 3 [v1] = some (ys[1]'(by omega)) at g1
  obtain ⟨k1, e1, _, _⟩ := DataW.trod_int Tryz.underlying3 g1
  have g2 : DataW.trod enc Tryz.prog W base spare held n' 3 (List.take (Tryz.prog.cellsOf 3) [v2, v3, v4, v5, v6, v7, v8, v9, v10, v11, v12, v13]) = some (ys[2]'(by omega)) := (hf' 2 _ rfl).trans (List.getElem?_eq_getElem (by omega))
  rw [s3] at g2
  change DataW.trod enc Tryz.prog W base spare held n' 3 [v2] = some (ys[2]'(by omega)) at g2
  obtain ⟨k2, e2, _, _⟩ := DataW.trod_int Tryz.underlying3 g2
  have g3 : DataW.trod enc Tryz.prog W base spare held n' 3 (List.take (Tryz.prog.cellsOf 3) [v3, v4, v5, v6, v7, v8, v9, v10, v11, v12, v13]) = some (ys[3]'(by omega)) := (hf' 3 _ rfl).trans (List.getElem?_eq_getElem (by omega))
  rw [s3] at g3
  change DataW.trod enc Tryz.prog W base spare held n' 3 [v3] = some (ys[3]'(by omega)) at g3
  obtain ⟨k3, e3, _, _⟩ := DataW.trod_int Tryz.underlying3 g3
  have g4 : DataW.trod enc Tryz.prog W base spare held n' 3 (List.take (Tryz.prog.cellsOf 3) [v4, v5, v6, v7, v8, v9, v10, v11, v12, v13]) = some (ys[4]'(by omega)) := (hf' 4 _ rfl).trans (List.getElem?_eq_getElem (by omega))
  rw [s3] at g4
  change DataW.trod enc Tryz.prog W base spare held n' 3 [v4] = some (ys[4]'(by omega)) at g4
  obtain ⟨k4, e4, _, _⟩ := DataW.trod_int Tryz.underlying3 g4
  have g5 : DataW.trod enc Tryz.prog W base spare held n' 3 (List.take (Tryz.prog.cellsOf 3) [v5, v6, v7, v8, v9, v10, v11, v12, v13]) = some (ys[5]'(by omega)) := (hf' 5 _ rfl).trans (List.getElem?_eq_getElem (by omega))
  rw [s3] at g5
  change DataW.trod enc Tryz.prog W base spare held n' 3 [v5] = some (ys[5]'(by omega)) at g5
  obtain ⟨k5, e5, _, _⟩ := DataW.trod_int Tryz.underlying3 g5
  have g6 : DataW.trod enc Tryz.prog W base spare held n' 3 (List.take (Tryz.prog.cellsOf 3) [v6, v7, v8, v9, v10, v11, v12, v13]) = some (ys[6]'(by omega)) := (hf' 6 _ rfl).trans (List.getElem?_eq_getElem (by omega))
  rw [s3] at g6
  change DataW.trod enc Tryz.prog W base spare held n' 3 [v6] = some (ys[6]'(by omega)) at g6
  obtain ⟨k6, e6, _, _⟩ := DataW.trod_int Tryz.underlying3 g6
  have g7 : DataW.trod enc Tryz.prog W base spare held n' 3 (List.take (Tryz.prog.cellsOf 3) [v7, v8, v9, v10, v11, v12, v13]) = some (ys[7]'(by omega)) := (hf' 7 _ rfl).trans (List.getElem?_eq_getElem (by omega))
  rw [s3] at g7
  change DataW.trod enc Tryz.prog W base spare held n' 3 [v7] = some (ys[7]'(by omega)) at g7
  obtain ⟨k7, e7, _, _⟩ := DataW.trod_int Tryz.underlying3 g7
  have g8 : DataW.trod enc Tryz.prog W base spare held n' 3 (List.take (Tryz.prog.cellsOf 3) [v8, v9, v10, v11, v12, v13]) = some (ys[8]'(by omega)) := (hf' 8 _ rfl).trans (List.getElem?_eq_getElem (by omega))
  rw [s3] at g8
  change DataW.trod enc Tryz.prog W base spare held n' 3 [v8] = some (ys[8]'(by omega)) at g8
  obtain ⟨k8, e8, _, _⟩ := DataW.trod_int Tryz.underlying3 g8
  have g9 : DataW.trod enc Tryz.prog W base spare held n' 3 (List.take (Tryz.prog.cellsOf 3) [v9, v10, v11, v12, v13]) = some (ys[9]'(by omega)) := (hf' 9 _ rfl).trans (List.getElem?_eq_getElem (by omega))
  rw [s3] at g9
  change DataW.trod enc Tryz.prog W base spare held n' 3 [v9] = some (ys[9]'(by omega)) at g9
  obtain ⟨k9, e9, _, _⟩ := DataW.trod_int Tryz.underlying3 g9
  have go : DataW.trod enc Tryz.prog W base spare held n' 45 (List.take (Tryz.prog.cellsOf 45) [v10, v11, v12, v13]) = some (ys[10]'(by omega)) := (hf' 10 _ rfl).trans (List.getElem?_eq_getElem (by omega))
  rw [s6] at go
  change DataW.trod enc Tryz.prog W base spare held n' 45 [v10, v11] = some (ys[10]'(by omega)) at go
  obtain ⟨zo, mo, _, _, _, hzo, hfo⟩ := DataW.trod_struct Tryz.underlying45 go
  have hzo2 : zo.length = 2 := hzo
  have ao : DataW.trod enc Tryz.prog W base spare held mo 4 (List.take (Tryz.prog.cellsOf 4) [v10, v11]) = some (zo[0]'(by omega)) := (hfo 0 _ rfl).trans (List.getElem?_eq_getElem (by omega))
  rw [s4] at ao
  change DataW.trod enc Tryz.prog W base spare held mo 4 [v10] = some (zo[0]'(by omega)) at ao
  have bo : DataW.trod enc Tryz.prog W base spare held mo 28 (List.take (Tryz.prog.cellsOf 28) [v11]) = some (zo[1]'(by omega)) := (hfo 1 _ rfl).trans (List.getElem?_eq_getElem (by omega))
  rw [s7] at bo
  change DataW.trod enc Tryz.prog W base spare held mo 28 [v11] = some (zo[1]'(by omega)) at bo
  obtain ⟨iso, e10, _⟩ := DataW.trod_bool Tryz.underlying4 ao
  obtain ⟨Bo, lo, co, e11⟩ := Go.Joins.slice_form Tryz.underlying28 bo
  have gv : DataW.trod enc Tryz.prog W base spare held n' 45 (List.take (Tryz.prog.cellsOf 45) [v12, v13]) = some (ys[11]'(by omega)) := (hf' 11 _ rfl).trans (List.getElem?_eq_getElem (by omega))
  rw [s6] at gv
  change DataW.trod enc Tryz.prog W base spare held n' 45 [v12, v13] = some (ys[11]'(by omega)) at gv
  obtain ⟨zv, mv, _, _, _, hzv, hfv⟩ := DataW.trod_struct Tryz.underlying45 gv
  have hzv2 : zv.length = 2 := hzv
  have av : DataW.trod enc Tryz.prog W base spare held mv 4 (List.take (Tryz.prog.cellsOf 4) [v12, v13]) = some (zv[0]'(by omega)) := (hfv 0 _ rfl).trans (List.getElem?_eq_getElem (by omega))
  rw [s4] at av
  change DataW.trod enc Tryz.prog W base spare held mv 4 [v12] = some (zv[0]'(by omega)) at av
  have bv : DataW.trod enc Tryz.prog W base spare held mv 28 (List.take (Tryz.prog.cellsOf 28) [v13]) = some (zv[1]'(by omega)) := (hfv 1 _ rfl).trans (List.getElem?_eq_getElem (by omega))
  rw [s7] at bv
  change DataW.trod enc Tryz.prog W base spare held mv 28 [v13] = some (zv[1]'(by omega)) at bv
  obtain ⟨isv, e12, _⟩ := DataW.trod_bool Tryz.underlying4 av
  obtain ⟨Bv, lv, cv, e13⟩ := Go.Joins.slice_form Tryz.underlying28 bv
  simp only [List.cons.injEq, and_true] at e0 e1 e2 e3 e4 e5 e6 e7 e8 e9 e10 e11 e12 e13
  subst e0 e1 e2 e3 e4 e5 e6 e7 e8 e9 e10 e11 e12 e13
  obtain ⟨xo, ho, _⟩ := open_sl (d := (zo[1]'(by omega)).1) (p := (zo[1]'(by omega)).2) Tryz.underlying28 Tryz.underlying5 (by kernel_rfl) ⟨mo, bo⟩
  obtain ⟨xv, hv', _⟩ := open_sl (d := (zv[1]'(by omega)).1) (p := (zv[1]'(by omega)).2) Tryz.underlying28 Tryz.underlying5 (by kernel_rfl) ⟨mv, bv⟩
  exact ⟨⟨k0, nums k1 k2 k3 k4 k5 k6 k7 k8 k9, ⟨iso, Bo, lo, co, xo⟩, ⟨isv, Bv, lv, cv, xv⟩⟩, rfl, ho, hv'⟩

theorem cells_rec : Tryz.prog.cellsOf 47 = 14 := by kernel_rfl

set_option maxRecDepth 100000 in
/-- A record by value. -/
theorem open_rec {H : Type} {enc : TypeId × Value → H} {W : World} {base : Nat} {spare : Nat → Bool} {held : Bool} {r : Reach} {b0 : Nat} {v : Value} {d : DataW H} {p : List MemPlace} (hv : Value.okWide Tryz.prog W r b0 47 v) (h : DataW.Trod enc Tryz.prog W base spare held 47 v d p) :
    ∃ x : RcD, v = x.val ∧ x.At W := by
  obtain ⟨cs, rfl, hsz⟩ := okWide_struct Tryz.underlying47 hv
  obtain ⟨cl⟩ := cs
  obtain ⟨fuel, hf⟩ := h
  have hf' : DataW.trod enc Tryz.prog W base spare held fuel 47 cl = some (d, p) := hf
  obtain ⟨x, e, hx⟩ := read_rec (hsz.trans cells_rec) hf'
  exact ⟨x, congrArg Value.agg (Array.ext' e), hx⟩

set_option maxRecDepth 100000 in
/-- A slice of records. -/
theorem open_recs {H : Type} {enc : TypeId × Value → H} {W : World} {base : Nat} {spare : Nat → Bool} {held : Bool} {a : Option Addr} {len cap : Nat} {d : DataW H} {p : List MemPlace} (h : DataW.Trod enc Tryz.prog W base spare held 66 (.slice a len cap) d p) : ∃ l, Rs W a len cap l ∧ cap ≤ maxLen := by
  obtain ⟨fuel, hf⟩ := h
  rcases Go.Deep.open_slice Tryz.underlying66 hf with ⟨hcs, _⟩ | ⟨x, l, c, m, n, D, Pl, hcs, _, hl, hm, hmm, hx, hi⟩
  · simp [Value.cells] at hcs
    obtain ⟨rfl, rfl, rfl⟩ := hcs
    exact ⟨[], Rs.nil _ _ _, Nat.zero_le _⟩
  · simp [Value.cells] at hcs
    obtain ⟨rfl, rfl, rfl⟩ := hcs
    have hlm : len ≤ m := by rw [hmm]; split <;> omega
    have each : ∀ i, i < len → ∃ q : RcD, (∀ b o, x = ⟨b, o, none⟩ → q.Cells W b (o + i * 14)) ∧ (i = 0 → ∃ b o, x = ⟨b, o, none⟩) ∧ q.At W := by
      intro i hil
      obtain ⟨cs', hc', ht'⟩ := hi i (by omega)
      rw [cells_rec] at hc'
      obtain ⟨_, hcl, hat⟩ := World.cells?_some hc'
      obtain ⟨q, e, hq⟩ := read_rec hcl ht'
      subst e
      refine ⟨q, ?_, ?_, hq⟩
      · rintro b o rfl
        refine .of fun j u hu => ?_
        have hj : j < 14 := (Array.getElem?_eq_some_iff.1 hu).1
        have h1 := hat j hj
        rw [Go.WideShapes.add_plain, Go.WideShapes.add_plain, Array.getElem?_toList, hu] at h1
        exact h1
      · rintro rfl
        obtain ⟨b, o, spot⟩ := x
        have h0 := hat 0 (by omega)
        have := World.cell?_spot h0
        have hs : spot = none := by simpa [Addr.add] using this
        subst hs
        exact ⟨b, o, rfl⟩
    obtain ⟨l, hll, hq⟩ := list_of (Q := fun i (q : RcD) => (∀ b o, x = ⟨b, o, none⟩ → q.Cells W b (o + i * 14)) ∧ (i = 0 → ∃ b o, x = ⟨b, o, none⟩) ∧ q.At W) len each
    refine ⟨l, ⟨hll, hl, fun hp => ?_, fun y hy => ?_⟩, hm⟩
    · obtain ⟨b, o, rfl⟩ := (hq 0 _ (List.getElem?_eq_getElem (by omega))).2.1 rfl
      exact ⟨b, o, rfl, fun i y hy => (hq i y hy).1 b o rfl⟩
    · obtain ⟨i, hi⟩ := List.getElem?_of_mem hy
      exact (hq i y hi).2.2

set_option maxRecDepth 100000 in
/-- A batch by value. -/
theorem open_batch {H : Type} {enc : TypeId × Value → H} {W : World} {base : Nat} {spare : Nat → Bool} {held : Bool} {r : Reach} {b0 : Nat} {v : Value} {d : DataW H} {p : List MemPlace} (hv : Value.okWide Tryz.prog W r b0 68 v) (h : DataW.Trod enc Tryz.prog W base spare held 68 v d p) :
    ∃ x : BtD, v = x.val ∧ x.At W := by
  obtain ⟨v0, v1, v2, v3, y0, y1, y2, y3, n, rfl, _, _, t0, t1, t2, t3⟩ := Go.Joins.open_agg4 Tryz.underlying68 (by kernel_rfl) (by kernel_rfl) hv h
  obtain ⟨e, e0, _, _⟩ := DataW.trod_int Tryz.underlying3 t0
  obtain ⟨s, e1, _, _⟩ := DataW.trod_int Tryz.underlying3 t1
  obtain ⟨f, e2, _, _⟩ := DataW.trod_int Tryz.underlying3 t2
  obtain ⟨A, m, c, e3⟩ := Go.Joins.slice_form Tryz.underlying66 t3
  simp only [List.cons.injEq, and_true] at e0 e1 e2 e3
  subst e0 e1 e2 e3
  obtain ⟨l, hl, _⟩ := open_recs (d := y3.1) (p := y3.2) ⟨n, t3⟩
  exact ⟨⟨e, s, f, A, m, c, l⟩, rfl, hl⟩
end Go.Proofs.YtnbamljaiahmdaaGreat
