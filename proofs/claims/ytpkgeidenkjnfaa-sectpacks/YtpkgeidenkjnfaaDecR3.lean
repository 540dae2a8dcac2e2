/-
  rec.Decode.
-/
import Derived.Test.YtpkgeidenkjnfaaDecR2
namespace Go.Proofs.Ytpkgeidenkjnfaa
open Go Go.RowKit Go.Shelf

def RcD.zero : RcD := ⟨0, fun _ => 0, VlD.none, VlD.none⟩
/-- A record is stored whole. -/
def stRec (W : World) (b : Nat) (y : RcD) : World :=
  (((((((((((((W.setCell ⟨b, 0, none⟩ (.int .i64 y.k)).setCell ⟨b, 1, none⟩ (.int .i64 (y.f 1))).setCell ⟨b, 2, none⟩ (.int .i64 (y.f 2))).setCell ⟨b, 3, none⟩ (.int .i64 (y.f 3))).setCell ⟨b, 4, none⟩ (.int .i64 (y.f 4))).setCell ⟨b, 5, none⟩ (.int .i64 (y.f 5))).setCell ⟨b, 6, none⟩ (.int .i64 (y.f 6))).setCell ⟨b, 7, none⟩ (.int .i64 (y.f 7))).setCell ⟨b, 8, none⟩ (.int .i64 (y.f 8))).setCell ⟨b, 9, none⟩ (.int .i64 (y.f 9))).setCell ⟨b, 10, none⟩ (.bool y.o.is)).setCell ⟨b, 11, none⟩ (.slice y.o.B y.o.m y.o.d)).setCell ⟨b, 12, none⟩ (.bool y.v.is)).setCell ⟨b, 13, none⟩ (.slice y.v.B y.v.m y.v.d)
theorem RcD.In.setK {w : World} {x : RcD} {g : Nat} (h : x.In w g) (z : Int) : ({ x with k := z } : RcD).In (w.setCell ⟨g, 0, none⟩ (.int .i64 z)) g := by
  show _ = _
  rw [heap_set h]
  rfl
theorem stRec_in {W : World} {b : Nat} {x : RcD} (h : x.In W b) (y : RcD) : y.In (stRec W b y) b := by
  have h0 := h.setK y.k
  have h1 := h0.setN (i := 1) (by omega) (by omega) (y.f 1)
  have h2 := h1.setN (i := 2) (by omega) (by omega) (y.f 2)
  have h3 := h2.setN (i := 3) (by omega) (by omega) (y.f 3)
  have h4 := h3.setN (i := 4) (by omega) (by omega) (y.f 4)
  have h5 := h4.setN (i := 5) (by omega) (by omega) (y.f 5)
  have h6 := h5.setN (i := 6) (by omega) (by omega) (y.f 6)
  have h7 := h6.setN (i := 7) (by omega) (by omega) (y.f 7)
  have h8 := h7.setN (i := 8) (by omega) (by omega) (y.f 8)
  have h9 := h8.setN (i := 9) (by omega) (by omega) (y.f 9)
  exact (h9.setO y.o).setV y.v
theorem stRec_mod (W : World) (b : Nat) (y : RcD) : Mod (fun k => k = b) W (stRec W b y) := by
  have st : ∀ {w : World} (i : Nat) (u : Value), Mod (fun k => k = b) W w → Mod (fun k => k = b) W (w.setCell ⟨b, i, none⟩ u) := fun i u h => h.setCell (p := ⟨b, i, none⟩) (fun _ => rfl) u
  unfold stRec
  exact st 13 _ (st 12 _ (st 11 _ (st 10 _ (st 9 _ (st 8 _ (st 7 _ (st 6 _ (st 5 _ (st 4 _ (st 3 _ (st 2 _ (st 1 _ (st 0 _ (Mod.refl _ W))))))))))))))

/-- What is read of bytes: an error, and the record. -/
def decode : List UInt8 → Int × Rc
  | [] => (6, Rc.zero)
  | b :: ys => match fieldsOf b.toNat with
    | none => (7, Rc.zero)
    | some fl => match fl.foldl decStep (.got ⟨b.toNat, fun _ => 0, Vl.none, Vl.none⟩ ys) with
      | .bad e => (e, Rc.zero)
      | .got r [] => (0, r)
      | .got _ (_ :: _) => (7, Rc.zero)

/-- What Decode answers. -/
def DecAns (w w' : World) (e : Ending) (a : Int × Rc) : Prop := ∃ y : RcD, e = .returned (.tuple #[.agg y.cells, .int .i64 a.1]) ∧ y.p = a.2 ∧ y.o.Own w' w.heap.size ∧ y.v.Own w' w.heap.size

end Go.Proofs.Ytpkgeidenkjnfaa
