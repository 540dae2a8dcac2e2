/-
  From a reading of an argument to our words: a list of locks.
-/
import Derived.Test.YtpkjafadhnecfaaFrame
import Derived.Test.YtpkjafadhnecfaaKBit
namespace Go.Proofs.Ytpkjafadhnecfaa
open Go.ChangeShapes Go.WideShapes Go.ChangeAt Go.RowKit

theorem Try.own : ownKnob Try.prog.godebug = none := by kernel_rfl
theorem Try.laidOut : laidOutB Try.prog = true := by kernel_rfl

/-- A lock whose numbers are of 64 bits. -/
def T64 (x : Tr) : Prop := I64 x.a ∧ I64 x.b ∧ I64 x.c
section
variable {H : Type} {enc : TypeId × Value → H} {W : World} {base : Nat} {spare : Nat → Bool} {held : Bool}
set_option maxRecDepth 100000 in
theorem open_hds {a : Option Addr} {len cap : Nat} {d : DataW H} {p : List MemPlace} (h : DataW.Trod enc Try.prog W base spare held 22 (.slice a len cap) d p) : ∃ l, Tl W a len cap l ∧ ∀ x ∈ l, T64 x := by
  obtain ⟨hcap, _, _, hc⟩ := open_structs Try.underlying22 Try.underlying37 (by kernel_rfl) (by kernel_rfl) (by decide) h
  have each : ∀ i, i < len → ∃ q : Tr, (∀ b o, a = some ⟨b, o, none⟩ → At3 W b (o + i * 3) q) ∧ T64 q := by
    intro i hi
    obtain ⟨b, o, ha, hcell⟩ := hc (by omega)
    obtain ⟨v0, n0, y0, c0, t0⟩ := hcell i hi 0 _ rfl
    obtain ⟨v1, n1, y1, c1, t1⟩ := hcell i hi 1 _ rfl
    obtain ⟨v2, n2, y2, c2, t2⟩ := hcell i hi 2 _ rfl
    obtain ⟨k0, e0, _, f0⟩ := DataW.trod_int Try.underlying3 t0
    obtain ⟨k1, e1, _, f1⟩ := DataW.trod_int Try.underlying3 t1
    obtain ⟨k2, e2, _, f2⟩ := DataW.trod_int Try.underlying3 t2
    simp only [List.cons.injEq, and_true] at e0 e1 e2
    subst e0 e1 e2
    refine ⟨⟨k0, k1, k2⟩, fun b' o' h' => ?_, bounds_i64 f0, bounds_i64 f1, bounds_i64 f2⟩
    rw [ha] at h'
    injection h' with h'
    injection h' with h1 h2 _
    subst h1; subst h2
    exact ⟨c0, c1, c2⟩
  obtain ⟨l, hl, hq⟩ := list_of len each
  refine ⟨l, ⟨hl, hcap, fun hp => ?_⟩, fun x hx => ?_⟩
  · obtain ⟨b, o, ha, _⟩ := hc hp
    exact ⟨b, o, ha, fun j hj => (hq j _ (by rw [atS_at (by omega)]; exact List.getElem?_eq_getElem (by omega))).1 b o ha⟩
  · obtain ⟨i, hi, rfl⟩ := List.mem_iff_getElem.1 hx
    exact (hq i _ (List.getElem?_eq_getElem hi)).2
end
end Go.Proofs.Ytpkjafadhnecfaa
