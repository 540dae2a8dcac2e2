/-
  From a reading of an argument to our words: a list of those that wait.
-/
import Derived.Test.YtbdfolopnocjmaaFrame
import Derived.Test.YtbdfolopnocjmaaGMem
import Derived.Lib.SmallJoins
namespace Go.Proofs.Ytbdfolopnocjmaa
open Go.ChangeShapes Go.WideShapes Go.ChangeAt Go.RowKit

theorem Try.own : ownKnob Try.prog.godebug = none := by kernel_rfl
theorem Try.laidOut : laidOutB Try.prog = true := by kernel_rfl

section
variable {H : Type} {enc : TypeId × Value → H} {W : World} {base : Nat} {spare : Nat → Bool} {held : Bool}
set_option maxRecDepth 100000 in
/-- A slice of numbers. -/
theorem open_il {a : Option Addr} {len cap : Nat} {d : DataW H} {p : List MemPlace} (h : DataW.Trod enc Try.prog W base spare held 27 (.slice a len cap) d p) : ∃ zs, Il W a len cap zs ∧ ∀ z ∈ zs, I64 z := by
  obtain ⟨fuel, hf⟩ := h
  rcases Go.Deep.open_slice Try.underlying27 hf with ⟨hcs, _⟩ | ⟨x, l, c, m, n, D, Pl, hcs, _, hl, hm, hmm, hx, hi⟩
  · simp [Value.cells] at hcs
    obtain ⟨rfl, rfl, rfl⟩ := hcs
    exact ⟨[], ⟨rfl, Nat.le_refl _, fun h => absurd h (by omega)⟩, by simp⟩
  · simp [Value.cells] at hcs
    obtain ⟨rfl, rfl, rfl⟩ := hcs
    have hlm : len ≤ m := by rw [hmm]; split <;> omega
    have hC : Try.prog.cellsOf 3 = 1 := by kernel_rfl
    have each : ∀ i, i < len → ∃ q : Int, (∀ b o, x = ⟨b, o, none⟩ → W.cell? ⟨b, o + i, none⟩ = some (.int .i64 q)) ∧ (i = 0 → ∃ b o, x = ⟨b, o, none⟩) ∧ I64 q := by
      intro i hil
      obtain ⟨cs', hc', ht'⟩ := hi i (by omega)
      rw [hC] at hc'
      obtain ⟨_, hcl, hat⟩ := World.cells?_some hc'
      obtain ⟨k, hk, _, f0⟩ := DataW.trod_int Try.underlying3 ht'
      subst hk
      refine ⟨k, ?_, ?_, I64.of_wf f0⟩
      · rintro b o rfl
        have h1 := hat 0 (by omega)
        rw [Go.WideShapes.add_plain, Go.WideShapes.add_plain] at h1
        simpa using h1
      · rintro rfl
        obtain ⟨b, o, spot⟩ := x
        have h0 := hat 0 (by omega)
        have := World.cell?_spot h0
        have hs : spot = none := by simpa [Addr.add] using this
        subst hs
        exact ⟨b, o, rfl⟩
    obtain ⟨X, hll, hq⟩ := list_of (Q := fun i (q : Int) => (∀ b o, x = ⟨b, o, none⟩ → W.cell? ⟨b, o + i, none⟩ = some (.int .i64 q)) ∧ (i = 0 → ∃ b o, x = ⟨b, o, none⟩) ∧ I64 q) len each
    refine ⟨X, ⟨hll, hl, fun hp => ?_⟩, fun q hqm => ?_⟩
    · obtain ⟨b, o, hxx⟩ := (hq 0 X[0] (List.getElem?_eq_getElem (by omega))).2.1 rfl
      exact ⟨b, o, by rw [hxx], fun i y hy => (hq i y hy).1 b o hxx⟩
    · obtain ⟨i, hi', e⟩ := List.mem_iff_getElem.1 hqm
      subst e
      exact (hq i _ (List.getElem?_eq_getElem hi')).2.2

set_option maxRecDepth 100000 in
theorem open_waits {a : Option Addr} {len cap : Nat} {d : DataW H} {p : List MemPlace} (h : DataW.Trod enc Try.prog W base spare held 22 (.slice a len cap) d p) : ∃ l, Wl W a len cap l ∧ ∀ x ∈ l, x.ok := by
  obtain ⟨hcap, _, _, hc⟩ := open_structs Try.underlying22 Try.underlying29 (by kernel_rfl) (by kernel_rfl) (by decide) h
  have each : ∀ i, i < len → ∃ q : Wt, (∀ b o, a = some ⟨b, o, none⟩ → W.cell? ⟨b, o + i * 2, none⟩ = some (.int .i64 q.tx) ∧ W.cell? ⟨b, o + i * 2 + 1, none⟩ = some (.slice q.A q.n q.c)) ∧ Il W q.A q.n q.c q.zs ∧ q.ok := by
    intro i hi
    obtain ⟨b, o, ha, hcell⟩ := hc (by omega)
    obtain ⟨v0, n0, y0, c0, t0⟩ := hcell i hi 0 _ rfl
    obtain ⟨v1, n1, y1, c1, t1⟩ := hcell i hi 1 _ rfl
    obtain ⟨k0, e0, _, f0⟩ := DataW.trod_int Try.underlying3 t0
    obtain ⟨B, k, c, e1⟩ := Go.Joins.slice_form Try.underlying27 t1
    simp only [List.cons.injEq, and_true] at e0 e1
    subst e0 e1
    obtain ⟨zs, hil, hz⟩ := open_il (d := y1.1) (p := y1.2) ⟨n1, t1⟩
    refine ⟨⟨k0, B, k, c, zs⟩, fun b' o' h' => ?_, hil, I64.of_wf f0, hz⟩
    rw [ha] at h'
    injection h' with h'
    injection h' with h1 h2 _
    subst h1; subst h2
    exact ⟨c0, c1⟩
  obtain ⟨l, hl, hq⟩ := list_of (Q := fun i (q : Wt) => (∀ b o, a = some ⟨b, o, none⟩ → W.cell? ⟨b, o + i * 2, none⟩ = some (.int .i64 q.tx) ∧ W.cell? ⟨b, o + i * 2 + 1, none⟩ = some (.slice q.A q.n q.c)) ∧ Il W q.A q.n q.c q.zs ∧ q.ok) len each
  have mem : ∀ x ∈ l, Il W x.A x.n x.c x.zs ∧ x.ok := fun x hx => by
    obtain ⟨i, hi, rfl⟩ := List.mem_iff_getElem.1 hx
    exact (hq i _ (List.getElem?_eq_getElem hi)).2
  refine ⟨l, ⟨hl, hcap, fun hp => ?_, fun x hx => (mem x hx).1⟩, fun x hx => (mem x hx).2⟩
  obtain ⟨b, o, ha, _⟩ := hc hp
  exact ⟨b, o, ha, fun j x hx => (hq j x hx).1 b o ha⟩
end
end Go.Proofs.Ytbdfolopnocjmaa
