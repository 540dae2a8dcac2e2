/-
  Which transactions are light; the laws' words for it.
-/
import Derived.Test.YtidcmolkolcliaaXMem
namespace Go.Proofs.Ytidcmolkolcliaa
open Go Go.RowKit

def smB (c : Cp) : Bool := decide (c.o.2.length ≤ 100) && decide (c.v.2.length ≤ 100)
def ltB (t : Tp) : Bool := decide (t.L.length ≤ 20) && decide (t.S.length ≤ 20) && (List.range t.L.length).all (fun i => smB (atC t.L i))
theorem smB_iff {c : Cp} : smB c = true ↔ smallC c := by unfold smB smallC; rw [Bool.and_eq_true, decide_eq_true_eq, decide_eq_true_eq]
theorem ltB_iff {t : Tp} : ltB t = true ↔ t.L.length ≤ 20 ∧ t.S.length ≤ 20 ∧ ∀ i, i < t.L.length → smB (atC t.L i) = true := by
  unfold ltB
  rw [Bool.and_eq_true, Bool.and_eq_true, decide_eq_true_eq, decide_eq_true_eq, List.all_eq_true]
  simp only [List.mem_range]
  constructor
  · rintro ⟨⟨a, b⟩, c⟩; exact ⟨a, b, c⟩
  · rintro ⟨a, b, c⟩; exact ⟨⟨a, b⟩, c⟩
theorem ltB_small {t : Tp} (h : ltB t = true) : smallT t := by
  obtain ⟨h1, _, h3⟩ := ltB_iff.1 h
  refine ⟨h1, fun c hc => ?_⟩
  obtain ⟨i, hi⟩ := List.mem_iff_getElem?.1 hc
  have := h3 i (List.getElem?_eq_some_iff.1 hi).1
  rw [atC_of hi] at this
  exact smB_iff.1 this
end Go.Proofs.Ytidcmolkolcliaa
