/-
  Which records fit, as a plain fact.
-/
import Derived.Test.YtpkgeidenkjnfaaSPack2
namespace Go.Proofs.Ytpkgeidenkjnfaa
open Go Go.RowKit

theorem fitsB_iff (l : List RcD) : fitsB l = true ↔ l.all mayB = true ∧ l.length ≤ 60 ∧ 11 + (recsB l).length ≤ 248 := by
  have hp : (packB 0 0 0 l).length = 11 + (recsB l).length := by unfold packB; rw [List.length_append, headB_len]
  unfold fitsB
  rw [beq_iff_eq]
  constructor
  · intro h
    obtain ⟨_, h2, h3, h4⟩ := packE_zero h
    exact ⟨h2, h3, by omega⟩
  · rintro ⟨h2, h3, h4⟩
    exact packE_ok rfl h2 (by omega)
theorem recsB_append (a b : List RcD) : recsB (a ++ b) = recsB a ++ recsB b := List.flatMap_append
theorem fits_packs {e s f : Int} {l : List RcD} (h : packE e s f l = 0) : fitsB l = true := by
  obtain ⟨_, h2, h3, h4⟩ := packE_zero h
  unfold packB at h4
  rw [List.length_append, headB_len] at h4
  exact (fitsB_iff l).2 ⟨h2, h3, h4⟩
end Go.Proofs.Ytpkgeidenkjnfaa
