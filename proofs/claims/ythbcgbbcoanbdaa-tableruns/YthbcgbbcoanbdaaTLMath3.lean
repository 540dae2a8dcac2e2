/-
  Mathematics of the laws of layer 10: whatever call.
-/
import Derived.Test.YthbcgbbcoanbdaaTLMath2
import Derived.Test.YthbcgbbcoanbdaaTOps
namespace Go.Proofs.Ythbcgbbcoanbdaa

def doesE (t : Tb) (x : OpD) : Int := if x.kind = 0 then putE t x.page x.at_ else if x.kind = 1 then setE t x.page x.p else if x.kind = 2 then freeE t x.seg else if mayB t = true then 0 else 1
def doesT (t : Tb) (x : OpD) : Tb := if x.kind = 0 then putT t x.page x.at_ else if x.kind = 1 then setT t x.page x.p else if x.kind = 2 then freeT t x.seg else setlT t x.seg
theorem setT_pg (t : Tb) (page : Int) (p : Tr) : (setT t page p).pg = t.pg.set page.toNat p := by unfold setT; split <;> rfl
theorem setT_sgl (t : Tb) (page : Int) (p : Tr) : (setT t page p).sg.length = t.sg.length := by
  unfold setT
  split
  · rfl
  · exact List.length_set
theorem setT_nw (t : Tb) (page : Int) (p : Tr) : (setT t page p).nw = t.nw := by unfold setT; split <;> rfl
theorem does_may {t : Tb} {x : OpD} (h : doesE t x = 0) (hm : t.May) : (doesT t x).May := by
  unfold doesE at h
  unfold doesT
  by_cases h0 : x.kind = 0
  · rw [if_pos h0] at h ⊢; exact put_may h
  · rw [if_neg h0] at h ⊢
    by_cases h1 : x.kind = 1
    · rw [if_pos h1] at h ⊢; exact set_may h
    · rw [if_neg h1] at h ⊢
      by_cases h2 : x.kind = 2
      · rw [if_pos h2] at h ⊢; exact free_may h
      · rw [if_neg h2]; exact setl_may hm
theorem does_len (t : Tb) (x : OpD) : (doesT t x).pg.length = t.pg.length ∧ (doesT t x).sg.length = t.sg.length ∧ t.nw ≤ (doesT t x).nw := by
  unfold doesT
  split
  · exact ⟨List.length_set, List.length_set, by show t.nw ≤ t.nw + 1; omega⟩
  · split
    · exact ⟨by rw [setT_pg, List.length_set], setT_sgl _ _ _, by rw [setT_nw]; exact Int.le_refl _⟩
    · split
      · exact ⟨rfl, List.length_set, Int.le_refl _⟩
      · exact ⟨rfl, setl_len _ _, Int.le_refl _⟩
/-- A page goes only where it is put. -/
theorem does_page {t : Tb} {x : OpD} (h : doesE t x = 0) {j : Nat} (hne : atS (doesT t x).pg j ≠ atS t.pg j) : (j : Int) = x.page ∧ (x.kind = 0 ∨ x.kind = 1) := by
  unfold doesT at hne
  unfold doesE at h
  by_cases h0 : x.kind = 0
  · rw [if_pos h0] at h hne
    obtain ⟨_, _, ⟨p0, p1⟩, _, _⟩ := putE_zero h
    refine ⟨?_, .inl h0⟩
    refine Classical.byContradiction fun hj => hne ?_
    show atS (t.pg.set x.page.toNat _) j = _
    rw [atS_set (by omega), if_neg (by omega)]
  · rw [if_neg h0] at h hne
    by_cases h1 : x.kind = 1
    · rw [if_pos h1] at h hne
      obtain ⟨_, ⟨p0, p1⟩, _⟩ := setE_zero h
      refine ⟨?_, .inr h1⟩
      refine Classical.byContradiction fun hj => hne ?_
      rw [setT_pg, atS_set (by omega), if_neg (by omega)]
    · rw [if_neg h1] at hne
      exfalso
      apply hne
      split
      · rfl
      · rfl
end Go.Proofs.Ythbcgbbcoanbdaa
