/-
  The pages the other way round: as many are live in each segment, and the same segment is the victim.
-/
import Derived.Test.YthbcgbbcoanbdaaCMath
namespace Go.Proofs.Ythbcgbbcoanbdaa
open Go Go.RowKit

def rv (p : Tr) : Tr := ⟨p.a, p.b, 0⟩
def revT (t : Tb) : Tb := ⟨t.pg.reverse.map rv, t.sg, t.sl, t.nw⟩
theorem rev_len (t : Tb) : (revT t).pg.length = t.pg.length := by unfold revT; rw [List.length_map, List.length_reverse]
theorem atS_map2 {f : Tr → Tr} {l : List Tr} {i : Nat} (hi : i < l.length) : atS (l.map f) i = f (atS l i) := by
  unfold atS
  rw [List.getD_eq_getElem?_getD, List.getD_eq_getElem?_getD, List.getElem?_map, List.getElem?_eq_getElem hi]
  rfl
theorem rev_at {t : Tb} {i : Nat} (hi : i < t.pg.length) : atS (revT t).pg i = rv (atS t.pg (t.pg.length - 1 - i)) := by
  unfold revT
  show atS (t.pg.reverse.map rv) i = _
  rw [atS_map2 (by rw [List.length_reverse]; exact hi)]
  unfold atS
  rw [List.getD_eq_getElem?_getD, List.getD_eq_getElem?_getD, List.getElem?_reverse hi]
theorem rev_take {l : List Tr} {j : Nat} (hj : j < l.length) : (l.reverse.take (j + 1)).map rv = (l.reverse.take j).map rv ++ [rv (atS l (l.length - 1 - j))] := by
  have hj' : j < l.reverse.length := by rw [List.length_reverse]; exact hj
  rw [List.take_succ_eq_append_getElem hj', List.map_append]
  congr 1
  show [rv l.reverse[j]] = _
  unfold atS
  rw [List.getD_eq_getElem?_getD, ← List.getElem?_reverse hj, List.getElem?_eq_getElem hj']
  rfl
theorem rev_may {t : Tb} (h : t.May) : (revT t).May := by
  refine ⟨by rw [rev_len]; exact h.p1, by rw [rev_len]; exact h.p2, h.s1, h.s2, h.k1, h.k2, h.n1, h.n2, h.seg, h.one, fun i hi => ?_⟩
  rw [rev_len] at hi
  refine pgB_mk ?_
  rw [rev_at hi, rev_len]
  have hi2 : t.pg.length - 1 - i < t.pg.length := by omega
  by_cases h0 : 0 ≤ (atS t.pg (t.pg.length - 1 - i)).a
  · obtain ⟨a1, a2, a3, a4, a5, a6, a7⟩ := h.page hi2 h0
    refine .inr ⟨h0, a1, a2, a3, Int.le_refl _, (by show (0 : Int) ≤ _; decide), a6, fun j hj e1 e2 => ?_⟩
    rw [rev_at hj] at e1 e2
    have := a7 (t.pg.length - 1 - j) (by omega) e1 e2
    omega
  · rw [h.nopage hi2 (by omega)]
    exact .inl rfl
/-- How many are live: a count over the list. -/
theorem cnt_list (P : Tr → Bool) (l : List Tr) : cnt (fun i => P (atS l i)) l.length = (l.filter P).length := by
  have e : l = (List.range l.length).map (atS l) := by
    apply List.ext_getElem?
    intro i
    rw [List.getElem?_map]
    by_cases hi : i < l.length
    · rw [List.getElem?_range hi, atS_get hi]; rfl
    · rw [List.getElem?_eq_none (by omega), List.getElem?_eq_none (by rw [List.length_range]; omega)]; rfl
  have h2 : (l.filter P).length = (((List.range l.length).map (atS l)).filter P).length := congrArg (fun q => (List.filter P q).length) e
  rw [h2, List.filter_map, List.length_map]
  rfl
theorem rev_lv (t : Tb) (g : Int) : lvN (revT t) g = lvN t g := by
  have h1 : cnt (lvF g (revT t)) (revT t).pg.length = ((revT t).pg.filter (fun p => decide (p.a = g))).length := cnt_list (fun p => decide (p.a = g)) (revT t).pg
  have h2 : cnt (lvF g t) t.pg.length = (t.pg.filter (fun p => decide (p.a = g))).length := cnt_list (fun p => decide (p.a = g)) t.pg
  unfold lvN
  rw [h1, h2]
  unfold revT
  show ((List.length (List.filter _ (t.pg.reverse.map rv)) : Nat) : Int) = _
  rw [List.filter_map, List.length_map, List.filter_reverse, List.length_reverse]
  rfl
theorem rev_gn {t : Tb} (h : t.May) (g : Int) : gnB (revT t) g = gnB t g := by
  unfold gnB
  rw [mayB_iff.2 h, mayB_iff.2 (rev_may h), rev_lv]
  rfl
theorem rev_ga {t : Tb} (h : t.May) (g : Int) : gaN (revT t) g = gaN t g ∧ gaD (revT t) g = gaD t g := by
  unfold gaN gaD
  rw [rev_gn h, rev_lv]
  exact ⟨rfl, rfl⟩
theorem rev_vc {t : Tb} (h : t.May) : ∀ j, vc (revT t) j = vc t j
  | 0 => rfl
  | j + 1 => by
    have ih := rev_vc h j
    unfold vc
    rw [ih, (rev_ga h j).1, (rev_ga h j).2]
    have : vcB (revT t) j (vc t j) = vcB t j (vc t j) := by unfold vcB; rw [rev_gn h, (rev_ga h j).1, (rev_ga h j).2]
    rw [this]
theorem rev_vcT {t : Tb} (h : t.May) : vcT (revT t) = vcT t := rev_vc h _
end Go.Proofs.Ythbcgbbcoanbdaa
