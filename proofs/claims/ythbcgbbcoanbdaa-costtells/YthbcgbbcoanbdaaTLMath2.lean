/-
  Mathematics of the laws of layer 10: Settle; counting; what stands behind a Put.
-/
import Derived.Test.YthbcgbbcoanbdaaTLMath
namespace Go.Proofs.Ythbcgbbcoanbdaa

theorem topN_ge {t : Tb} {seg : Int} : ∀ (n j : Nat), j < n → (atS t.pg j).a = seg → (atS t.pg j).b + 1 ≤ topN t seg n
  | 0, j, h, _ => absurd h (by omega)
  | n + 1, j, h, e => by
    by_cases hj : j = n
    · subst hj
      rw [topN_yes e]
      omega
    · have ih := topN_ge n j (by omega) e
      rw [topN]
      split
      · omega
      · exact ih
theorem topN_ex {t : Tb} {seg : Int} : ∀ (n : Nat), 0 < topN t seg n → ∃ j, j < n ∧ (atS t.pg j).a = seg ∧ topN t seg n = (atS t.pg j).b + 1
  | 0, h => by rw [topN] at h; exact absurd h (by decide)
  | n + 1, h => by
    by_cases e : (atS t.pg n).a = seg
    · rw [topN_yes e] at h ⊢
      by_cases hm : topN t seg n ≤ (atS t.pg n).b + 1
      · exact ⟨n, by omega, e, by omega⟩
      · obtain ⟨j, hj, e1, e2⟩ := topN_ex (t := t) (seg := seg) n (by omega)
        exact ⟨j, by omega, e1, by omega⟩
    · rw [topN_no e] at h ⊢
      obtain ⟨j, hj, e1, e2⟩ := topN_ex n h
      exact ⟨j, by omega, e1, e2⟩
/-- Nothing is live just if there is no top. -/
theorem top_zero {t : Tb} (h : t.May) (i : Nat) : topN t i t.pg.length = 0 ↔ cnt (lvF i t) t.pg.length = 0 := by
  constructor
  · intro h0
    rw [cnt_none]
    intro j hj
    refine decide_eq_false fun e => ?_
    have := topN_ge t.pg.length j hj e
    have := h.page hj (by omega)
    omega
  · intro h0
    have hn := topN_nn t i t.pg.length
    refine Classical.byContradiction fun hne => ?_
    obtain ⟨j, hj, e1, _⟩ := topN_ex (t := t) (seg := i) t.pg.length (by omega)
    have := cnt_none.1 h0 j hj
    rw [lvF_iff.2 e1] at this
    cases this
/-- What a segment with a live image is, and its top. -/
theorem live_seg {t : Tb} (h : t.May) {i : Nat} (h0 : topN t i t.pg.length ≠ 0) : i < t.sg.length ∧ 1 ≤ topN t i t.pg.length ∧ topN t i t.pg.length ≤ t.sl ∧ 0 ≤ (atS t.sg i).c ∧ (atS t.sg i).c ≤ t.nw := by
  have hn := topN_nn t i t.pg.length
  obtain ⟨j, hj, e1, e2⟩ := topN_ex (t := t) (seg := i) t.pg.length (by omega)
  obtain ⟨b1, b2, b3, b4, b5, b6, b7⟩ := h.page hj (by omega)
  rw [e1, Int.toNat_natCast] at b6
  have hi : i < t.sg.length := by omega
  rcases h.segs hi with e | e | e
  · rw [e] at b6
    have : noT.b = 0 := rfl
    omega
  · exact ⟨hi, by omega, by omega, e.2.2.2.1, e.2.2.2.2⟩
  · exact ⟨hi, by omega, by omega, e.2.2.1, e.2.2.2⟩
theorem stl_a {t : Tb} {op : Int} {i : Nat} : (stlT t op i).a = 0 ↔ topN t i t.pg.length = 0 := by
  unfold stlT
  by_cases h : topN t i t.pg.length = 0
  · rw [if_pos h]; exact ⟨fun _ => h, fun _ => rfl⟩
  · rw [if_neg h]
    refine ⟨fun e => ?_, fun e => absurd e h⟩
    exfalso
    split at e
    · rw [fillT_a] at e; split at e <;> exact absurd e (by decide)
    · rw [fillT_a, if_pos rfl] at e; exact absurd e (by decide)
theorem stl_open {t : Tb} {op : Int} {i : Nat} (h : (stlT t op i).a = 1) : (i : Int) = op := by
  unfold stlT at h
  split at h
  · exact absurd h (by decide)
  · split at h
    · assumption
    · rw [fillT_a, if_pos rfl] at h; exact absurd h (by decide)
theorem setl_len (t : Tb) (op : Int) : (setlT t op).sg.length = t.sg.length := by simp [setlT]
theorem setl_at {t : Tb} {op : Int} {i : Nat} (hi : i < t.sg.length) : atS (setlT t op).sg i = stlT t op i := atS_map hi

theorem setl_may {t : Tb} {op : Int} (h : t.May) : (setlT t op).May := by
  have hpg : (setlT t op).pg = t.pg := rfl
  have hsl : (setlT t op).sl = t.sl := rfl
  have hnw : (setlT t op).nw = t.nw := rfl
  have hl := setl_len t op
  have n1 := h.n1
  refine ⟨h.p1, h.p2, by rw [hl]; exact h.s1, by rw [hl]; exact h.s2, h.k1, h.k2, h.n1, h.n2, ?_, ?_, ?_⟩
  · intro j hj
    rw [hl] at hj
    unfold sgF
    rw [setl_at hj, hsl, hnw, segB_iff]
    unfold stlT
    by_cases h0 : topN t j t.pg.length = 0
    · rw [if_pos h0]; exact .inl rfl
    · rw [if_neg h0]
      obtain ⟨_, t1, t2, c1, c2⟩ := live_seg h h0
      split
      · rw [fillT_a, fillT_b, fillT_c]
        split
        · rename_i e; exact .inr (.inr ⟨rfl, e, c1, c2⟩)
        · exact .inr (.inl ⟨rfl, t1, by omega, c1, c2⟩)
      · rw [fillT_a, fillT_b, fillT_c, if_pos rfl]
        exact .inr (.inr ⟨rfl, rfl, c1, c2⟩)
  · refine cnt_one_of (fun j k hj hk fj fk => ?_)
    rw [hl] at hj hk
    rw [stF_iff, setl_at hj] at fj
    rw [stF_iff, setl_at hk] at fk
    have := stl_open fj
    have := stl_open fk
    omega
  · intro j hj
    rw [hpg] at hj
    refine pgB_mk ?_
    rw [hpg, hl, hsl]
    by_cases h0 : 0 ≤ (atS t.pg j).a
    · obtain ⟨b1, b2, b3, b4, b5, b6, b7⟩ := h.page hj h0
      refine .inr ⟨h0, b1, b2, b3, b4, b5, ?_, b7⟩
      have hk : (atS t.pg j).a.toNat < t.sg.length := by omega
      rw [setl_at hk]
      have hge := topN_ge (t := t) (seg := ((atS t.pg j).a.toNat : Int)) t.pg.length j hj (by omega)
      unfold stlT
      rw [if_neg (by omega)]
      split
      · rw [fillT_b]; omega
      · rw [fillT_b]; exact b3
    · exact .inl (h.nopage hj (by omega))
/-- Settled once more it is the same. -/
theorem setl_twice {t : Tb} {op : Int} : setlT (setlT t op) op = setlT t op := by
  have hpg : (setlT t op).pg = t.pg := rfl
  have e : (List.range (setlT t op).sg.length).map (stlT (setlT t op) op) = (setlT t op).sg := by
    refine atS_ext (by simp) (fun i hi => ?_)
    have hi' : i < (setlT t op).sg.length := by simpa using hi
    rw [atS_map hi']
    rw [setl_len] at hi'
    rw [setl_at hi']
    have ht : topN (setlT t op) i (setlT t op).pg.length = topN t i t.pg.length := topN_congr hpg i _
    unfold stlT
    rw [ht]
    by_cases h0 : topN t i t.pg.length = 0
    · rw [if_pos h0, if_pos h0]
    · rw [if_neg h0, if_neg h0]
      have hc : (atS (setlT t op).sg i).c = (atS t.sg i).c := by
        rw [setl_at hi']
        unfold stlT
        rw [if_neg h0]
        split
        · rw [fillT_c]
        · rw [fillT_c]
      rw [hc]
      rfl
  show (⟨t.pg, (List.range (setlT t op).sg.length).map (stlT (setlT t op) op), t.sl, t.nw⟩ : Tb) = _
  rw [e]
  rfl
/-- A segment is free behind Settle just if nothing is live. -/
theorem setl_free {t : Tb} {op : Int} (h : t.May) {i : Nat} (hi : i < t.sg.length) : (atS (setlT t op).sg i).a = 0 ↔ liveI t i = 0 := by
  rw [setl_at hi, stl_a, top_zero h]
  unfold liveI
  rw [if_pos ⟨mayB_iff.2 h, inB_iff.2 (by omega)⟩]
  omega

/-! ### Counting -/
theorem cnt_add {f g k : Nat → Bool} : ∀ n : Nat, (∀ i, i < n → (f i = true ∧ g i = false ∧ k i = true) ∨ (f i = false ∧ g i = true ∧ k i = true) ∨ (f i = false ∧ g i = false ∧ k i = false)) → cnt f n + cnt g n = cnt k n
  | 0, _ => rfl
  | n + 1, h => by
    have ih := cnt_add n (fun i hi => h i (by omega))
    rcases h n (by omega) with ⟨a, b, c⟩ | ⟨a, b, c⟩ | ⟨a, b, c⟩
    · rw [cnt_yes a, cnt_no b, cnt_yes c]; omega
    · rw [cnt_no a, cnt_yes b, cnt_yes c]; omega
    · rw [cnt_no a, cnt_no b, cnt_no c]; exact ih
/-- The pages that are in the first j segments; that are somewhere. -/
def inF (t : Tb) (j : Nat) (i : Nat) : Bool := decide (0 ≤ (atS t.pg i).a) && decide ((atS t.pg i).a < (j : Int))
def smF (t : Tb) (i : Nat) : Bool := decide (0 ≤ (atS t.pg i).a)
theorem inF_zero (t : Tb) : cnt (inF t 0) t.pg.length = 0 := by
  rw [cnt_none]
  intro i _
  unfold inF
  by_cases h : 0 ≤ (atS t.pg i).a
  · rw [decide_eq_true h, decide_eq_false (by omega)]; rfl
  · rw [decide_eq_false h]; rfl
theorem inF_succ (t : Tb) (j : Nat) : cnt (inF t j) t.pg.length + cnt (lvF j t) t.pg.length = cnt (inF t (j + 1)) t.pg.length := by
  refine cnt_add _ (fun i _ => ?_)
  unfold inF lvF
  generalize (atS t.pg i).a = z
  by_cases h0 : 0 ≤ z
  · by_cases h1 : z < (j : Int)
    · exact .inl ⟨by simp [h0, h1], by simp; omega, by simp [h0]; omega⟩
    · by_cases h2 : z = (j : Int)
      · exact .inr (.inl ⟨by simp [h1], by simp [h2], by simp [h0]; omega⟩)
      · exact .inr (.inr ⟨by simp [h1], by simp [h2], by simp; omega⟩)
  · exact .inr (.inr ⟨by simp; omega, by simp; omega, by simp; omega⟩)
theorem inF_all {t : Tb} (h : t.May) : cnt (inF t t.sg.length) t.pg.length = cnt (smF t) t.pg.length := by
  refine cnt_congr (fun i hi => ?_)
  unfold inF smF
  by_cases h0 : 0 ≤ (atS t.pg i).a
  · rw [decide_eq_true h0, decide_eq_true (h.page hi h0).1]; rfl
  · rw [decide_eq_false h0]; rfl
theorem liveI_in {t : Tb} (h : t.May) {j : Nat} (hj : j < t.sg.length) : liveI t j = ((cnt (lvF j t) t.pg.length : Nat) : Int) := by
  unfold liveI
  rw [if_pos ⟨mayB_iff.2 h, inB_iff.2 (by omega)⟩]
theorem freesI_may {t : Tb} (h : t.May) : freesI t = ((cnt (stF 0 t) t.sg.length : Nat) : Int) := by
  unfold freesI
  rw [if_pos (mayB_iff.2 h)]

/-! ### Behind a Put -/
theorem put_pg {t : Tb} {i : Nat} {a : Int} (hi : i < t.pg.length) : atS (putT t i a).pg i = ⟨(nxG t : Int), nxU t, a⟩ := by
  show atS (t.pg.set i _) i = _
  rw [atS_set hi, if_pos rfl]
/-- There is room in the segment: the next slot is next. -/
theorem put_next {t : Tb} {page a : Int} (hz : putE t page a = 0) (hr : nxU t + 1 < t.sl) : nxE (putT t page a) = 0 ∧ nxG (putT t page a) = nxG t ∧ nxU (putT t page a) = nxU t + 1 := by
  obtain ⟨h, he, _, _, _⟩ := putE_zero hz
  have hm := put_may hz
  obtain ⟨hG, hU, hway⟩ := nx_yes h he
  have hsg : (putT t page a).sg = t.sg.set (nxG t) (fillT t.sl (nxU t + 1) (t.nw + 1)) := rfl
  have ls : (putT t page a).sg.length = t.sg.length := by rw [hsg, List.length_set]
  have hat : atS (putT t page a).sg (nxG t) = fillT t.sl (nxU t + 1) (t.nw + 1) := by rw [hsg, atS_set hG, if_pos rfl]
  have h1 : stF 1 (putT t page a) (nxG t) = true := by rw [stF_iff, hat, fillT_a, if_neg (by omega)]
  have hp : 0 < cnt (stF 1 (putT t page a)) (putT t page a).sg.length := cnt_pos.2 ⟨nxG t, by rw [ls]; exact hG, h1⟩
  have hE : nxE (putT t page a) = 0 := by unfold nxE; rw [if_pos (mayB_iff.2 hm), if_pos hp]
  obtain ⟨f1, f2, _⟩ := fstI_spec hp
  have hf : fstI (stF 1 (putT t page a)) (putT t page a).sg.length = nxG t := cnt_le_one hm.one f1 (by rw [ls]; exact hG) f2 h1
  have hGG : nxG (putT t page a) = nxG t := by unfold nxG; rw [if_pos (mayB_iff.2 hm), if_pos hp]; exact hf
  refine ⟨hE, hGG, ?_⟩
  unfold nxU
  rw [if_pos hE, hGG, hat, fillT_b]
  rfl
/-- There is none: the first free segment is next. -/
theorem put_next_full {t : Tb} {page a : Int} (hz : putE t page a = 0) (hr : ¬ nxU t + 1 < t.sl) (he : nxE (putT t page a) = 0) : nxU (putT t page a) = 0 ∧ nxG (putT t page a) < (putT t page a).sg.length ∧ (atS (putT t page a).sg (nxG (putT t page a))).a = 0 ∧ ∀ j, j < nxG (putT t page a) → (atS (putT t page a).sg j).a ≠ 0 := by
  obtain ⟨h, he0, _, _, _⟩ := putE_zero hz
  have hm := put_may hz
  obtain ⟨hG, hU, hway⟩ := nx_yes h he0
  obtain ⟨_, u0, u1⟩ := nx_in h he0
  have hsg : (putT t page a).sg = t.sg.set (nxG t) (fillT t.sl (nxU t + 1) (t.nw + 1)) := rfl
  have ls : (putT t page a).sg.length = t.sg.length := by rw [hsg, List.length_set]
  have hno : ∀ j, j < (putT t page a).sg.length → (atS (putT t page a).sg j).a ≠ 1 := by
    intro j hj e
    rw [hsg, atS_set hG] at e
    rw [ls] at hj
    by_cases ej : j = nxG t
    · rw [if_pos ej, fillT_a, if_pos (by omega)] at e
      exact absurd e (by decide)
    · rw [if_neg ej] at e
      rcases hway with ⟨_, hu⟩ | ⟨hn, _⟩
      · exact ej (hu j hj e)
      · exact hn j hj e
  obtain ⟨g1, g2, g3⟩ := nx_yes hm he
  rcases g3 with ⟨e, _⟩ | ⟨_, e, hlt⟩
  · exact absurd e (hno _ g1)
  · rw [g2, e]
    exact ⟨rfl, g1, rfl, hlt⟩
theorem live_pos {t : Tb} (h : t.May) {i : Nat} (hi : i < t.pg.length) {g : Nat} (hg : g < t.sg.length) (e : (atS t.pg i).a = (g : Int)) : 1 ≤ liveI t g := by
  rw [liveI_in h hg]
  have : 0 < cnt (lvF g t) t.pg.length := cnt_pos.2 ⟨i, hi, lvF_iff.2 e⟩
  omega
end Go.Proofs.Ythbcgbbcoanbdaa
