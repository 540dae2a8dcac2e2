/-
  Mathematics of the laws of layer 10: what calls make of a table that may be.
-/
import Derived.Test.YthbcgbbcoanbdaaTSettle
import Derived.Test.YthbcgbbcoanbdaaTSet
namespace Go.Proofs.Ythbcgbbcoanbdaa

theorem fillT_b (sl u c : Int) : (fillT sl u c).b = u := by unfold fillT; split <;> rfl
theorem fillT_c (sl u c : Int) : (fillT sl u c).c = c := by unfold fillT; split <;> rfl
theorem fillT_a (sl u c : Int) : (fillT sl u c).a = if u = sl then 2 else 1 := by unfold fillT; split <;> rfl
theorem segB_mono {s : Tr} {sl nw nw' : Int} (h : segB s sl nw = true) (hw : nw ≤ nw') : segB s sl nw' = true := by
  rw [segB_iff] at h ⊢
  rcases h with h | h | h
  · exact .inl h
  · exact .inr (.inl ⟨h.1, h.2.1, h.2.2.1, h.2.2.2.1, by omega⟩)
  · exact .inr (.inr ⟨h.1, h.2.1, h.2.2.1, by omega⟩)
theorem stF_iff {st : Int} {t : Tb} {i : Nat} : stF st t i = true ↔ (atS t.sg i).a = st := by simp [stF]
theorem lvF_iff {st : Int} {t : Tb} {i : Nat} : lvF st t i = true ↔ (atS t.pg i).a = st := by simp [lvF]

/-- The next place. -/
theorem nx_yes {t : Tb} (h : t.May) (he : nxE t = 0) : nxG t < t.sg.length ∧ nxU t = (atS t.sg (nxG t)).b ∧
    (((atS t.sg (nxG t)).a = 1 ∧ ∀ j, j < t.sg.length → (atS t.sg j).a = 1 → j = nxG t) ∨ ((∀ j, j < t.sg.length → (atS t.sg j).a ≠ 1) ∧ atS t.sg (nxG t) = noT ∧ ∀ j, j < nxG t → (atS t.sg j).a ≠ 0)) := by
  have hy := mayB_iff.2 h
  have hU : nxU t = (atS t.sg (nxG t)).b := by unfold nxU; rw [if_pos he]
  refine ⟨(nx_in h he).1, hU, ?_⟩
  unfold nxE at he
  rw [if_pos hy] at he
  by_cases h1 : 0 < cnt (stF 1 t) t.sg.length
  · obtain ⟨f1, f2, _⟩ := fstI_spec h1
    have hG : nxG t = fstI (stF 1 t) t.sg.length := by unfold nxG; rw [if_pos hy, if_pos h1]
    rw [hG]
    exact .inl ⟨stF_iff.1 f2, fun j hj e => cnt_le_one h.one hj f1 (stF_iff.2 e) f2⟩
  · rw [if_neg h1] at he
    by_cases h0 : 0 < cnt (stF 0 t) t.sg.length
    · obtain ⟨f1, f2, f3⟩ := fstI_spec h0
      have hG : nxG t = fstI (stF 0 t) t.sg.length := by unfold nxG; rw [if_pos hy, if_neg h1, if_pos h0]
      rw [hG]
      refine .inr ⟨fun j hj e => h1 (cnt_pos.2 ⟨j, hj, stF_iff.2 e⟩), h.freeSeg f1 (stF_iff.1 f2), fun j hj e => ?_⟩
      have := f3 j hj
      rw [stF_iff.2 e] at this
      cases this
    · rw [if_neg h0] at he
      exact absurd he (by decide)
theorem nx_no {t : Tb} (h : t.May) (he : nxE t ≠ 0) : nxE t = 4 ∧ cnt (stF 0 t) t.sg.length = 0 ∧ cnt (stF 1 t) t.sg.length = 0 := by
  have hy := mayB_iff.2 h
  unfold nxE at he ⊢
  rw [if_pos hy] at he ⊢
  by_cases h1 : 0 < cnt (stF 1 t) t.sg.length
  · rw [if_pos h1] at he; exact absurd rfl he
  · rw [if_neg h1] at he ⊢
    by_cases h0 : 0 < cnt (stF 0 t) t.sg.length
    · rw [if_pos h0] at he; exact absurd rfl he
    · rw [if_neg h0]; exact ⟨rfl, by omega, by omega⟩
/-- No page has the next place. -/
theorem nx_new {t : Tb} (h : t.May) (he : nxE t = 0) {i : Nat} (hi : i < t.pg.length) (ha : (atS t.pg i).a = (nxG t : Int)) : (atS t.pg i).b < nxU t := by
  obtain ⟨_, hU, _⟩ := nx_yes h he
  have h1 := h.page hi (by omega)
  rw [ha, Int.toNat_natCast] at h1
  rw [hU]
  exact h1.2.2.2.2.2.1

theorem putE_zero {t : Tb} {page a : Int} (h : putE t page a = 0) : t.May ∧ nxE t = 0 ∧ (0 ≤ page ∧ page < t.pg.length) ∧ (0 ≤ a ∧ a ≤ 4294967295) ∧ t.nw ≠ 1099511627776 := by
  unfold putE at h
  by_cases hc : (mayB t && inB page 0 ((t.pg.length : Int) - 1) && inB a 0 4294967295 && !decide (t.nw = 1099511627776)) = true
  · rw [if_pos hc] at h
    rw [Bool.and_eq_true, Bool.and_eq_true, Bool.and_eq_true, inB_iff, inB_iff, mayB_iff] at hc
    obtain ⟨⟨⟨h1, h2⟩, h3⟩, h4⟩ := hc
    exact ⟨h1, h, by omega, h3, by simpa using h4⟩
  · rw [if_neg hc] at h
    exact absurd h (by decide)

theorem put_may {t : Tb} {page a : Int} (hz : putE t page a = 0) : (putT t page a).May := by
  obtain ⟨h, he, ⟨p0, p1⟩, ha, hnw⟩ := putE_zero hz
  obtain ⟨hG, hU, hway⟩ := nx_yes h he
  obtain ⟨_, u0, u1⟩ := nx_in h he
  obtain ⟨i, rfl⟩ : ∃ i : Nat, page = i := ⟨page.toNat, by omega⟩
  have hi : i < t.pg.length := by omega
  have hpg : (putT t i a).pg = t.pg.set i ⟨(nxG t : Int), nxU t, a⟩ := rfl
  have hsg : (putT t i a).sg = t.sg.set (nxG t) (fillT t.sl (nxU t + 1) (t.nw + 1)) := rfl
  have hsl : (putT t i a).sl = t.sl := rfl
  have hnw' : (putT t i a).nw = t.nw + 1 := rfl
  have k1 := h.k1; have k2 := h.k2; have n1 := h.n1; have n2 := h.n2
  have old : ∀ j, j < t.pg.length → (atS t.pg j).a = (nxG t : Int) → (atS t.pg j).b < nxU t := fun j hj => nx_new h he hj
  refine ⟨by rw [hpg, List.length_set]; exact h.p1, by rw [hpg, List.length_set]; exact h.p2, by rw [hsg, List.length_set]; exact h.s1, by rw [hsg, List.length_set]; exact h.s2, k1, k2, by rw [hnw']; omega, by rw [hnw']; omega, ?_, ?_, ?_⟩
  · intro j hj
    rw [hsg, List.length_set] at hj
    unfold sgF
    rw [hsg, hsl, hnw', atS_set hG]
    by_cases e : j = nxG t
    · rw [if_pos e, segB_iff, fillT_a, fillT_b, fillT_c]
      by_cases hf : nxU t + 1 = t.sl
      · rw [if_pos hf]; exact .inr (.inr ⟨rfl, hf, by omega, by omega⟩)
      · rw [if_neg hf]; exact .inr (.inl ⟨rfl, by omega, by omega, by omega, by omega⟩)
    · rw [if_neg e]
      exact segB_mono (h.seg j hj) (by omega)
  · refine cnt_one_of (fun j k hj hk fj fk => ?_)
    have key : ∀ q, q < (putT t i a).sg.length → stF 1 (putT t i a) q = true → q = nxG t := by
      intro q hq fq
      rw [hsg, List.length_set] at hq
      rw [stF_iff, hsg, atS_set hG] at fq
      by_cases e : q = nxG t
      · exact e
      · rw [if_neg e] at fq
        rcases hway with ⟨_, hu⟩ | ⟨hn, _⟩
        · exact hu q hq fq
        · exact absurd fq (hn q hq)
    rw [key j hj fj, key k hk fk]
  · intro j hj
    rw [hpg, List.length_set] at hj
    refine pgB_mk ?_
    rw [hpg, hsg, hsl, List.length_set, List.length_set]
    have seg_b : ∀ k : Int, 0 ≤ k → k < t.sg.length → (atS (t.sg.set (nxG t) (fillT t.sl (nxU t + 1) (t.nw + 1))) k.toNat).b = if k.toNat = nxG t then nxU t + 1 else (atS t.sg k.toNat).b := by
      intro k _ _
      rw [atS_set hG]
      split
      · rw [fillT_b]
      · rfl
    rw [atS_set hi]
    by_cases e : j = i
    · rw [if_pos e]
      refine .inr ⟨by show (0 : Int) ≤ (nxG t : Int); omega, by show (nxG t : Int) < _; omega, u0, u1, ha.1, ha.2, ?_, ?_⟩
      · show nxU t < (atS _ (nxG t : Int).toNat).b
        rw [seg_b _ (by omega) (by omega), Int.toNat_natCast, if_pos rfl]
        omega
      · intro q hq e1 e2
        rw [atS_set hi] at e1 e2
        by_cases eq : q = i
        · omega
        · rw [if_neg eq] at e1 e2
          have e1' : (atS t.pg q).a = (nxG t : Int) := e1
          have e2' : (atS t.pg q).b = nxU t := e2
          have := old q hq e1'
          omega
    · rw [if_neg e]
      by_cases h0 : 0 ≤ (atS t.pg j).a
      · obtain ⟨b1, b2, b3, b4, b5, b6, b7⟩ := h.page hj h0
        refine .inr ⟨h0, b1, b2, b3, b4, b5, ?_, ?_⟩
        · rw [seg_b _ h0 b1]
          by_cases eg : (atS t.pg j).a.toNat = nxG t
          · rw [if_pos eg]
            have := old j hj (by omega)
            omega
          · rw [if_neg eg]; exact b6
        · intro q hq e1 e2
          rw [atS_set hi] at e1 e2
          by_cases eq : q = i
          · rw [if_pos eq] at e1 e2
            have e1' : (nxG t : Int) = (atS t.pg j).a := e1
            have e2' : nxU t = (atS t.pg j).b := e2
            have := old j hj e1'.symm
            omega
          · rw [if_neg eq] at e1 e2
            exact b7 q hq e1 e2
      · exact .inl (h.nopage hj (by omega))

/-- Set. -/
theorem setE_zero {t : Tb} {page : Int} {p : Tr} (h : setE t page p = 0) : t.May ∧ (0 ≤ page ∧ page < t.pg.length) ∧ (p = emT ∨ (p ≠ emT ∧ plB t p = true ∧ takB t.pg page p = false)) := by
  unfold setE at h
  by_cases hc : (mayB t && inB page 0 ((t.pg.length : Int) - 1) && (eqT p emT || plB t p)) = true
  · rw [if_pos hc] at h
    rw [Bool.and_eq_true, Bool.and_eq_true, inB_iff, mayB_iff, Bool.or_eq_true] at hc
    obtain ⟨⟨h1, h2⟩, h3⟩ := hc
    refine ⟨h1, by omega, ?_⟩
    by_cases he : p = emT
    · exact .inl he
    · right
      rw [eqT_no he] at h h3
      have h4 : plB t p = true := by simpa using h3
      refine ⟨he, h4, ?_⟩
      cases ht : takB t.pg page p with
      | false => rfl
      | true => rw [ht] at h; exact absurd h (by decide)
  · rw [if_neg hc] at h
    exact absurd h (by decide)
theorem tak_no {l : List Tr} {i : Nat} {p : Tr} (h : takB l i p = false) {j : Nat} (hj : j < l.length) (hne : j ≠ i) : ¬ ((atS l j).a = p.a ∧ (atS l j).b = p.b) := by
  intro e
  have : takB l i p = true := takB_iff.2 ⟨j, hj, by omega, e.1, e.2⟩
  rw [this] at h
  cases h
theorem ageT_in {t : Tb} (h : t.May) {j : Nat} (hj : j < t.sg.length) : 0 ≤ ageT t j ∧ ageT t j ≤ t.nw := by
  have n1 := h.n1
  unfold ageT
  split
  · omega
  · rename_i hne
    rcases h.segs hj with e | e | e
    · rw [e] at hne; exact absurd (eqT_self noT) hne
    · omega
    · omega

theorem set_may {t : Tb} {page : Int} {p : Tr} (hz : setE t page p = 0) : (setT t page p).May := by
  obtain ⟨h, ⟨p0, p1⟩, hway⟩ := setE_zero hz
  obtain ⟨i, rfl⟩ : ∃ i : Nat, page = i := ⟨page.toNat, by omega⟩
  have hi : i < t.pg.length := by omega
  have k1 := h.k1; have k2 := h.k2; have n1 := h.n1; have n2 := h.n2
  rcases hway with rfl | ⟨hne, hpl, htk⟩
  · have hT : setT t i emT = ⟨t.pg.set i emT, t.sg, t.sl, t.nw⟩ := by unfold setT; rw [if_pos (eqT_self _)]; rfl
    rw [hT]
    refine ⟨by show 1 ≤ (t.pg.set i emT).length; rw [List.length_set]; exact h.p1, by show (t.pg.set i emT).length ≤ 16; rw [List.length_set]; exact h.p2, h.s1, h.s2, k1, k2, n1, n2, h.seg, h.one, ?_⟩
    intro j hj
    have hj' : j < t.pg.length := by have : (t.pg.set i emT).length = t.pg.length := List.length_set; show j < _; rw [← this]; exact hj
    refine pgB_mk ?_
    show atS (t.pg.set i emT) j = emT ∨ _
    rw [atS_set hi]
    by_cases e : j = i
    · rw [if_pos e]; exact .inl rfl
    · rw [if_neg e]
      by_cases h0 : 0 ≤ (atS t.pg j).a
      · obtain ⟨b1, b2, b3, b4, b5, b6, b7⟩ := h.page hj' h0
        refine .inr ⟨h0, b1, b2, b3, b4, b5, b6, fun q hq e1 e2 => ?_⟩
        have hq' : q < t.pg.length := by have : (t.pg.set i emT).length = t.pg.length := List.length_set; rw [← this]; exact hq
        change (atS (t.pg.set i emT) q).a = _ at e1
        change (atS (t.pg.set i emT) q).b = _ at e2
        rw [atS_set hi] at e1 e2
        by_cases eq : q = i
        · rw [if_pos eq] at e1
          have : (-1 : Int) = (atS t.pg j).a := e1
          omega
        · rw [if_neg eq] at e1 e2
          exact b7 q hq' e1 e2
      · exact .inl (h.nopage hj' (by omega))
  · obtain ⟨q1, q2, q3, q4, q5, q6⟩ := plB_iff.1 hpl
    have hT : setT t i p = ⟨t.pg.set i p, t.sg.set p.a.toNat (fillT t.sl t.sl (ageT t p.a.toNat)), t.sl, t.nw⟩ := by unfold setT; rw [if_neg (by rw [eqT_no hne]; simp)]; rfl
    have hk : p.a.toNat < t.sg.length := by omega
    have hag := ageT_in h hk
    rw [hT]
    have lp : (t.pg.set i p).length = t.pg.length := List.length_set
    have ls : (t.sg.set p.a.toNat (fillT t.sl t.sl (ageT t p.a.toNat))).length = t.sg.length := List.length_set
    refine ⟨by show 1 ≤ (t.pg.set i p).length; rw [lp]; exact h.p1, by show (t.pg.set i p).length ≤ 16; rw [lp]; exact h.p2, by show 2 ≤ (List.length _); rw [ls]; exact h.s1, by show (List.length _) ≤ 32; rw [ls]; exact h.s2, k1, k2, n1, n2, ?_, ?_, ?_⟩
    · intro j hj
      replace hj : j < t.sg.length := by rw [← ls]; exact hj
      unfold sgF
      show segB (atS (t.sg.set _ _) j) t.sl t.nw = true
      rw [atS_set hk]
      by_cases e : j = p.a.toNat
      · rw [if_pos e, segB_iff, fillT_a, fillT_b, fillT_c, if_pos rfl]
        exact .inr (.inr ⟨rfl, rfl, hag.1, hag.2⟩)
      · rw [if_neg e]; exact h.seg j hj
    · refine cnt_one_of (fun j k hj hk' fj fk => ?_)
      have key : ∀ q, q < (t.sg.set p.a.toNat (fillT t.sl t.sl (ageT t p.a.toNat))).length → stF 1 (⟨t.pg.set i p, t.sg.set p.a.toNat (fillT t.sl t.sl (ageT t p.a.toNat)), t.sl, t.nw⟩ : Tb) q = true → q < t.sg.length ∧ stF 1 t q = true := by
        intro q hq fq
        rw [ls] at hq
        rw [stF_iff] at fq
        change (atS (t.sg.set _ _) q).a = 1 at fq
        rw [atS_set hk] at fq
        by_cases e : q = p.a.toNat
        · rw [if_pos e, fillT_a, if_pos rfl] at fq
          exact absurd fq (by decide)
        · rw [if_neg e] at fq
          exact ⟨hq, stF_iff.2 fq⟩
      obtain ⟨a1, a2⟩ := key j hj fj
      obtain ⟨b1, b2⟩ := key k hk' fk
      exact cnt_le_one h.one a1 b1 a2 b2
    · intro j hj
      replace hj : j < t.pg.length := by rw [← lp]; exact hj
      refine pgB_mk ?_
      show atS (t.pg.set i p) j = emT ∨ (0 ≤ (atS (t.pg.set i p) j).a ∧ (atS (t.pg.set i p) j).a < (t.sg.set p.a.toNat (fillT t.sl t.sl (ageT t p.a.toNat))).length ∧ 0 ≤ (atS (t.pg.set i p) j).b ∧ (atS (t.pg.set i p) j).b < t.sl ∧ 0 ≤ (atS (t.pg.set i p) j).c ∧ (atS (t.pg.set i p) j).c ≤ 4294967295 ∧ (atS (t.pg.set i p) j).b < (atS (t.sg.set p.a.toNat (fillT t.sl t.sl (ageT t p.a.toNat))) (atS (t.pg.set i p) j).a.toNat).b ∧ ∀ q, q < (t.pg.set i p).length → (atS (t.pg.set i p) q).a = (atS (t.pg.set i p) j).a → (atS (t.pg.set i p) q).b = (atS (t.pg.set i p) j).b → q = j)
      rw [atS_set hi, ls, lp]
      by_cases e : j = i
      · rw [if_pos e]
        refine .inr ⟨q1, q2, q3, q4, q5, q6, ?_, fun q hq e1 e2 => ?_⟩
        · rw [atS_set hk, if_pos rfl, fillT_b]; exact q4
        · rw [atS_set hi] at e1 e2
          by_cases eq : q = i
          · omega
          · rw [if_neg eq] at e1 e2
            exact absurd ⟨e1, e2⟩ (tak_no htk hq eq)
      · rw [if_neg e]
        by_cases h0 : 0 ≤ (atS t.pg j).a
        · obtain ⟨b1, b2, b3, b4, b5, b6, b7⟩ := h.page hj h0
          refine .inr ⟨h0, b1, b2, b3, b4, b5, ?_, fun q hq e1 e2 => ?_⟩
          · rw [atS_set hk]
            split
            · rw [fillT_b]; exact b3
            · exact b6
          · rw [atS_set hi] at e1 e2
            by_cases eq : q = i
            · rw [if_pos eq] at e1 e2
              exact absurd ⟨e1.symm, e2.symm⟩ (tak_no htk hj e)
            · rw [if_neg eq] at e1 e2
              exact b7 q hq e1 e2
        · exact .inl (h.nopage hj (by omega))

/-- Free. -/
theorem freeE_zero {t : Tb} {seg : Int} (h : freeE t seg = 0) : t.May ∧ (0 ≤ seg ∧ seg < t.sg.length) ∧ cnt (lvF seg t) t.pg.length = 0 := by
  unfold freeE at h
  by_cases hc : (mayB t && inB seg 0 ((t.sg.length : Int) - 1)) = true
  · rw [if_pos hc] at h
    rw [Bool.and_eq_true, inB_iff, mayB_iff] at hc
    by_cases hf : (atS t.sg seg.toNat).a = 2 ∧ cnt (lvF seg t) t.pg.length = 0
    · exact ⟨hc.1, by omega, hf.2⟩
    · rw [if_neg hf] at h; exact absurd h (by decide)
  · rw [if_neg hc] at h
    exact absurd h (by decide)
theorem free_may {t : Tb} {seg : Int} (hz : freeE t seg = 0) : (freeT t seg).May := by
  obtain ⟨h, ⟨p0, p1⟩, hl⟩ := freeE_zero hz
  obtain ⟨i, rfl⟩ : ∃ i : Nat, seg = i := ⟨seg.toNat, by omega⟩
  have hi : i < t.sg.length := by omega
  have ls : (t.sg.set i noT).length = t.sg.length := List.length_set
  have hT : freeT t i = ⟨t.pg, t.sg.set i noT, t.sl, t.nw⟩ := rfl
  rw [hT]
  refine ⟨h.p1, h.p2, by show 2 ≤ (List.length _); rw [ls]; exact h.s1, by show (List.length _) ≤ 32; rw [ls]; exact h.s2, h.k1, h.k2, h.n1, h.n2, ?_, ?_, ?_⟩
  · intro j hj
    replace hj : j < t.sg.length := by rw [← ls]; exact hj
    unfold sgF
    show segB (atS (t.sg.set i noT) j) t.sl t.nw = true
    rw [atS_set hi]
    split
    · exact segB_iff.2 (.inl rfl)
    · exact h.seg j hj
  · refine cnt_one_of (fun j k hj hk' fj fk => ?_)
    have key : ∀ q, q < (t.sg.set i noT).length → stF 1 (⟨t.pg, t.sg.set i noT, t.sl, t.nw⟩ : Tb) q = true → q < t.sg.length ∧ stF 1 t q = true := by
      intro q hq fq
      rw [ls] at hq
      rw [stF_iff] at fq
      change (atS (t.sg.set i noT) q).a = 1 at fq
      rw [atS_set hi] at fq
      by_cases e : q = i
      · rw [if_pos e] at fq; exact absurd fq (by decide)
      · rw [if_neg e] at fq; exact ⟨hq, stF_iff.2 fq⟩
    obtain ⟨a1, a2⟩ := key j hj fj
    obtain ⟨b1, b2⟩ := key k hk' fk
    exact cnt_le_one h.one a1 b1 a2 b2
  · intro j hj
    replace hj : j < t.pg.length := hj
    refine pgB_mk ?_
    show atS t.pg j = emT ∨ (0 ≤ (atS t.pg j).a ∧ (atS t.pg j).a < (t.sg.set i noT).length ∧ 0 ≤ (atS t.pg j).b ∧ (atS t.pg j).b < t.sl ∧ 0 ≤ (atS t.pg j).c ∧ (atS t.pg j).c ≤ 4294967295 ∧ (atS t.pg j).b < (atS (t.sg.set i noT) (atS t.pg j).a.toNat).b ∧ ∀ q, q < t.pg.length → (atS t.pg q).a = (atS t.pg j).a → (atS t.pg q).b = (atS t.pg j).b → q = j)
    by_cases h0 : 0 ≤ (atS t.pg j).a
    · obtain ⟨b1, b2, b3, b4, b5, b6, b7⟩ := h.page hj h0
      have hne : (atS t.pg j).a.toNat ≠ i := by
        intro e
        have h2 := cnt_none.1 hl j hj
        rw [lvF_iff.2 (by omega)] at h2
        cases h2
      refine .inr ⟨h0, by rw [ls]; exact b1, b2, b3, b4, b5, ?_, b7⟩
      rw [atS_set hi, if_neg hne]
      exact b6
    · exact .inl (h.nopage hj (by omega))
end Go.Proofs.Ythbcgbbcoanbdaa
