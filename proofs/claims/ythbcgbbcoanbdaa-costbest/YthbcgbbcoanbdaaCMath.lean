/-
  Mathematics of gains: what it gains to clean a segment, which one is cleaned.
-/
import Derived.Test.YthbcgbbcoanbdaaTLMath2
namespace Go.Proofs.Ythbcgbbcoanbdaa
open Go Go.RowKit

/-! ### How many are live -/
theorem cnt_pigeon {f : Nat → Bool} {h : Nat → Int} {n : Nat} (hi : ∀ i j, i < n → j < n → f i = true → f j = true → h i = h j → i = j) :
    ∀ K : Nat, (∀ i, i < n → f i = true → 0 ≤ h i) → cnt (fun i => f i && decide (h i < (K : Int))) n ≤ K
  | 0, hb => by
    have : cnt (fun i => f i && decide (h i < ((0 : Nat) : Int))) n = 0 := cnt_none.2 (fun i hi' => by
      cases hf : f i with
      | false => rfl
      | true =>
        have := hb i hi' hf
        have hd : decide (h i < ((0 : Nat) : Int)) = false := by rw [decide_eq_false_iff_not]; omega
        rw [hd]; rfl)
    omega
  | K + 1, hb => by
    have ih := cnt_pigeon hi K hb
    have h1 : cnt (fun i => f i && decide (h i = (K : Int))) n ≤ 1 := cnt_one_of (fun i j hi' hj' a b => by
      simp only [Bool.and_eq_true, decide_eq_true_eq] at a b
      exact hi i j hi' hj' a.1 b.1 (by omega))
    have ha := cnt_add (f := fun i => f i && decide (h i = (K : Int))) (g := fun i => f i && decide (h i < (K : Int))) (k := fun i => f i && decide (h i < ((K + 1 : Nat) : Int))) n (fun i _ => by
      cases hf : f i with
      | false => exact .inr (.inr ⟨rfl, rfl, rfl⟩)
      | true =>
        by_cases e1 : h i = (K : Int)
        · exact .inl ⟨by simp [e1], by simp [e1], by simp; omega⟩
        · by_cases e2 : h i < (K : Int)
          · exact .inr (.inl ⟨by simp [e1], by simp [e2], by simp; omega⟩)
          · exact .inr (.inr ⟨by simp [e1], by simp [e2], by simp; omega⟩))
    omega
/-- How many images are live in a segment. -/
def lvN (t : Tb) (g : Int) : Int := ((cnt (lvF g t) t.pg.length : Nat) : Int)
theorem lvN_nn (t : Tb) (g : Int) : 0 ≤ lvN t g := by unfold lvN; omega
theorem lvN_le {t : Tb} (h : t.May) (g : Nat) : lvN t (g : Int) ≤ t.sl := by
  have hp : ∀ i, i < t.pg.length → lvF (g : Int) t i = true → 0 ≤ (atS t.pg i).b ∧ (atS t.pg i).b < t.sl := fun i hi hf => by
    have e := lvF_iff.1 hf
    have := h.page hi (by omega)
    exact ⟨this.2.1, this.2.2.1⟩
  have k := cnt_pigeon (f := lvF (g : Int) t) (h := fun i => (atS t.pg i).b) (n := t.pg.length) (fun i j hi hj a b e => by
    have e1 := lvF_iff.1 a
    have e2 := lvF_iff.1 b
    have := (h.page hj (by omega)).2.2.2.2.2.2 i hi (by omega) e
    exact this) t.sl.toNat (fun i hi hf => (hp i hi hf).1)
  have hc : cnt (fun i => lvF (g : Int) t i && decide ((atS t.pg i).b < (t.sl.toNat : Int))) t.pg.length = cnt (lvF (g : Int) t) t.pg.length := cnt_congr (fun i hi => by
    cases hf : lvF (g : Int) t i with
    | false => rfl
    | true =>
      have := (hp i hi hf).2
      have hd : decide ((atS t.pg i).b < (t.sl.toNat : Int)) = true := by rw [decide_eq_true_eq]; omega
      rw [hd]; rfl)
  have := h.k1
  unfold lvN
  omega

/-! ### Gains -/
def gnB (t : Tb) (g : Int) : Bool := mayB t && inB g 0 ((t.sg.length : Int) - 1) && decide ((atS t.sg g.toNat).a = 2) && decide (lvN t g < t.sl)
def gaN (t : Tb) (g : Int) : Int := if gnB t g = true then (t.sl - lvN t g) * (t.nw - (atS t.sg g.toNat).c + 1) else 0
def gaD (t : Tb) (g : Int) : Int := if gnB t g = true then t.sl + lvN t g else 0
theorem gnB_iff {t : Tb} {g : Int} : gnB t g = true ↔ t.May ∧ (0 ≤ g ∧ g < t.sg.length) ∧ (atS t.sg g.toNat).a = 2 ∧ lvN t g < t.sl := by
  unfold gnB
  rw [Bool.and_eq_true, Bool.and_eq_true, Bool.and_eq_true, mayB_iff, inB_iff, decide_eq_true_eq, decide_eq_true_eq]
  constructor
  · rintro ⟨⟨⟨a, b⟩, c⟩, d⟩; exact ⟨a, by omega, c, d⟩
  · rintro ⟨a, b, c, d⟩; exact ⟨⟨⟨a, by omega⟩, c⟩, d⟩
theorem ga_in {t : Tb} {g : Int} (h : gnB t g = true) : (1 ≤ t.sl - lvN t g ∧ t.sl - lvN t g ≤ 16) ∧ (1 ≤ t.nw - (atS t.sg g.toNat).c + 1 ∧ t.nw - (atS t.sg g.toNat).c + 1 ≤ 1099511627777) ∧ 0 ≤ lvN t g ∧ 1 ≤ t.sl ∧ t.sl ≤ 16 ∧ 0 ≤ (atS t.sg g.toNat).c ∧ (atS t.sg g.toNat).c ≤ t.nw ∧ t.nw ≤ 1099511627776 := by
  obtain ⟨hm, ⟨g0, g1⟩, ha, hl⟩ := gnB_iff.1 h
  have h1 := lvN_nn t g
  have h2 := hm.k1
  have h3 := hm.k2
  have h4 := hm.n2
  rcases hm.segs (i := g.toNat) (by omega) with e | e | e
  · rw [e] at ha; exact absurd ha (by decide)
  · omega
  · omega
theorem gaN_pos {t : Tb} {g : Int} (h : gnB t g = true) : 1 ≤ gaN t g ∧ gaN t g ≤ 17592186044432 := by
  obtain ⟨⟨a0, a1⟩, ⟨b0, b1⟩, _⟩ := ga_in h
  unfold gaN
  rw [if_pos h]
  generalize t.sl - lvN t g = x at *
  generalize t.nw - (atS t.sg g.toNat).c + 1 = y at *
  have k1 : 1 * 1 ≤ x * y := Int.mul_le_mul a0 b0 (by omega) (by omega)
  have k2 : x * y ≤ 16 * 1099511627777 := Int.mul_le_mul a1 b1 (by omega) (by omega)
  omega
theorem gaD_pos {t : Tb} {g : Int} (h : gnB t g = true) : 1 ≤ gaD t g ∧ gaD t g ≤ 32 := by
  obtain ⟨⟨a0, a1⟩, _, c, d, e, _⟩ := ga_in h
  unfold gaD
  rw [if_pos h]
  omega
theorem ga_no {t : Tb} {g : Int} (h : gnB t g = false) : gaN t g = 0 ∧ gaD t g = 0 := by
  unfold gaN gaD
  rw [h]
  exact ⟨rfl, rfl⟩
theorem gaN_in (t : Tb) (g : Int) : 0 ≤ gaN t g ∧ gaN t g ≤ 17592186044432 := by
  cases h : gnB t g with
  | true => have := gaN_pos h; omega
  | false => rw [(ga_no h).1]; decide
theorem gaD_in (t : Tb) (g : Int) : 0 ≤ gaD t g ∧ gaD t g ≤ 32 := by
  cases h : gnB t g with
  | true => have := gaD_pos h; omega
  | false => rw [(ga_no h).2]; decide
theorem mul_in {a b : Int} (ha : 0 ≤ a ∧ a ≤ 17592186044432) (hb : 0 ≤ b ∧ b ≤ 32) : 0 ≤ a * b ∧ a * b ≤ 562949953421824 := by
  have k1 : a * b ≤ 17592186044432 * 32 := Int.mul_le_mul ha.2 hb.2 hb.1 (by omega)
  have k0 := Int.mul_nonneg ha.1 hb.1
  omega
theorem wrap_mul {a b : Int} (ha : 0 ≤ a ∧ a ≤ 17592186044432) (hb : 0 ≤ b ∧ b ≤ 32) : wrap64 (a * b) = a * b := by
  have := mul_in ha hb
  generalize a * b = x at *
  unfold wrap64
  omega

/-! ### The greatest one -/
theorem mul_lt_trans {a b c d e f : Int} (hb : 0 < b) (hf : 0 < f) (hd : 0 < d) (h1 : e * b ≤ a * f) (h2 : a * d < c * b) : e * d < c * f := by
  have k1 : e * b * d ≤ a * f * d := Int.mul_le_mul_of_nonneg_right h1 (by omega)
  have k2 : a * d * f < c * b * f := Int.mul_lt_mul_of_pos_right h2 hf
  have k3 : e * d * b < c * f * b := by
    rw [show e * d * b = e * b * d from Int.mul_right_comm e d b, show c * f * b = c * b * f from Int.mul_right_comm c f b]
    rw [show a * f * d = a * d * f from Int.mul_right_comm a f d] at k1
    omega
  exact Int.lt_of_mul_lt_mul_right k3 (by omega)
theorem mul_le_trans {a b c d e f : Int} (hb : 0 < b) (hf : 0 ≤ f) (hd : 0 ≤ d) (h1 : e * b ≤ a * f) (h2 : a * d ≤ c * b) : e * d ≤ c * f := by
  have k1 : e * b * d ≤ a * f * d := Int.mul_le_mul_of_nonneg_right h1 hd
  have k2 : a * d * f ≤ c * b * f := Int.mul_le_mul_of_nonneg_right h2 hf
  have k3 : e * d * b ≤ c * f * b := by
    rw [show e * d * b = e * b * d from Int.mul_right_comm e d b, show c * f * b = c * b * f from Int.mul_right_comm c f b]
    rw [show a * f * d = a * d * f from Int.mul_right_comm a f d] at k1
    omega
  exact Int.le_of_mul_le_mul_right k3 hb
/-- What has been found: where, whether, with which gain. -/
structure Vc where
  v : Int
  f : Bool
  n : Int
  d : Int
def vcB (t : Tb) (j : Nat) (s : Vc) : Bool := gnB t j && (!s.f || decide (s.n * gaD t j < gaN t j * s.d))
def vc (t : Tb) : Nat → Vc
  | 0 => ⟨0, false, 0, 0⟩
  | j + 1 => if vcB t j (vc t j) = true then ⟨j, true, gaN t j, gaD t j⟩ else vc t j
theorem vc_yes {t : Tb} {j : Nat} (h : vcB t j (vc t j) = true) : vc t (j + 1) = ⟨j, true, gaN t j, gaD t j⟩ := by rw [vc, if_pos h]
theorem vc_no {t : Tb} {j : Nat} (h : vcB t j (vc t j) = false) : vc t (j + 1) = vc t j := by rw [vc, h]; rfl
/-- What is found among the first j segments. -/
structure Found (t : Tb) (j : Nat) (s : Vc) : Prop where
  no : s.f = false → s.v = 0 ∧ ∀ k : Nat, k < j → gnB t k = false
  yes : s.f = true → ∃ i : Nat, i < j ∧ s.v = i ∧ s.n = gaN t i ∧ s.d = gaD t i ∧ gnB t i = true ∧ (∀ k : Nat, k < j → gaN t k * gaD t i ≤ gaN t i * gaD t k) ∧ ∀ k : Nat, k < i → gnB t k = true → gaN t k * gaD t i < gaN t i * gaD t k
  n : 0 ≤ s.n ∧ s.n ≤ 17592186044432
  d : 0 ≤ s.d ∧ s.d ≤ 32
theorem found (t : Tb) : ∀ j, Found t j (vc t j)
  | 0 => ⟨fun _ => ⟨rfl, fun k hk => by omega⟩, fun h => (by cases h), ⟨Int.le_refl _, by show (0 : Int) ≤ _; decide⟩, ⟨Int.le_refl _, by show (0 : Int) ≤ _; decide⟩⟩
  | j + 1 => by
    have ih := found t j
    cases hb : vcB t j (vc t j) with
    | false =>
      rw [vc_no hb]
      refine ⟨fun h => ⟨(ih.no h).1, fun k hk => ?_⟩, fun h => ?_, ih.n, ih.d⟩
      · by_cases hkj : k < j
        · exact (ih.no h).2 k hkj
        · obtain rfl : k = j := by omega
          unfold vcB at hb
          rw [h] at hb
          simpa using hb
      · obtain ⟨i, hi, e1, e2, e3, hg, ha, hs⟩ := ih.yes h
        refine ⟨i, by omega, e1, e2, e3, hg, fun k hk => ?_, hs⟩
        by_cases hkj : k < j
        · exact ha k hkj
        · obtain rfl : k = j := by omega
          cases hgk : gnB t k with
          | false =>
            rw [(ga_no hgk).1, (ga_no hgk).2]
            simp
          | true =>
            unfold vcB at hb
            rw [h, hgk, e2, e3] at hb
            simp only [Bool.true_and, Bool.not_true, Bool.false_or, decide_eq_false_iff_not] at hb
            omega
    | true =>
      rw [vc_yes hb]
      unfold vcB at hb
      rw [Bool.and_eq_true] at hb
      obtain ⟨hg, hb⟩ := hb
      refine ⟨fun h => (by cases h), fun _ => ⟨j, by omega, rfl, rfl, rfl, hg, fun k hk => ?_, fun k hk hgk => ?_⟩, gaN_in t j, gaD_in t j⟩
      · by_cases hkj : k < j
        · cases hgk : gnB t k with
          | false =>
            rw [(ga_no hgk).1, (ga_no hgk).2]
            simp
          | true =>
            cases hf : (vc t j).f with
            | false => rw [(ih.no hf).2 k hkj] at hgk; cases hgk
            | true =>
              obtain ⟨i, hi, e1, e2, e3, hgi, ha, hs⟩ := ih.yes hf
              rw [hf, e2, e3] at hb
              simp only [Bool.not_true, Bool.false_or, decide_eq_true_eq] at hb
              have := mul_lt_trans (a := gaN t i) (b := gaD t i) (c := gaN t j) (d := gaD t j) (e := gaN t k) (f := gaD t k) (by have := gaD_pos hgi; omega) (by have := gaD_pos hgk; omega) (by have := gaD_pos hg; omega) (ha k hkj) hb
              omega
        · obtain rfl : k = j := by omega
          exact Int.le_refl _
      · cases hf : (vc t j).f with
        | false => rw [(ih.no hf).2 k hk] at hgk; cases hgk
        | true =>
          obtain ⟨i, hi, e1, e2, e3, hgi, ha, hs⟩ := ih.yes hf
          rw [hf, e2, e3] at hb
          simp only [Bool.not_true, Bool.false_or, decide_eq_true_eq] at hb
          exact mul_lt_trans (a := gaN t i) (b := gaD t i) (c := gaN t j) (d := gaD t j) (e := gaN t k) (f := gaD t k) (by have := gaD_pos hgi; omega) (by have := gaD_pos hgk; omega) (by have := gaD_pos hg; omega) (ha k hk) hb
/-- The victim of a table. -/
def vcT (t : Tb) : Vc := vc t t.sg.length
theorem vc_nomay {t : Tb} (h : mayB t = false) : ∀ j, vc t j = ⟨0, false, 0, 0⟩
  | 0 => rfl
  | j + 1 => by
    have : vcB t j (vc t j) = false := by unfold vcB gnB; rw [h]; rfl
    rw [vc_no this]
    exact vc_nomay h j

/-! ### The document's victim -/
/-- Is the segment i beaten by one of the first k? -/
def btB (t : Tb) (i : Nat) : Nat → Bool
  | 0 => !gnB t i
  | k + 1 => btB t i k || (gnB t k && decide (gaN t i * gaD t k < gaN t k * gaD t i))
theorem btB_iff {t : Tb} {i : Nat} : ∀ {k : Nat}, btB t i k = true ↔ gnB t i = false ∨ ∃ q : Nat, q < k ∧ gnB t q = true ∧ gaN t i * gaD t q < gaN t q * gaD t i
  | 0 => by
    unfold btB
    constructor
    · intro h; exact .inl (by simpa using h)
    · rintro (h | ⟨q, hq, _⟩)
      · rw [h]; rfl
      · omega
  | k + 1 => by
    unfold btB
    rw [Bool.or_eq_true, btB_iff (k := k), Bool.and_eq_true, decide_eq_true_eq]
    constructor
    · rintro ((h | ⟨q, hq, a, b⟩) | ⟨a, b⟩)
      · exact .inl h
      · exact .inr ⟨q, by omega, a, b⟩
      · exact .inr ⟨k, by omega, a, b⟩
    · rintro (h | ⟨q, hq, a, b⟩)
      · exact .inl (.inl h)
      · by_cases e : q < k
        · exact .inl (.inr ⟨q, e, a, b⟩)
        · obtain rfl : q = k := by omega
          exact .inr ⟨a, b⟩
/-- The first that is not beaten is the victim. -/
theorem first_is {t : Tb} {i : Nat} (hi : i < t.sg.length) (hb : btB t i t.sg.length = false) (hall : ∀ k, k < i → btB t k t.sg.length = true) : (vcT t).f = true ∧ (vcT t).v = (i : Int) := by
  have hF := found t t.sg.length
  have hg : gnB t i = true := by
    cases h : gnB t i with
    | true => rfl
    | false => rw [btB_iff.2 (.inl h)] at hb; cases hb
  unfold vcT
  cases hf : (vc t t.sg.length).f with
  | false => rw [(hF.no hf).2 i hi] at hg; cases hg
  | true =>
    refine ⟨rfl, ?_⟩
    obtain ⟨v, hv, e1, _, _, hgv, ha, hs⟩ := hF.yes hf
    rw [e1]
    have hub : btB t v t.sg.length = false := by
      cases h : btB t v t.sg.length with
      | false => rfl
      | true =>
        rcases btB_iff.1 h with h | ⟨q, hq, a, b⟩
        · rw [h] at hgv; cases hgv
        · have := ha q hq; omega
    have h1 : ¬ v < i := fun h => by rw [hall v h] at hub; cases hub
    have h2 : ¬ i < v := fun h => by
      have := hs i h hg
      rw [btB_iff.2 (.inr ⟨v, hv, hgv, this⟩)] at hb
      cases hb
    omega
theorem none_is {t : Tb} (hall : ∀ k, k < t.sg.length → btB t k t.sg.length = true) : (vcT t).f = false ∧ (vcT t).v = 0 := by
  have hF := found t t.sg.length
  unfold vcT
  cases hf : (vc t t.sg.length).f with
  | false => exact ⟨rfl, (hF.no hf).1⟩
  | true =>
    exfalso
    obtain ⟨v, hv, e1, _, _, hgv, ha, hs⟩ := hF.yes hf
    rcases btB_iff.1 (hall v hv) with h | ⟨q, hq, a, b⟩
    · rw [h] at hgv; cases hgv
    · have := ha q hq; omega
end Go.Proofs.Ythbcgbbcoanbdaa
