/-
  Plain mathematics on ordered maps: lists of pairs whose keys rise; what Set, Del, Get, From make of them.
-/
import Derived.Test.YtgeodpflaebbgaaWords
namespace Go.Proofs.Ytgeodpflaebbgaa
open Go Go.RowKit

/-- A slice's value. -/
structure Sv where
  a : Option Addr
  n : Nat
  c : Nat
/-- A key with its value. -/
abbrev Pr := Int × Sv
def prCells (x : Pr) : List Value := [.int .i64 x.1, .slice x.2.a x.2.n x.2.c]
/-- All cells of some pairs. -/
def prs : List Pr → List Value
  | [] => []
  | x :: l => .int .i64 x.1 :: .slice x.2.a x.2.n x.2.c :: prs l
theorem prs_len (l : List Pr) : (prs l).length = l.length * 2 := by
  induction l with
  | nil => rfl
  | cons x l ih => simp only [prs, List.length_cons, ih]; omega
theorem prs_append (a b : List Pr) : prs (a ++ b) = prs a ++ prs b := by
  induction a with
  | nil => rfl
  | cons x l ih => simp [prs, ih]
theorem prs_take (l : List Pr) : ∀ i : Nat, (prs l).take (i * 2) = prs (l.take i) := by
  induction l with
  | nil => intro i; simp [prs]
  | cons x l ih =>
    intro i
    cases i with
    | zero => simp [prs]
    | succ i =>
      rw [show (i + 1) * 2 = i * 2 + 1 + 1 by omega]
      simp only [prs, List.take_succ_cons, ih]
theorem prs_drop (l : List Pr) : ∀ i : Nat, (prs l).drop (i * 2) = prs (l.drop i) := by
  induction l with
  | nil => intro i; simp [prs]
  | cons x l ih =>
    intro i
    cases i with
    | zero => simp [prs]
    | succ i =>
      rw [show (i + 1) * 2 = i * 2 + 1 + 1 by omega]
      simp only [prs, List.drop_succ_cons, ih]
theorem prs_get (l : List Pr) : ∀ (i : Nat) (x : Pr), l[i]? = some x → (prs l)[i * 2]? = some (.int .i64 x.1) ∧ (prs l)[i * 2 + 1]? = some (.slice x.2.a x.2.n x.2.c) := by
  induction l with
  | nil => intro i x h; simp at h
  | cons y l ih =>
    intro i x h
    cases i with
    | zero => simp at h; subst h; simp [prs]
    | succ i =>
      have := ih i x (by simpa using h)
      rw [show (i + 1) * 2 = i * 2 + 1 + 1 by omega]
      simpa [prs] using this
theorem prs_one (l : List Pr) : ∀ u ∈ prs l, u.oneCell' = true := by
  induction l with
  | nil => intro u h; cases h
  | cons x l ih =>
    intro u h
    simp only [prs, List.mem_cons] at h
    rcases h with rfl | rfl | h
    · rfl
    · rfl
    · exact ih u h

section
variable {α : Type}
/-- Keys rise. -/
def Srt (l : List (Int × α)) : Prop := l.Pairwise (fun a b => a.1 < b.1)
/-- How many keys, from the beginning on, are less than k. -/
def idx (k : Int) : List (Int × α) → Nat
  | [] => 0
  | x :: l => if x.1 < k then idx k l + 1 else 0
def mGet (k : Int) : List (Int × α) → Option α
  | [] => none
  | x :: l => if x.1 < k then mGet k l else if x.1 = k then some x.2 else none
def mSet (k : Int) (v : α) : List (Int × α) → List (Int × α)
  | [] => [(k, v)]
  | x :: l => if x.1 < k then x :: mSet k v l else if x.1 = k then (k, v) :: l else (k, v) :: x :: l
def mDel (k : Int) : List (Int × α) → List (Int × α)
  | [] => []
  | x :: l => if x.1 < k then x :: mDel k l else if x.1 = k then l else x :: l
def mFrom (k : Int) (l : List (Int × α)) : List (Int × α) := l.drop (idx k l)

theorem idx_le (k : Int) (l : List (Int × α)) : idx k l ≤ l.length := by
  induction l with
  | nil => exact Nat.le_refl _
  | cons x l ih => simp only [idx, List.length_cons]; split <;> omega
theorem idx_lt (k : Int) (l : List (Int × α)) : ∀ (j : Nat) (x : (Int × α)), j < idx k l → l[j]? = some x → x.1 < k := by
  induction l with
  | nil => intro j x h; simp [idx] at h
  | cons y l ih =>
    intro j x h hx
    simp only [idx] at h
    split at h
    · cases j with
      | zero => simp at hx; subst hx; assumption
      | succ j => exact ih j x (by omega) (by simpa using hx)
    · omega
theorem idx_at (k : Int) (l : List (Int × α)) : ∀ (x : (Int × α)), l[idx k l]? = some x → k ≤ x.1 := by
  induction l with
  | nil => intro x h; simp at h
  | cons y l ih =>
    intro x h
    simp only [idx] at h
    split at h
    · exact ih x (by simpa using h)
    · simp at h; subst h; omega
theorem Srt.at {l : List (Int × α)} (h : Srt l) {i j : Nat} {x y : (Int × α)} (hij : i < j) (hx : l[i]? = some x) (hy : l[j]? = some y) : x.1 < y.1 := by
  obtain ⟨hi, rfl⟩ := List.getElem?_eq_some_iff.1 hx
  obtain ⟨hj, rfl⟩ := List.getElem?_eq_some_iff.1 hy
  exact List.pairwise_iff_getElem.1 h i j hi hj hij
theorem idx_ge {k : Int} {l : List (Int × α)} (h : Srt l) {j : Nat} {x : (Int × α)} (hj : idx k l ≤ j) (hx : l[j]? = some x) : k ≤ x.1 := by
  rcases Nat.eq_or_lt_of_le hj with e | e
  · subst e; exact idx_at k l x hx
  · have hlt : j < l.length := (List.getElem?_eq_some_iff.1 hx).1
    have h1 : l[idx k l]? = some (l[idx k l]'(by omega)) := List.getElem?_eq_getElem (by omega)
    have h2 := idx_at k l _ h1
    have h3 := h.at e h1 hx
    omega
theorem idx_eq {k : Int} {l : List (Int × α)} {i : Nat} (hi : i ≤ l.length) (h1 : ∀ (j : Nat) (x : (Int × α)), j < i → l[j]? = some x → x.1 < k) (h2 : ∀ (j : Nat) (x : (Int × α)), i ≤ j → l[j]? = some x → k ≤ x.1) : idx k l = i := by
  have hle := idx_le k l
  rcases Nat.lt_trichotomy (idx k l) i with e | e | e
  · have hx : l[idx k l]? = some (l[idx k l]'(by omega)) := List.getElem?_eq_getElem (by omega)
    have := h1 _ _ e hx
    have := idx_at k l _ hx
    omega
  · exact e
  · have hx : l[i]? = some (l[i]'(by omega)) := List.getElem?_eq_getElem (by omega)
    have := h2 _ _ (Nat.le_refl _) hx
    have := idx_lt k l i _ e hx
    omega

theorem mGet_none {k : Int} {l : List (Int × α)} (h : ∀ x, l[idx k l]? = some x → x.1 ≠ k) : mGet k l = none := by
  induction l with
  | nil => rfl
  | cons y l ih =>
    simp only [mGet, idx] at *
    split
    · rename_i hlt
      rw [if_pos hlt] at h
      exact ih (fun x hx => h x (by simpa using hx))
    · rename_i hlt
      rw [if_neg hlt] at h
      rw [if_neg (h y (by simp))]
theorem mGet_some {k : Int} {l : List (Int × α)} {x : (Int × α)} (h : l[idx k l]? = some x) (hk : x.1 = k) : mGet k l = some x.2 := by
  induction l with
  | nil => simp at h
  | cons y l ih =>
    simp only [mGet, idx] at *
    split
    · rename_i hlt
      rw [if_pos hlt] at h
      exact ih (by simpa using h)
    · rename_i hlt
      rw [if_neg hlt] at h
      simp at h
      subst h
      rw [if_pos hk]
theorem mSet_miss {k : Int} {v : α} {l : List (Int × α)} (h : ∀ x, l[idx k l]? = some x → x.1 ≠ k) : mSet k v l = l.take (idx k l) ++ (k, v) :: l.drop (idx k l) := by
  induction l with
  | nil => rfl
  | cons y l ih =>
    simp only [mSet, idx] at *
    split
    · rename_i hlt
      rw [if_pos hlt] at h
      rw [ih (fun x hx => h x (by simpa using hx))]
      rfl
    · rename_i hlt
      rw [if_neg hlt] at h
      rw [if_neg (h y (by simp))]
      rfl
theorem mSet_hit {k : Int} {v : α} {l : List (Int × α)} {x : (Int × α)} (h : l[idx k l]? = some x) (hk : x.1 = k) : mSet k v l = l.set (idx k l) (k, v) := by
  induction l with
  | nil => simp at h
  | cons y l ih =>
    simp only [mSet, idx] at *
    split
    · rename_i hlt
      rw [if_pos hlt] at h
      rw [ih (by simpa using h)]
      rfl
    · rename_i hlt
      rw [if_neg hlt] at h
      simp at h
      subst h
      rw [if_pos hk]
      rfl
theorem mDel_miss {k : Int} {l : List (Int × α)} (h : ∀ x, l[idx k l]? = some x → x.1 ≠ k) : mDel k l = l := by
  induction l with
  | nil => rfl
  | cons y l ih =>
    simp only [mDel, idx] at *
    split
    · rename_i hlt
      rw [if_pos hlt] at h
      rw [ih (fun x hx => h x (by simpa using hx))]
    · rename_i hlt
      rw [if_neg hlt] at h
      rw [if_neg (h y (by simp))]
theorem mDel_hit {k : Int} {l : List (Int × α)} {x : (Int × α)} (h : l[idx k l]? = some x) (hk : x.1 = k) : mDel k l = l.take (idx k l) ++ l.drop (idx k l + 1) := by
  induction l with
  | nil => simp at h
  | cons y l ih =>
    simp only [mDel, idx] at *
    split
    · rename_i hlt
      rw [if_pos hlt] at h
      rw [ih (by simpa using h)]
      rfl
    · rename_i hlt
      rw [if_neg hlt] at h
      simp at h
      subst h
      rw [if_pos hk]
      rfl

theorem mem_mSet {k : Int} {v : α} {l : List (Int × α)} {x : (Int × α)} (h : x ∈ mSet k v l) : x = (k, v) ∨ x ∈ l := by
  induction l with
  | nil => simp [mSet] at h; exact .inl h
  | cons y l ih =>
    simp only [mSet] at h
    split at h
    · simp only [List.mem_cons] at h ⊢
      rcases h with h | h
      · exact .inr (.inl h)
      · rcases ih h with e | e
        · exact .inl e
        · exact .inr (.inr e)
    · split at h <;> simp only [List.mem_cons] at h ⊢
      · rcases h with h | h
        · exact .inl h
        · exact .inr (.inr h)
      · exact h
theorem mem_mDel {k : Int} {l : List (Int × α)} {x : (Int × α)} (h : x ∈ mDel k l) : x ∈ l := by
  induction l with
  | nil => cases h
  | cons y l ih =>
    simp only [mDel] at h
    split at h
    · simp only [List.mem_cons] at h ⊢
      rcases h with h | h
      · exact .inl h
      · exact .inr (ih h)
    · split at h
      · exact List.mem_cons_of_mem _ h
      · exact h
theorem Srt.set {k : Int} {v : α} {l : List (Int × α)} (h : Srt l) : Srt (mSet k v l) := by
  induction l with
  | nil => exact List.pairwise_singleton _ _
  | cons y l ih =>
    obtain ⟨h1, h2⟩ := List.pairwise_cons.1 h
    simp only [mSet]
    split
    · rename_i hlt
      refine List.pairwise_cons.2 ⟨fun z hz => ?_, ih h2⟩
      rcases mem_mSet hz with e | e
      · rw [e]; exact hlt
      · exact h1 z e
    · split
      · rename_i he
        refine List.pairwise_cons.2 ⟨fun z hz => ?_, h2⟩
        have := h1 z hz
        simp only; omega
      · refine List.pairwise_cons.2 ⟨fun z hz => ?_, h⟩
        simp only [List.mem_cons] at hz
        rcases hz with e | e
        · rw [e]; simp only; omega
        · have := h1 z e
          simp only; omega
theorem Srt.del {k : Int} {l : List (Int × α)} (h : Srt l) : Srt (mDel k l) := by
  induction l with
  | nil => exact h
  | cons y l ih =>
    obtain ⟨h1, h2⟩ := List.pairwise_cons.1 h
    simp only [mDel]
    split
    · exact List.pairwise_cons.2 ⟨fun z hz => h1 z (mem_mDel hz), ih h2⟩
    · split
      · exact h2
      · exact h
theorem mSet_len (k : Int) (v : α) (l : List (Int × α)) : (mSet k v l).length ≤ l.length + 1 := by
  induction l with
  | nil => simp [mSet]
  | cons y l ih =>
    simp only [mSet]
    split
    · simp only [List.length_cons]; omega
    · split <;> simp
theorem mDel_len (k : Int) (l : List (Int × α)) : (mDel k l).length ≤ l.length := by
  induction l with
  | nil => simp [mDel]
  | cons y l ih =>
    simp only [mDel]
    split
    · simp only [List.length_cons]; omega
    · split <;> simp

/-! ### The document's answers -/
theorem mGet_find {k : Int} {l : List (Int × α)} (h : Srt l) : (l.find? (fun x => x.1 == k)).map Prod.snd = mGet k l := by
  induction l with
  | nil => rfl
  | cons y l ih =>
    obtain ⟨h1, h2⟩ := List.pairwise_cons.1 h
    simp only [mGet, List.find?_cons]
    by_cases hlt : y.1 < k
    · have : (y.1 == k) = false := by simp; omega
      rw [this, if_pos hlt]
      exact ih h2
    · rw [if_neg hlt]
      by_cases he : y.1 = k
      · have : (y.1 == k) = true := by simpa using he
        rw [this, if_pos he]
        rfl
      · have : (y.1 == k) = false := by simpa using he
        rw [this, if_neg he]
        simp only
        rw [List.find?_eq_none.2]
        · rfl
        · intro z hz
          have := h1 z hz
          simp; omega
theorem filter_all {p : (Int × α) → Bool} {l : List (Int × α)} (h : ∀ x ∈ l, p x = true) : l.filter p = l := List.filter_eq_self.2 h
theorem mDel_filter {k : Int} {l : List (Int × α)} (h : Srt l) : l.filter (fun x => decide (x.1 ≠ k)) = mDel k l := by
  induction l with
  | nil => rfl
  | cons y l ih =>
    obtain ⟨h1, h2⟩ := List.pairwise_cons.1 h
    have rest : ¬ y.1 < k → l.filter (fun x => decide (x.1 ≠ k)) = l := fun hn => filter_all (fun x hx => by
      have := h1 x hx
      simp; omega)
    simp only [mDel, List.filter_cons]
    by_cases hlt : y.1 < k
    · rw [if_pos (by simp; omega), if_pos hlt, ih h2]
    · rw [if_neg hlt]
      by_cases he : y.1 = k
      · rw [if_neg (by simpa using he), if_pos he, rest hlt]
      · rw [if_pos (by simpa using he), if_neg he, rest hlt]
theorem mFrom_filter {k : Int} {l : List (Int × α)} (h : Srt l) : l.filter (fun x => decide (k ≤ x.1)) = mFrom k l := by
  induction l with
  | nil => rfl
  | cons y l ih =>
    obtain ⟨h1, h2⟩ := List.pairwise_cons.1 h
    simp only [mFrom, idx, List.filter_cons]
    by_cases hlt : y.1 < k
    · rw [if_neg (by simp; omega), if_pos hlt, ih h2]
      rfl
    · rw [if_pos (by simp; omega), if_neg hlt, filter_all (fun x hx => by
        have := h1 x hx
        simp; omega)]
      rfl
theorem below_filter {k : Int} {l : List (Int × α)} (h : Srt l) : l.filter (fun x => decide (x.1 < k)) = l.take (idx k l) := by
  induction l with
  | nil => rfl
  | cons y l ih =>
    obtain ⟨h1, h2⟩ := List.pairwise_cons.1 h
    simp only [idx, List.filter_cons]
    by_cases hlt : y.1 < k
    · rw [if_pos (by simpa using hlt), if_pos hlt, ih h2]
      rfl
    · rw [if_neg (by simpa using hlt), if_neg hlt, List.filter_eq_nil_iff.2 (fun x hx => by
        have := h1 x hx
        simp; omega)]
      rfl
/-- The document's Set, from a place on. -/
def setGo (k : Int) (v : α) : Bool → List (Int × α) → List (Int × α)
  | d, [] => if d then [] else [(k, v)]
  | d, x :: l => (if d = false ∧ k < x.1 then [(k, v)] else []) ++ ((if x.1 = k then [] else [x]) ++ setGo k v (d || decide (k < x.1)) l)
theorem setGo_done {k : Int} {v : α} {l : List (Int × α)} (h : ∀ x ∈ l, k < x.1) : setGo k v true l = l := by
  induction l with
  | nil => rfl
  | cons y l ih =>
    have hy := h y (List.mem_cons_self ..)
    simp only [setGo]
    rw [if_neg (by simp), if_neg (by omega), Bool.true_or, ih (fun x hx => h x (List.mem_cons_of_mem _ hx))]
    rfl
theorem setGo_above {k : Int} {v : α} {l : List (Int × α)} (h : Srt l) (ha : ∀ x ∈ l, k < x.1) : setGo k v false l = (k, v) :: l := by
  cases l with
  | nil => rfl
  | cons y l =>
    have hy := ha y (List.mem_cons_self ..)
    simp only [setGo]
    rw [if_pos ⟨by simp, hy⟩, if_neg (by omega), show (false || decide (k < y.1)) = true by simpa using hy, setGo_done (fun x hx => ha x (List.mem_cons_of_mem _ hx))]
    rfl
theorem setGo_mSet {k : Int} {v : α} {l : List (Int × α)} (h : Srt l) : setGo k v false l = mSet k v l := by
  induction l with
  | nil => rfl
  | cons y l ih =>
    obtain ⟨h1, h2⟩ := List.pairwise_cons.1 h
    simp only [mSet]
    by_cases hlt : y.1 < k
    · rw [if_pos hlt]
      simp only [setGo]
      rw [if_neg (by omega), if_neg (by omega), show (false || decide (k < y.1)) = false by simp; omega, ih h2]
      rfl
    · rw [if_neg hlt]
      by_cases he : y.1 = k
      · rw [if_pos he]
        simp only [setGo]
        rw [if_neg (by omega), if_pos he, show (false || decide (k < y.1)) = false by simp; omega, setGo_above h2 (fun x hx => by have := h1 x hx; omega)]
        rfl
      · rw [if_neg he]
        exact setGo_above h (fun x hx => by
          rcases List.mem_cons.1 hx with e | e
          · rw [e]; omega
          · have := h1 x e; omega)

/-! ### What follows -/
theorem mSet_same {k : Int} {v : α} {l : List (Int × α)} (h : mGet k l = some v) : mSet k v l = l := by
  induction l with
  | nil => cases h
  | cons y l ih =>
    simp only [mSet, mGet] at *
    split
    · rename_i hlt
      rw [if_pos hlt] at h
      rw [ih h]
    · rename_i hlt
      rw [if_neg hlt] at h
      split
      · rename_i he
        rw [if_pos he] at h
        injection h with h
        rw [← h, ← he]
      · rename_i he
        rw [if_neg he] at h
        cases h
theorem mSet_mDel {k : Int} {v : α} {l : List (Int × α)} (hs : Srt l) (h : mGet k l = some v) : mSet k v (mDel k l) = l ∧ mGet k (mDel k l) = none ∧ (mDel k l).length + 1 = l.length := by
  induction l with
  | nil => cases h
  | cons y l ih =>
    obtain ⟨h1, h2⟩ := List.pairwise_cons.1 hs
    simp only [mGet, mDel] at *
    by_cases hlt : y.1 < k
    · rw [if_pos hlt] at h ⊢
      obtain ⟨a, b, c⟩ := ih h2 h
      refine ⟨?_, ?_, ?_⟩
      · simp only [mSet]; rw [if_pos hlt, a]
      · simp only [mGet]; rw [if_pos hlt, b]
      · simp only [List.length_cons]; omega
    · rw [if_neg hlt] at h ⊢
      by_cases he : y.1 = k
      · rw [if_pos he] at h ⊢
        injection h with h
        cases l with
        | nil => exact ⟨by simp only [mSet]; rw [← h, ← he], rfl, rfl⟩
        | cons z l =>
          have hz := h1 z (List.mem_cons_self ..)
          refine ⟨?_, ?_, rfl⟩
          · simp only [mSet]; rw [if_neg (by omega), if_neg (by omega), ← h, ← he]
          · simp only [mGet]; rw [if_neg (by omega), if_neg (by omega)]
      · rw [if_neg he] at h
        cases h
theorem mSet_comm_same (a b : Int) (v : α) (l : List (Int × α)) : mSet a v (mSet b v l) = mSet b v (mSet a v l) := by
  induction l with
  | nil =>
    simp only [mSet]
    by_cases h1 : a < b
    · rw [if_pos h1, if_neg (by omega), if_neg (by omega)]
    · by_cases h2 : a = b
      · subst h2; rfl
      · rw [if_neg h1, if_pos (show b < a by omega), if_neg h2]
  | cons y l ih =>
    by_cases h1 : y.1 < a <;> by_cases h2 : y.1 < b
    · simp only [mSet, if_pos h1, if_pos h2]
      rw [ih]
    · by_cases h3 : y.1 = b
      · simp only [mSet, if_pos h1, if_neg h2, if_pos h3]
        rw [if_pos (show b < a by omega)]
      · simp only [mSet, if_pos h1, if_neg h2, if_neg h3]
        rw [if_pos (show b < a by omega)]
    · by_cases h3 : y.1 = a
      · simp only [mSet, if_pos h2, if_neg h1, if_pos h3]
        rw [if_pos (show a < b by omega)]
      · simp only [mSet, if_pos h2, if_neg h1, if_neg h3]
        rw [if_pos (show a < b by omega)]
    · by_cases h3 : y.1 = a <;> by_cases h4 : y.1 = b
      · obtain rfl : a = b := by omega
        rfl
      · simp only [mSet, if_neg h1, if_neg h2, if_pos h3, if_neg h4]
        rw [if_pos (show b < a by omega), if_neg (show ¬ a < b by omega), if_neg (show ¬ a = b by omega)]
      · simp only [mSet, if_neg h1, if_neg h2, if_neg h3, if_pos h4]
        rw [if_pos (show a < b by omega), if_neg (show ¬ b < a by omega), if_neg (show ¬ b = a by omega)]
      · simp only [mSet, if_neg h1, if_neg h2, if_neg h3, if_neg h4]
        rcases Int.lt_trichotomy a b with e | e | e
        · rw [if_neg (show ¬ b < a by omega), if_neg (show ¬ b = a by omega), if_pos e]
        · subst e; rfl
        · rw [if_pos e, if_neg (show ¬ a < b by omega), if_neg (show ¬ a = b by omega)]
end
end Go.Proofs.Ytgeodpflaebbgaa
