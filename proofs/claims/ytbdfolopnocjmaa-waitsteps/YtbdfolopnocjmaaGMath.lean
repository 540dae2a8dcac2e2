/-
  Mathematics of waiting: edges, who reaches whom, lists that are closed, those that nobody waits for.
-/
import Derived.Test.YtbdfolopnocjmaaWords
namespace Go.Proofs.Ytbdfolopnocjmaa
open Go

/-- a reaches b by the edges E. -/
inductive Rch (E : List (Int × Int)) : Int → Int → Prop
  | one {a b : Int} : (a, b) ∈ E → Rch E a b
  | step {a c b : Int} : (a, c) ∈ E → Rch E c b → Rch E a b

section
variable {E E' : List (Int × Int)} {a b c : Int}
theorem Rch.trans (h : Rch E a b) (k : Rch E b c) : Rch E a c := by
  induction h with
  | one h => exact .step h k
  | step h _ ih => exact .step h (ih k)
theorem Rch.mono (hE : ∀ e, e ∈ E → e ∈ E') (h : Rch E a b) : Rch E' a b := by
  induction h with
  | one h => exact .one (hE _ h)
  | step h _ ih => exact .step (hE _ h) ih
theorem rch_iff : Rch E a b ↔ ∃ c, (a, c) ∈ E ∧ (c = b ∨ Rch E c b) := by
  constructor
  · intro h
    cases h with
    | one h => exact ⟨_, h, .inl rfl⟩
    | step h k => exact ⟨_, h, .inr k⟩
  · rintro ⟨c, h, rfl | k⟩
    · exact .one h
    · exact .step h k
theorem rch_tgt (h : Rch E a b) : ∃ c, (c, b) ∈ E := by
  induction h with
  | one h => exact ⟨_, h⟩
  | step _ _ ih => exact ih
theorem rch_closed {S : Int → Prop} (h : Rch E a b) (h0 : ∀ c, (a, c) ∈ E → S c) (hs : ∀ x, S x → ∀ c, (x, c) ∈ E → S c) : S b := by
  induction h with
  | one h => exact h0 _ h
  | step h _ ih => exact ih (hs _ (h0 _ h))
end

theorem rch_same {E E' : List (Int × Int)} (h : ∀ e, e ∈ E ↔ e ∈ E') (a b : Int) : Rch E a b ↔ Rch E' a b := ⟨Rch.mono fun e => (h e).1, Rch.mono fun e => (h e).2⟩

open Classical in
/-- Does a reach b? -/
noncomputable def rch (E : List (Int × Int)) (a b : Int) : Bool := decide (Rch E a b)
theorem rch_true {E : List (Int × Int)} {a b : Int} : rch E a b = true ↔ Rch E a b := by simp [rch]
theorem rch_false {E : List (Int × Int)} {a b : Int} : rch E a b = false ↔ ¬ Rch E a b := by simp [rch]
open Classical in
/-- Does nobody reach itself? -/
noncomputable def stl (E : List (Int × Int)) : Bool := decide (∀ x, ¬ Rch E x x)
theorem stl_true {E : List (Int × Int)} : stl E = true ↔ ∀ x, ¬ Rch E x x := by simp [stl]
theorem stl_false {E : List (Int × Int)} : stl E = false ↔ ¬ ∀ x, ¬ Rch E x x := by simp [stl]
theorem rch_eq {E E' : List (Int × Int)} (h : ∀ e, e ∈ E ↔ e ∈ E') (a b : Int) : rch E a b = rch E' a b := by
  rw [Bool.eq_iff_iff, rch_true, rch_true]; exact rch_same h a b
theorem stl_eq {E E' : List (Int × Int)} (h : ∀ e, e ∈ E ↔ e ∈ E') : stl E = stl E' := by
  rw [Bool.eq_iff_iff, stl_true, stl_true]
  exact ⟨fun k x hx => k x ((rch_same h x x).2 hx), fun k x hx => k x ((rch_same h x x).1 hx)⟩

/-- Among finitely many one is not below any of them. -/
theorem topmost {α : Type} (R : α → α → Prop) (ht : ∀ {x y z}, R x y → R y z → R x z) (hi : ∀ x, ¬ R x x) : ∀ l : List α, l ≠ [] → ∃ m ∈ l, ∀ y ∈ l, ¬ R m y
  | [], h => absurd rfl h
  | [x], _ => ⟨x, by simp, fun y hy => by rw [List.mem_singleton.1 hy]; exact hi x⟩
  | x :: z :: r, _ => by
    obtain ⟨m, hm, hy⟩ := topmost R ht hi (z :: r) (by simp)
    rcases Classical.em (R m x) with h | h
    · refine ⟨x, by simp, fun y hyl => ?_⟩
      rcases List.mem_cons.1 hyl with rfl | h'
      · exact hi y
      · exact fun k => hy y h' (ht h k)
    · refine ⟨m, List.mem_cons_of_mem _ hm, fun y hyl => ?_⟩
      rcases List.mem_cons.1 hyl with rfl | h'
      · exact h
      · exact hy y h'

theorem mem_take_lt {α : Type} {l : List α} {x : α} {j : Nat} (h : x ∈ l.take j) : ∃ i, i < j ∧ l[i]? = some x := by
  obtain ⟨i, hi, e⟩ := List.mem_iff_getElem.1 h
  rw [List.length_take] at hi
  refine ⟨i, by omega, ?_⟩
  rw [List.getElem_take] at e
  rw [← e]
  exact List.getElem?_eq_getElem (by omega)
theorem take_mem_of_lt {α : Type} {l : List α} {x : α} {i j : Nat} (hi : i < j) (h : l[i]? = some x) : x ∈ l.take j := by
  have hl := (List.getElem?_eq_some_iff.1 h).1
  refine List.mem_of_getElem? (i := i) ?_
  rw [List.getElem?_take, if_pos hi, h]
theorem nodup_idx {α : Type} {l : List α} (hn : l.Nodup) {i j : Nat} {x : α} (hi : l[i]? = some x) (hj : l[j]? = some x) : i = j := by
  obtain ⟨h1, e1⟩ := List.getElem?_eq_some_iff.1 hi
  obtain ⟨h2, e2⟩ := List.getElem?_eq_some_iff.1 hj
  have hp := List.pairwise_iff_getElem.1 hn
  rcases Nat.lt_trichotomy i j with k | k | k
  · exact absurd (e1.trans e2.symm) (hp i j h1 h2 k)
  · exact k
  · exact absurd (e2.trans e1.symm) (hp j i h2 h1 k)
theorem nodup_len : ∀ (l m : List Int), l.Nodup → (∀ x ∈ l, x ∈ m) → l.length ≤ m.length
  | [], _, _, _ => Nat.zero_le _
  | x :: l, m, hn, hs => by
    obtain ⟨h1, h2⟩ := List.nodup_cons.1 hn
    have hx : x ∈ m := hs x (by simp)
    have := nodup_len l (m.erase x) h2 (fun y hy => (List.mem_erase_of_ne (fun e => h1 (by rw [← e]; exact hy))).2 (hs y (List.mem_cons_of_mem _ hy)))
    rw [List.length_erase_of_mem hx] at this
    have := List.length_pos_of_mem hx
    simp only [List.length_cons]
    omega

/-- Those that nobody who is left waits for, in order: all that wait are among them just if nobody reaches itself. -/
theorem kahn {E : List (Int × Int)} {al : List Int} (hn : al.Nodup) (ho : ∀ i b, al[i]? = some b → ∀ a, (a, b) ∈ E → a ∈ al.take i) (hr : ∀ a b, (a, b) ∈ E → a ∈ al ∨ ∃ c, (c, a) ∈ E ∧ c ∉ al) :
    (∀ a b, (a, b) ∈ E → a ∈ al) ↔ ∀ x, ¬ Rch E x x := by
  constructor
  · intro hall x hx
    have key : ∀ {x y : Int}, Rch E x y → ∀ j, al[j]? = some y → x ∈ al.take j := by
      intro x y h
      induction h with
      | one h => exact fun j hj => ho j _ hj _ h
      | step h _ ih =>
        intro j hj
        obtain ⟨i, hi, e⟩ := mem_take_lt (ih j hj)
        obtain ⟨k, hk, e'⟩ := mem_take_lt (ho i _ e _ h)
        exact take_mem_of_lt (by omega) e'
    obtain ⟨c, hc, _⟩ := rch_iff.1 hx
    obtain ⟨j, hj, e⟩ := List.mem_iff_getElem.1 (hall _ _ hc)
    have ej : al[j]? = some x := by rw [List.getElem?_eq_getElem hj, e]
    obtain ⟨i, hi, e'⟩ := mem_take_lt (key hx j ej)
    have := nodup_idx hn e' ej
    omega
  · intro hac a b hab
    refine Classical.byContradiction fun hna => ?_
    let K := (E.map Prod.fst).filter (fun x => !al.contains x)
    have hK : ∀ x, x ∈ K ↔ (∃ y, (x, y) ∈ E) ∧ x ∉ al := by
      intro x
      simp only [K, List.mem_filter, List.mem_map, Bool.not_eq_true', List.contains_eq_mem, decide_eq_false_iff_not]
      constructor
      · rintro ⟨⟨⟨p, q⟩, h, rfl⟩, k⟩; exact ⟨⟨q, h⟩, k⟩
      · rintro ⟨⟨q, h⟩, k⟩; exact ⟨⟨(x, q), h, rfl⟩, k⟩
    obtain ⟨m, hm, hmax⟩ := topmost (fun x y => Rch E y x) (fun h k => k.trans h) hac K (List.ne_nil_of_mem ((hK a).2 ⟨⟨b, hab⟩, hna⟩))
    obtain ⟨⟨y, hy⟩, hml⟩ := (hK m).1 hm
    rcases hr m y hy with h | ⟨c, hc, hcl⟩
    · exact hml h
    · exact hmax c ((hK c).2 ⟨⟨m, hc⟩, hcl⟩) (.one hc)

/-! ### Edges of a list of those that wait -/
abbrev Wp := Int × List Int
def edg (l : List Wp) : List (Int × Int) := l.flatMap fun x => x.2.map fun y => (x.1, y)
def keys (l : List Wp) : List Int := l.map Prod.fst
/-- Whom a waits for, each as often as it is said. -/
def adj (l : List Wp) (a : Int) : List Int := l.flatMap fun x => if x.1 = a then x.2 else []
theorem edg_append (l m : List Wp) : edg (l ++ m) = edg l ++ edg m := by simp [edg]
theorem adj_append (l m : List Wp) (a : Int) : adj (l ++ m) a = adj l a ++ adj m a := by simp [adj]
theorem keys_append (l m : List Wp) : keys (l ++ m) = keys l ++ keys m := by simp [keys]
theorem adj_one (x : Wp) (a : Int) : adj [x] a = if x.1 = a then x.2 else [] := by simp [adj]
theorem mem_edg {l : List Wp} {a b : Int} : (a, b) ∈ edg l ↔ ∃ x ∈ l, x.1 = a ∧ b ∈ x.2 := by
  simp only [edg, List.mem_flatMap, List.mem_map, Prod.mk.injEq]
  constructor
  · rintro ⟨x, hx, y, hy, e1, e2⟩; exact ⟨x, hx, e1, by rw [← e2]; exact hy⟩
  · rintro ⟨x, hx, e1, hb⟩; exact ⟨x, hx, b, hb, e1, rfl⟩
theorem mem_adj {l : List Wp} {a b : Int} : b ∈ adj l a ↔ (a, b) ∈ edg l := by
  rw [mem_edg]
  simp only [adj, List.mem_flatMap]
  constructor
  · rintro ⟨x, hx, hb⟩
    split at hb
    · rename_i e; exact ⟨x, hx, e, hb⟩
    · simp at hb
  · rintro ⟨x, hx, e, hb⟩
    exact ⟨x, hx, by rw [if_pos e]; exact hb⟩
theorem adj_nokey {l : List Wp} {a : Int} (h : a ∉ keys l) : adj l a = [] := by
  refine List.eq_nil_iff_forall_not_mem.2 fun b hb => h ?_
  obtain ⟨x, hx, e, _⟩ := mem_edg.1 (mem_adj.1 hb)
  exact List.mem_map.2 ⟨x, hx, e⟩
theorem adj_key {l : List Wp} {a b : Int} (h : (a, b) ∈ edg l) : a ∈ keys l := by
  obtain ⟨x, hx, e, _⟩ := mem_edg.1 h
  exact List.mem_map.2 ⟨x, hx, e⟩
/-- How many edges there are into b from those that p picks. -/
def cin (l : List Wp) (p : Int → Bool) (b : Int) : Nat := (edg l).countP fun e => e.2 == b && p e.1
theorem countP_or {α : Type} {p q r : α → Bool} (hr : ∀ x, r x = (p x || q x)) (h : ∀ x, p x = true → q x = false) : ∀ l : List α, l.countP r = l.countP p + l.countP q
  | [] => rfl
  | x :: l => by
    rw [List.countP_cons, List.countP_cons, List.countP_cons, countP_or hr h l, hr x]
    cases hp : p x
    · cases q x <;> simp; omega
    · rw [h x hp]; simp; omega
theorem count_adj (x b : Int) : ∀ l : List Wp, (adj l x).count b = (edg l).countP fun e => e.2 == b && e.1 == x
  | [] => rfl
  | y :: l => by
    have ih := count_adj x b l
    have e1 : adj (y :: l) x = (if y.1 = x then y.2 else []) ++ adj l x := by simp [adj]
    have e2 : edg (y :: l) = y.2.map (fun z => (y.1, z)) ++ edg l := by simp [edg]
    rw [e1, e2, List.count_append, List.countP_append, ih, List.countP_map]
    congr 1
    by_cases h : y.1 = x
    · rw [if_pos h, List.count]
      apply List.countP_congr
      intro z _
      simp [h]
    · rw [if_neg h]
      symm
      rw [List.count_nil, List.countP_eq_zero]
      intro z _
      simp [h]
theorem cin_more {l : List Wp} {p q : Int → Bool} {x : Int} (hx : p x = false) (hq : ∀ a, q a = (p a || a == x)) (b : Int) : cin l q b = cin l p b + (adj l x).count b := by
  rw [count_adj]
  unfold cin
  refine countP_or (fun e => ?_) (fun e h => ?_) _
  · rw [hq e.1]; cases (e.2 == b) <;> simp
  · cases he : (e.2 == b) <;> simp [he] at h ⊢
    intro e1
    rw [e1, hx] at h
    cases h
theorem cin_zero {l : List Wp} {p : Int → Bool} {b : Int} : cin l p b = 0 ↔ ∀ a, (a, b) ∈ edg l → p a = false := by
  unfold cin
  rw [List.countP_eq_zero]
  constructor
  · intro h a ha
    have := h _ ha
    simpa using this
  · rintro h ⟨a, c⟩ he hc
    simp at hc
    obtain ⟨rfl, hp⟩ := hc
    rw [h a he] at hp
    cases hp
theorem cin_le (l : List Wp) (p : Int → Bool) (b : Int) : cin l p b ≤ (edg l).length := List.countP_le_length
theorem cin_all {l : List Wp} {p q : Int → Bool} (h : ∀ a, p a = q a) (b : Int) : cin l p b = cin l q b := by
  have : p = q := funext h
  rw [this]
theorem adj_len (l : List Wp) (a : Int) : (adj l a).length ≤ (edg l).length := by
  induction l with
  | nil => exact Nat.le_refl _
  | cons y l ih =>
    have e1 : adj (y :: l) a = (if y.1 = a then y.2 else []) ++ adj l a := by simp [adj]
    have e2 : edg (y :: l) = y.2.map (fun z => (y.1, z)) ++ edg l := by simp [edg]
    rw [e1, e2, List.length_append, List.length_append, List.length_map]
    split
    · omega
    · simp only [List.length_nil]; omega
theorem edg_take_len (l : List Wp) (j : Nat) : (edg (l.take j)).length ≤ (edg l).length := by
  have : edg l = edg (l.take j) ++ edg (l.drop j) := by rw [← edg_append, List.take_append_drop]
  rw [this, List.length_append]
  omega
theorem take_succ_at {α : Type} {l : List α} {j : Nat} {x : α} (h : l[j]? = some x) : l.take (j + 1) = l.take j ++ [x] := by
  obtain ⟨hj, e⟩ := List.getElem?_eq_some_iff.1 h
  rw [List.take_succ_eq_append_getElem hj, e]
end Go.Proofs.Ytbdfolopnocjmaa
