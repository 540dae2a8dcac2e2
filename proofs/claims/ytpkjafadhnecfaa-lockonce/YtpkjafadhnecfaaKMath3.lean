/-
  Mathematics of locks: one walk over a sorted list tells whether it is safe.
-/
import Derived.Test.YtpkjafadhnecfaaKMath2
namespace Go.Proofs.Ytpkjafadhnecfaa
open Go

/-- By resource, and then by transaction. -/
def leK (x y : Tr) : Prop := x.b < y.b ∨ (x.b = y.b ∧ x.a ≤ y.a)
/-- A list that rises so. -/
def Ris (d : List Tr) : Prop := ∀ i j, i < j → j < d.length → leK (atS d i) (atS d j)
/-- Of the first i those on the last one's resource. -/
def grp (d : List Tr) (i : Nat) : List Tr := (d.take i).filter fun x => decide (x.b = (atS d (i - 1)).b)
def alN (d : List Tr) (i : Nat) : Nat := if i = 0 then 0 else orm (grp d i)
def bfN (d : List Tr) (i : Nat) : Nat := if i = 0 then 0 else orm ((grp d i).filter fun x => !decide (x.a = (atS d (i - 1)).a))
/-- Of the first i those on the i-th one's resource, of other transactions. -/
def nbN (d : List Tr) (i : Nat) : Nat := orm ((d.take i).filter fun x => decide (x.b = (atS d i).b) && !decide (x.a = (atS d i).a))
theorem take_at {d : List Tr} {i : Nat} (h : i < d.length) : d.take (i + 1) = d.take i ++ [atS d i] := by
  rw [atS_at h, List.take_append_getElem h]
theorem mem_take {d : List Tr} {i : Nat} {x : Tr} (h : x ∈ d.take i) : ∃ j, j < i ∧ j < d.length ∧ x = atS d j := by
  obtain ⟨j, hj, rfl⟩ := List.mem_iff_getElem.1 h
  have hj' := hj
  rw [List.length_take] at hj'
  exact ⟨j, by omega, by omega, by rw [atS_at (by omega)]; simp⟩
theorem orm_none {l : List Tr} {p : Tr → Bool} (h : ∀ x ∈ l, p x = false) : orm (l.filter p) = 0 := by
  rw [List.filter_eq_nil_iff.2 (fun x hx => by simp [h x hx])]; rfl
/-- A new resource. -/
theorem nb_new {d : List Tr} (hs : Ris d) {i : Nat} (hi : i < d.length) (h : i = 0 ∨ (atS d i).b ≠ (atS d (i - 1)).b) : nbN d i = 0 := by
  refine orm_none (fun x hx => ?_)
  obtain ⟨j, hj, hjl, rfl⟩ := mem_take hx
  have hne : (atS d j).b ≠ (atS d i).b := by
    rcases h with h | h
    · omega
    · have h1 := hs (i - 1) i (by omega) hi
      rcases Nat.lt_or_ge j (i - 1) with hlt | hge
      · have h2 := hs j (i - 1) hlt (by omega)
        unfold leK at h1 h2
        omega
      · obtain rfl : j = i - 1 := by omega
        exact fun e => h e.symm
  simp [hne]
/-- The same resource, a new transaction. -/
theorem nb_next {d : List Tr} (hs : Ris d) {i : Nat} (hi : i < d.length) (h0 : i ≠ 0) (hb : (atS d i).b = (atS d (i - 1)).b) (ha : (atS d i).a ≠ (atS d (i - 1)).a) : nbN d i = alN d i := by
  unfold nbN alN grp
  rw [if_neg h0, List.filter_congr]
  intro x hx
  obtain ⟨j, hj, hjl, rfl⟩ := mem_take hx
  rw [hb]
  by_cases e : (atS d j).b = (atS d (i - 1)).b
  · have h1 := hs (i - 1) i (by omega) hi
    have hne : (atS d j).a ≠ (atS d i).a := by
      rcases Nat.lt_or_ge j (i - 1) with hlt | hge
      · have h2 := hs j (i - 1) hlt (by omega)
        unfold leK at h1 h2
        omega
      · obtain rfl : j = i - 1 := by omega
        exact fun e => ha e.symm
    simp [e, hne]
  · simp [e]
/-- The same resource and transaction. -/
theorem nb_same {d : List Tr} {i : Nat} (h0 : i ≠ 0) (hb : (atS d i).b = (atS d (i - 1)).b) (ha : (atS d i).a = (atS d (i - 1)).a) : nbN d i = bfN d i := by
  unfold nbN bfN grp
  rw [if_neg h0, List.filter_filter, hb, ha]
  congr 1
  apply List.filter_congr
  intro x _
  exact Bool.and_comm _ _
theorem bf_succ {d : List Tr} {i : Nat} (hi : i < d.length) : bfN d (i + 1) = nbN d i := by
  unfold nbN bfN grp
  rw [if_neg (by omega), take_at hi, show i + 1 - 1 = i by omega, List.filter_filter, List.filter_append]
  have e : List.filter (fun a => (!decide (a.a = (atS d i).a) && decide (a.b = (atS d i).b))) [atS d i] = [] := by simp
  rw [e, List.append_nil]
  congr 1
  apply List.filter_congr
  intro x _
  exact Bool.and_comm _ _
theorem al_new {d : List Tr} (hs : Ris d) {i : Nat} (hi : i < d.length) (h : i = 0 ∨ (atS d i).b ≠ (atS d (i - 1)).b) : alN d (i + 1) = m4 (atS d i).c := by
  unfold alN grp
  rw [if_neg (by omega), take_at hi, show i + 1 - 1 = i by omega, List.filter_append, orm_append]
  have e : List.filter (fun x => decide (x.b = (atS d i).b)) [atS d i] = [atS d i] := by simp
  rw [e, orm_one]
  have e2 : orm (List.filter (fun x => decide (x.b = (atS d i).b)) (d.take i)) = 0 := by
    refine orm_none (fun x hx => ?_)
    obtain ⟨j, hj, hjl, rfl⟩ := mem_take hx
    have hne : (atS d j).b ≠ (atS d i).b := by
      rcases h with h | h
      · omega
      · have h1 := hs (i - 1) i (by omega) hi
        rcases Nat.lt_or_ge j (i - 1) with hlt | hge
        · have h2 := hs j (i - 1) hlt (by omega)
          unfold leK at h1 h2
          omega
        · obtain rfl : j = i - 1 := by omega
          exact fun e => h e.symm
    simp [hne]
  rw [e2, Nat.zero_or]
theorem al_same {d : List Tr} {i : Nat} (hi : i < d.length) (h0 : i ≠ 0) (hb : (atS d i).b = (atS d (i - 1)).b) : alN d (i + 1) = alN d i ||| m4 (atS d i).c := by
  unfold alN grp
  rw [if_neg (by omega), if_neg h0, take_at hi, show i + 1 - 1 = i by omega, List.filter_append, orm_append, hb]
  have e : List.filter (fun x => decide (x.b = (atS d (i - 1)).b)) [atS d i] = [atS d i] := by simp [hb]
  rw [e, orm_one]
/-- What clashes with what stands ahead. -/
theorem nb_clash {d : List Tr} {i : Nat} (hi : i < d.length) : cl4 (nbN d i) (m4 (atS d i).c) = true ↔ ∃ k, k < i ∧ un (atS d i) (atS d k) = true := by
  unfold nbN
  rw [cl4_orm, List.any_eq_true]
  constructor
  · rintro ⟨x, hx, hc⟩
    rw [List.mem_filter] at hx
    obtain ⟨hx, hp⟩ := hx
    obtain ⟨j, hj, hjl, rfl⟩ := mem_take hx
    simp only [Bool.and_eq_true, decide_eq_true_eq, Bool.not_eq_true', decide_eq_false_iff_not] at hp
    exact ⟨j, hj, un_iff.2 ⟨fun e => hp.2 e.symm, hp.1.symm, by unfold clB; rw [cl4_comm]; exact hc⟩⟩
  · rintro ⟨k, hk, hu⟩
    obtain ⟨h1, h2, h3⟩ := un_iff.1 hu
    refine ⟨atS d k, List.mem_filter.2 ⟨?_, ?_⟩, by unfold clB at h3; rw [cl4_comm]; exact h3⟩
    · rw [List.mem_iff_getElem]
      exact ⟨k, by rw [List.length_take]; omega, by rw [atS_at (by omega)]; simp⟩
    · simp only [Bool.and_eq_true, decide_eq_true_eq, Bool.not_eq_true', decide_eq_false_iff_not]
      exact ⟨h2.symm, fun e => h1 e.symm⟩
/-- No one of the first i clashes with one ahead. -/
def Okk (d : List Tr) (i : Nat) : Prop := ∀ j k, k < j → j < i → un (atS d j) (atS d k) = false
theorem Okk.zero (d : List Tr) : Okk d 0 := fun _ _ _ h => absurd h (by omega)
theorem Okk.succ {d : List Tr} {i : Nat} (h : Okk d i) (hi : i < d.length) (hc : cl4 (nbN d i) (m4 (atS d i).c) = false) : Okk d (i + 1) := by
  intro j k hk hj
  rcases Nat.lt_succ_iff_lt_or_eq.1 hj with h1 | h1
  · exact h j k hk h1
  · subst h1
    cases hu : un (atS d j) (atS d k) with
    | false => rfl
    | true => rw [(nb_clash hi).2 ⟨k, hk, hu⟩] at hc; cases hc
theorem Okk.all {d : List Tr} (h : Okk d d.length) : sfB d = true := sfB_pairs.2 (fun i k hk hi => h i k hk hi)
theorem clash_no {d : List Tr} {i : Nat} (hi : i < d.length) (hc : cl4 (nbN d i) (m4 (atS d i).c) = true) : sfB d = false := by
  obtain ⟨k, hk, hu⟩ := (nb_clash hi).1 hc
  exact sfB_no hi (by omega) hu
end Go.Proofs.Ytpkjafadhnecfaa
