/-
  Mathematics of locks: who blocks, in rising order; what is safe, and stays so.
-/
import Derived.Test.YtpkjafadhnecfaaKMath
import Derived.Lib.SlicesCompact
namespace Go.Proofs.Ytpkjafadhnecfaa
open Go

/-! ### Rising numbers -/
theorem asc_ext : ∀ {xs ys : List Int}, xs.Pairwise (· < ·) → ys.Pairwise (· < ·) → (∀ t, t ∈ xs ↔ t ∈ ys) → xs = ys
  | [], [], _, _, _ => rfl
  | [], y :: ys, _, _, h => absurd ((h y).2 List.mem_cons_self) List.not_mem_nil
  | x :: xs, [], _, _, h => absurd ((h x).1 List.mem_cons_self) List.not_mem_nil
  | x :: xs, y :: ys, hx, hy, h => by
    rw [List.pairwise_cons] at hx hy
    have e : x = y := by
      rcases List.mem_cons.1 ((h x).1 List.mem_cons_self) with e | e
      · exact e
      · rcases List.mem_cons.1 ((h y).2 List.mem_cons_self) with e2 | e2
        · exact e2.symm
        · have h1 := hy.1 x e
          have h2 := hx.1 y e2
          omega
    subst e
    rw [asc_ext hx.2 hy.2 (fun t => ?_)]
    constructor
    · intro ht
      rcases List.mem_cons.1 ((h t).1 (List.mem_cons_of_mem _ ht)) with e | e
      · have := hx.1 t ht; omega
      · exact e
    · intro ht
      rcases List.mem_cons.1 ((h t).2 (List.mem_cons_of_mem _ ht)) with e | e
      · have := hy.1 t ht; omega
      · exact e
theorem bang {zs : List Int} {j : Nat} (h : j < zs.length) : zs.toArray[j]! = zs[j] := by simp [h]
theorem compactUp (zs : List Int) (hs : zs.Pairwise (· ≤ ·)) : ∀ m, m ≤ zs.length → (Lib.compactUpTo zs.toArray m).Pairwise (· < ·) ∧ ∀ t, t ∈ Lib.compactUpTo zs.toArray m ↔ ∃ j, j < m ∧ t = zs.toArray[j]! := by
  intro m
  induction m with
  | zero => intro _; simp [Lib.compactUpTo]
  | succ m ih =>
    intro hm
    obtain ⟨ih1, ih2⟩ := ih (by omega)
    have le : ∀ i j, i ≤ j → j < zs.length → zs.toArray[i]! ≤ zs.toArray[j]! := by
      intro i j hij hj
      rw [bang (by omega), bang hj]
      rcases Nat.lt_or_eq_of_le hij with h | h
      · exact List.pairwise_iff_getElem.1 hs i j (by omega) hj h
      · subst h; exact Int.le_refl _
    rw [Lib.compactUpTo_succ]
    by_cases hk : m = 0 ∨ zs.toArray[m]! ≠ zs.toArray[m - 1]!
    · have hk' : Lib.keeps zs.toArray m = true := by unfold Lib.keeps; exact decide_eq_true hk
      rw [hk', if_pos rfl]
      constructor
      · rw [List.pairwise_append]
        refine ⟨ih1, List.pairwise_singleton _ _, fun a ha b hb => ?_⟩
        rw [List.mem_singleton] at hb
        subst hb
        obtain ⟨j, hj, rfl⟩ := (ih2 a).1 ha
        rcases hk with h0 | hne
        · omega
        · have h1 := le j (m - 1) (by omega) (by omega)
          have h2 := le (m - 1) m (by omega) (by omega)
          omega
      · intro t
        rw [List.mem_append, ih2, List.mem_singleton]
        constructor
        · rintro (⟨j, hj, e⟩ | e)
          · exact ⟨j, by omega, e⟩
          · exact ⟨m, by omega, e⟩
        · rintro ⟨j, hj, e⟩
          rcases Nat.lt_succ_iff_lt_or_eq.1 hj with h | h
          · exact .inl ⟨j, h, e⟩
          · subst h; exact .inr e
    · have hk' : Lib.keeps zs.toArray m = false := by unfold Lib.keeps; exact decide_eq_false hk
      rw [hk']
      have h0 : 0 < m := Nat.pos_of_ne_zero (fun e => hk (.inl e))
      have he : zs.toArray[m]! = zs.toArray[m - 1]! := Classical.byContradiction fun e => hk (.inr e)
      constructor
      · simpa using ih1
      · intro t
        simp only [Bool.false_eq_true, if_false, List.append_nil]
        rw [ih2]
        constructor
        · rintro ⟨j, hj, e⟩; exact ⟨j, by omega, e⟩
        · rintro ⟨j, hj, e⟩
          rcases Nat.lt_succ_iff_lt_or_eq.1 hj with h | h
          · exact ⟨j, h, e⟩
          · subst h; exact ⟨j - 1, by omega, e.trans he⟩
theorem compact_asc (zs : List Int) (hs : zs.Pairwise (· ≤ ·)) : (Lib.compact zs).Pairwise (· < ·) ∧ ∀ t, t ∈ Lib.compact zs ↔ t ∈ zs := by
  obtain ⟨h1, h2⟩ := compactUp zs hs zs.length (Nat.le_refl _)
  refine ⟨h1, fun t => ?_⟩
  unfold Lib.compact
  rw [h2, List.mem_iff_getElem]
  constructor
  · rintro ⟨j, hj, e⟩; exact ⟨j, hj, by rw [e, bang hj]⟩
  · rintro ⟨j, hj, e⟩; exact ⟨j, hj, by rw [← e, bang hj]⟩

/-! ### Who blocks -/
def srt (zs : List Int) : List Int := zs.mergeSort fun x y => decide (x ≤ y)
theorem srt_asc (zs : List Int) : (srt zs).Pairwise (· ≤ ·) := by
  have := List.pairwise_mergeSort (le := fun x y : Int => decide (x ≤ y)) (fun a b c h1 h2 => by simp at *; omega) (fun a b => by simp; omega) zs
  simpa [srt] using this
theorem srt_mem (zs : List Int) (t : Int) : t ∈ srt zs ↔ t ∈ zs := by unfold srt; exact List.mem_mergeSort
theorem srt_len (zs : List Int) : (srt zs).length = zs.length := by unfold srt; exact List.length_mergeSort _
def txs (l : List Tr) (tx res mode : Int) : List Int := (l.filter (blF tx res mode)).map Tr.a
def blks (l : List Tr) (tx res mode : Int) : List Int := Lib.compact (srt (txs l tx res mode))
theorem blks_asc (l : List Tr) (tx res mode : Int) : (blks l tx res mode).Pairwise (· < ·) := (compact_asc _ (srt_asc _)).1
theorem mem_blks {l : List Tr} {tx res mode t : Int} : t ∈ blks l tx res mode ↔ ∃ h ∈ l, h.a = t ∧ blF tx res mode h = true := by
  unfold blks
  rw [(compact_asc _ (srt_asc _)).2, srt_mem, txs, List.mem_map]
  constructor
  · rintro ⟨h, hm, rfl⟩
    rw [List.mem_filter] at hm
    exact ⟨h, hm.1, rfl, hm.2⟩
  · rintro ⟨h, hm, rfl, hb⟩
    exact ⟨h, List.mem_filter.2 ⟨hm, hb⟩, rfl⟩
theorem blks_is {l : List Tr} {tx res mode : Int} {xs : List Int} (h1 : xs.Pairwise (· < ·)) (h2 : ∀ t, t ∈ xs ↔ ∃ h ∈ l, h.a = t ∧ blF tx res mode h = true) : xs = blks l tx res mode :=
  asc_ext h1 (blks_asc l tx res mode) (fun t => by rw [h2, mem_blks])
theorem blks_ext {l l' : List Tr} {tx res mode : Int} (h : ∀ x, blF tx res mode x = true → (x ∈ l ↔ x ∈ l')) : blks l tx res mode = blks l' tx res mode :=
  blks_is (blks_asc _ _ _ _) (fun t => by
    rw [mem_blks]
    constructor
    · rintro ⟨x, hx, e, hb⟩; exact ⟨x, (h x hb).1 hx, e, hb⟩
    · rintro ⟨x, hx, e, hb⟩; exact ⟨x, (h x hb).2 hx, e, hb⟩)
theorem compact_len_le (zs : List Int) : (Lib.compact zs).length ≤ zs.length := by
  unfold Lib.compact Lib.compactUpTo
  rw [List.length_map]
  exact Nat.le_trans (List.length_filter_le _ _) (by simp)
theorem blks_len (l : List Tr) (tx res mode : Int) : (blks l tx res mode).length ≤ l.length := by
  unfold blks
  refine Nat.le_trans (compact_len_le _) ?_
  rw [srt_len, txs, List.length_map]
  exact List.length_filter_le _ _
theorem blks_nil {l : List Tr} {tx res mode : Int} : blks l tx res mode = [] ↔ ∀ h ∈ l, blF tx res mode h = false := by
  rw [List.eq_nil_iff_forall_not_mem]
  constructor
  · intro h x hx
    cases hb : blF tx res mode x with
    | false => rfl
    | true => exact absurd (mem_blks.2 ⟨x, hx, rfl, hb⟩) (h x.a)
  · intro h t ht
    obtain ⟨x, hx, _, hb⟩ := mem_blks.1 ht
    rw [h x hx] at hb; cases hb

/-! ### What is safe -/
/-- Two locks of two transactions that clash. -/
def un (x y : Tr) : Bool := !decide (x.a = y.a) && (decide (x.b = y.b) && clB x.c y.c)
theorem un_iff {x y : Tr} : un x y = true ↔ x.a ≠ y.a ∧ x.b = y.b ∧ clB x.c y.c = true := by simp [un]
theorem un_comm (x y : Tr) : un x y = un y x := by
  rw [Bool.eq_iff_iff, un_iff, un_iff, clB_comm y.c x.c]
  exact ⟨fun h => ⟨fun e => h.1 e.symm, h.2.1.symm, h.2.2⟩, fun h => ⟨fun e => h.1 e.symm, h.2.1.symm, h.2.2⟩⟩
theorem un_self (x : Tr) : un x x = false := by simp [un]
def sfB (l : List Tr) : Bool := l.all fun x => l.all fun y => !un x y
theorem sfB_iff {l : List Tr} : sfB l = true ↔ ∀ x ∈ l, ∀ y ∈ l, un x y = false := by simp [sfB]
theorem sfB_ext {l l' : List Tr} (h : ∀ x, x ∈ l ↔ x ∈ l') : sfB l = sfB l' := by
  rw [Bool.eq_iff_iff, sfB_iff, sfB_iff]
  exact ⟨fun k x hx y hy => k x ((h x).2 hx) y ((h y).2 hy), fun k x hx y hy => k x ((h x).1 hx) y ((h y).1 hy)⟩
theorem atS_at {l : List Tr} {i : Nat} (h : i < l.length) : atS l i = l[i] := by simp [atS, h]
theorem sfB_pairs {l : List Tr} : sfB l = true ↔ ∀ i k, k < i → i < l.length → un (atS l i) (atS l k) = false := by
  rw [sfB_iff]
  constructor
  · intro h i k hk hi
    rw [atS_at hi, atS_at (Nat.lt_trans hk hi)]
    exact h _ (List.getElem_mem _) _ (List.getElem_mem _)
  · intro h x hx y hy
    obtain ⟨i, hi, rfl⟩ := List.mem_iff_getElem.1 hx
    obtain ⟨k, hk, rfl⟩ := List.mem_iff_getElem.1 hy
    have hp := fun i k hk hi => h i k hk hi
    rcases Nat.lt_trichotomy k i with hlt | he | hgt
    · have := hp i k hlt hi
      rwa [atS_at hi, atS_at hk] at this
    · subst he; exact un_self _
    · have := hp k i hgt hk
      rw [atS_at hi, atS_at hk, un_comm] at this
      exact this
theorem sfB_no {l : List Tr} {i k : Nat} (hi : i < l.length) (hk : k < l.length) (h : un (atS l i) (atS l k) = true) : sfB l = false := by
  cases hs : sfB l with
  | false => rfl
  | true =>
    rw [atS_at hi, atS_at hk] at h
    rw [sfB_iff.1 hs _ (List.getElem_mem _) _ (List.getElem_mem _)] at h
    cases h

/-! ### What follows -/
/-- The lock that is granted. -/
def gH (l : List Tr) (tx res mode : Int) : Tr := ⟨tx, res, ((hld l tx res ||| m4 mode : Nat) : Int)⟩
def grt (l : List Tr) (tx res mode : Int) : List Tr := gr (owF tx res) (gH l tx res mode) l
theorem gH_own (l : List Tr) (tx res mode : Int) : owF tx res (gH l tx res mode) = true := by simp [owF, gH]
theorem gH_m4 (l : List Tr) (tx res mode : Int) : m4 (gH l tx res mode).c = hld l tx res ||| m4 mode := m4_nat _ (or_lt16 (hld_lt _ _ _) (m4_lt _))
theorem mem_grt {l : List Tr} {tx res mode : Int} {x : Tr} : x ∈ grt l tx res mode ↔ x = gH l tx res mode ∨ (x ∈ l ∧ owF tx res x = false) := mem_gr
theorem drop_safe {l : List Tr} (h : sfB l = true) (tx : Int) : sfB (l.filter (drF tx)) = true := by
  rw [sfB_iff] at h ⊢
  exact fun x hx y hy => h x (List.mem_filter.1 hx).1 y (List.mem_filter.1 hy).1
theorem grant_safe {l : List Tr} (h : sfB l = true) {tx res mode : Int} (hb : blks l tx res mode = []) : sfB (grt l tx res mode) = true := by
  rw [sfB_iff] at h ⊢
  rw [blks_nil] at hb
  have key : ∀ y, y ∈ l → un (gH l tx res mode) y = false := by
    intro y hy
    cases hu : un (gH l tx res mode) y with
    | false => rfl
    | true =>
      exfalso
      obtain ⟨h1, h2, h3⟩ := un_iff.1 hu
      have h1' : tx ≠ y.a := h1
      have h2' : res = y.b := h2
      unfold clB at h3
      rw [gH_m4, cl4_or, Bool.or_eq_true] at h3
      rcases h3 with h3 | h3
      · unfold hld at h3
        rw [cl4_orm, List.any_eq_true] at h3
        obtain ⟨z, hz, hc⟩ := h3
        rw [List.mem_filter, owF_iff] at hz
        have := h z hz.1 y hy
        rw [un_iff.2 ⟨by rw [hz.2.1]; exact h1', by rw [hz.2.2]; exact h2', hc⟩] at this
        cases this
      · have := hb y hy
        rw [blF_iff.2 ⟨fun e => h1' e.symm, h2'.symm, by unfold clB; rw [cl4_comm]; exact h3⟩] at this
        cases this
  intro x hx y hy
  rcases mem_grt.1 hx with rfl | ⟨hx, _⟩
  · rcases mem_grt.1 hy with rfl | ⟨hy, _⟩
    · exact un_self _
    · exact key y hy
  · rcases mem_grt.1 hy with rfl | ⟨hy, _⟩
    · rw [un_comm]; exact key x hx
    · exact h x hx y hy
theorem hld_ext {l l' : List Tr} {tx res : Int} (h : ∀ x, owF tx res x = true → (x ∈ l ↔ x ∈ l')) : hld l tx res = hld l' tx res :=
  orm_ext (fun x => by
    rw [List.mem_filter, List.mem_filter]
    exact ⟨fun ⟨h1, h2⟩ => ⟨(h x h2).1 h1, h2⟩, fun ⟨h1, h2⟩ => ⟨(h x h2).2 h1, h2⟩⟩)
theorem hld_grt (l : List Tr) (tx res mode : Int) : hld (grt l tx res mode) tx res = hld l tx res ||| m4 mode := by
  unfold hld
  rw [orm_ext (b := [gH l tx res mode]), orm_one, gH_m4]; rfl
  intro x
  rw [List.mem_filter, mem_grt, List.mem_singleton]
  constructor
  · rintro ⟨h | ⟨_, h⟩, h2⟩
    · exact h
    · rw [h2] at h; cases h
  · rintro rfl
    exact ⟨.inl rfl, gH_own _ _ _ _⟩
theorem blks_grt (l : List Tr) (tx res mode mode' : Int) : blks (grt l tx res mode) tx res mode' = blks l tx res mode' :=
  blks_ext (fun x hb => by
    have hne := (blF_iff.1 hb).1
    rw [mem_grt]
    constructor
    · rintro (rfl | h)
      · exact absurd rfl hne
      · exact h.1
    · intro h
      refine .inr ⟨h, ?_⟩
      cases ho : owF tx res x with
      | false => rfl
      | true => exact absurd (owF_iff.1 ho).1 hne)
theorem or_idem2 (a b : Nat) : (a ||| b) ||| b = a ||| b := by rw [Nat.or_assoc, Nat.or_self]
theorem gr_again {own : Tr → Bool} {g : Tr} (hg : own g = true) : ∀ l : List Tr, gr own g (gr own g l) = gr own g l
  | [] => by simp [gr, hg]
  | x :: l => by
    rw [gr]
    cases hx : own x with
    | true => simp [gr, hg]
    | false => simp [gr, hx, gr_again hg l]
theorem grt_again (l : List Tr) (tx res mode : Int) : grt (grt l tx res mode) tx res mode = grt l tx res mode := by
  have e : gH (grt l tx res mode) tx res mode = gH l tx res mode := by
    unfold gH
    rw [hld_grt, or_idem2]
  unfold grt at *
  rw [e, gr_again (gH_own _ _ _ _)]
theorem grt_drop (l : List Tr) (tx res mode : Int) : (grt l tx res mode).filter (drF tx) = l.filter (drF tx) := by
  unfold grt
  generalize hg : gH l tx res mode = g
  have hga : drF tx g = false := by rw [← hg]; simp [drF, gH]
  have ho : ∀ x, owF tx res x = true → drF tx x = false := fun x hx => by simp [drF, (owF_iff.1 hx).1]
  clear hg
  induction l with
  | nil => simp [gr, hga]
  | cons x l ih =>
    rw [gr]
    cases hx : owF tx res x with
    | true =>
      simp only [if_true, List.filter_cons, hga, ho x hx, Bool.false_eq_true, if_false, List.filter_filter]
      apply List.filter_congr
      intro y _
      cases hy : owF tx res y with
      | true => rw [ho y hy]; rfl
      | false => simp
    | false => simp only [Bool.false_eq_true, if_false, List.filter_cons, ih]
theorem hld_drop_other (l : List Tr) {tx other res : Int} (h : tx ≠ other) : hld (l.filter (drF tx)) other res = hld l other res :=
  hld_ext (fun x hx => by
    rw [List.mem_filter, drF_iff, (owF_iff.1 hx).1]
    exact ⟨fun h => h.1, fun k => ⟨k, fun e => h e.symm⟩⟩)
theorem hld_drop_own (l : List Tr) (tx res : Int) : hld (l.filter (drF tx)) tx res = 0 := by
  unfold hld
  rw [List.filter_filter, List.filter_eq_nil_iff.2]; rfl
  intro x _
  simp [owF, drF]
  exact fun h _ => h
theorem blks_more {l : List Tr} {tx res mode more t : Int} (h : t ∈ blks l tx res mode) : t ∈ blks l tx res (bits .or .i64 mode more) := by
  obtain ⟨x, hx, e, hb⟩ := mem_blks.1 h
  refine mem_blks.2 ⟨x, hx, e, ?_⟩
  obtain ⟨h1, h2, h3⟩ := blF_iff.1 hb
  refine blF_iff.2 ⟨h1, h2, ?_⟩
  unfold clB at *
  rw [m4_or, cl4_comm, cl4_or, Bool.or_eq_true]
  exact .inl (by rw [cl4_comm]; exact h3)
theorem blks_holds {l : List Tr} {tx res mode t : Int} (h : t ∈ blks l tx res mode) : t ≠ tx ∧ hld l t res ≠ 0 := by
  obtain ⟨x, hx, rfl, hb⟩ := mem_blks.1 h
  obtain ⟨h1, h2, h3⟩ := blF_iff.1 hb
  refine ⟨h1, fun e => ?_⟩
  have h4 : cl4 (hld l x.a res) (m4 mode) = true := by
    unfold hld
    rw [cl4_orm, List.any_eq_true]
    exact ⟨x, List.mem_filter.2 ⟨hx, owF_iff.2 ⟨rfl, h2⟩⟩, h3⟩
  rw [e, cl4_zero] at h4
  cases h4
end Go.Proofs.Ytpkjafadhnecfaa
