/-
  What may be stays so: noted, undone, saved; room.
-/
import Derived.Test.YtidcmolkolcliaaXLw
namespace Go.Proofs.Ytidcmolkolcliaa
open Go Go.RowKit

theorem cL_take {L : List Cp} (h : cL L = true) (q : Nat) : cL (L.take q) = true := by
  obtain ⟨h1, h2⟩ := cL_iff.1 h
  refine cL_iff.2 ⟨by simp; omega, fun i hi => ?_⟩
  simp at hi
  rw [okC_take (by omega)]
  exact h2 i (by omega)
theorem cut_at {S : List Int} {q : Nat} : ∀ r, r ≤ S.length → (∀ j, r ≤ j → j < S.length → (q : Int) < atI S j) → ∃ s, s ≤ S.length ∧ (∀ j, s ≤ j → j < S.length → (q : Int) < atI S j) ∧ (s = 0 ∨ atI S (s - 1) ≤ (q : Int))
  | 0, _, h => ⟨0, by omega, h, .inl rfl⟩
  | r + 1, hr, h => by
    by_cases hq : atI S r ≤ (q : Int)
    · exact ⟨r + 1, hr, h, .inr hq⟩
    · refine cut_at r (by omega) (fun j h1 h2 => ?_)
      rcases Nat.lt_or_ge r j with h3 | h3
      · exact h j h3 h2
      · obtain rfl : j = r := by omega
        omega
theorem sL_filter {S : List Int} {k : Nat} (h : sL S k = true) (q : Nat) : sL (S.filter (leq q)) q = true := by
  obtain ⟨s, h1, h2, h3⟩ := cut_at (S := S) (q := q) S.length (Nat.le_refl _) (fun j h1 h2 => absurd h2 (by omega))
  rw [← cut_filter (fun i j => sL_rises h j i) h1 h2 h3]
  refine sL_iff.2 ⟨by have := (sL_iff.1 h).1; simp; omega, fun i hi => okS_iff.2 ⟨?_, ?_⟩⟩
  · simp at hi
    have h4 := (okS_iff.1 ((sL_iff.1 h).2 i (by omega))).1
    rw [atI_take (S := S) (i := i) (n := s) (by omega)]
    by_cases h0 : i = 0
    · rw [if_pos h0] at h4 ⊢; exact h4
    · rw [if_neg h0] at h4 ⊢; rw [atI_take (by omega)]; exact h4
  · simp at hi
    rw [atI_take (by omega)]
    have h5 := sL_rises h (s - 1) i (by omega) (by omega)
    rcases h3 with h3 | h3
    · omega
    · omega
theorem undo_may {t : Tp} (h : mayT t = true) : mayT (undoT t) = true := by
  obtain ⟨h1, h2, h3, h4, h5, h6⟩ := mayT_iff.1 h
  refine mayT_iff.2 ⟨h1, h2, h3, h4, cL_take h5 _, ?_⟩
  have hl : (undoT t).L.length = t.L.length - 1 := by simp [undoT]
  rw [hl]
  exact sL_filter h6 _
theorem undoE_zero {t : Tp} (h : mayT t = true) (h0 : 0 < t.L.length) : undoE t = 0 := by
  unfold undoE
  rw [if_pos h, if_neg (by omega)]
theorem sL_more {S : List Int} {k k' : Nat} (h : sL S k = true) (hk : k ≤ k') : sL S k' = true := by
  obtain ⟨h1, h2⟩ := sL_iff.1 h
  refine sL_iff.2 ⟨h1, fun i hi => ?_⟩
  have := okS_iff.1 (h2 i hi)
  exact okS_iff.2 ⟨this.1, by omega⟩
theorem note_may {t : Tp} {c : Cp} (h : noteE t c = 0) : mayT (noteT t c) = true := by
  obtain ⟨hm, hf, h6⟩ := noteE_may h
  obtain ⟨h1, h2, h3, h4, h5, h7⟩ := mayT_iff.1 hm
  have hc : cB c = true := by rw [folB, Bool.and_eq_true] at hf; exact hf.1
  have hl : inB c.lsn 1 4294967295 = true := by
    simp only [cB, Bool.and_eq_true] at hc
    exact hc.1.1.1.1
  have hl2 := inB_iff.1 hl
  have hl3 : inB c.lsn 0 4294967295 = true := inB_iff.2 (by omega)
  refine mayT_iff.2 ⟨h1, h2, ?_, hl3, ?_, ?_⟩
  · show inB (if t.f = 0 then c.lsn else t.f) 0 4294967295 = true
    split
    · exact hl3
    · exact h3
  · obtain ⟨g1, g2⟩ := cL_iff.1 h5
    refine cL_iff.2 ⟨by simp [noteT]; omega, fun i hi => ?_⟩
    show okC (t.L ++ [c]) i = true
    simp [noteT] at hi
    rcases Nat.lt_or_ge i t.L.length with h8 | h8
    · rw [okC_append h8]; exact g2 i h8
    · obtain rfl : i = t.L.length := by omega
      rw [okC_snoc]; exact hf
  · have : (noteT t c).L.length = t.L.length + 1 := by simp [noteT]
    rw [this]
    exact sL_more h7 (by omega)
theorem save_may {t : Tp} (h : saveE t = 0) : mayT (saveT t) = true := by
  obtain ⟨hm, h4⟩ := saveE_may h
  obtain ⟨h1, h2, h3, h5, h6, h7⟩ := mayT_iff.1 hm
  refine mayT_iff.2 ⟨h1, h2, h3, h5, h6, ?_⟩
  show sL (t.S ++ [(t.L.length : Int)]) t.L.length = true
  refine sL_iff.2 ⟨by simp; omega, fun i hi => okS_iff.2 ?_⟩
  simp at hi
  rcases Nat.lt_or_ge i t.S.length with h8 | h8
  · have := okS_iff.1 ((sL_iff.1 h7).2 i h8)
    rw [atI_append _ h8]
    refine ⟨?_, this.2⟩
    by_cases h0 : i = 0
    · rw [if_pos h0]; rw [if_pos h0] at this; exact this.1
    · rw [if_neg h0, atI_append _ (by omega)]; rw [if_neg h0] at this; exact this.1
  · obtain rfl : i = t.S.length := by omega
    rw [atI_snoc]
    refine ⟨?_, Int.le_refl _⟩
    by_cases h0 : t.S.length = 0
    · rw [if_pos h0]; omega
    · rw [if_neg h0, atI_append _ (by omega)]
      exact (sL_bd h7 (by omega)).2
theorem may_smallT {t : Tp} (h : mayT t = true) : smallT t := by
  have h1 := may_len h
  refine ⟨by omega, fun c hc => ?_⟩
  have := may_small h c hc
  exact ⟨by omega, by omega⟩
theorem undo_noted (i s f l : Int) (L : List Cp) (S : List Int) (c : Cp) (hS : ∀ z ∈ S, z ≤ (L.length : Int)) : undoT ⟨i, s, f, l, L ++ [c], S⟩ = ⟨i, s, f, l, L, S⟩ ∧ undoC ⟨i, s, f, l, L ++ [c], S⟩ = c := by
  refine ⟨?_, ?_⟩
  · unfold undoT
    simp only [List.length_append, List.length_singleton, Nat.add_sub_cancel]
    have e1 : (L ++ [c]).take L.length = L := by simp
    have e2 : S.filter (leq L.length) = S := by
      rw [List.filter_eq_self]
      intro z hz
      unfold leq
      exact decide_eq_true (hS z hz)
    rw [e1, e2]
  · unfold undoC
    simp only [List.length_append, List.length_singleton, Nat.add_sub_cancel]
    exact atC_snoc L c
theorem may_below {t : Tp} (h : mayT t = true) : ∀ z ∈ t.S, z ≤ (t.L.length : Int) := by
  intro z hz
  obtain ⟨i, hi⟩ := List.mem_iff_getElem?.1 hz
  have := (sL_bd (mayT_iff.1 h).2.2.2.2.2 (List.getElem?_eq_some_iff.1 hi).1).2
  rwa [atI_of hi] at this
/-- What one undoing frees, it keeps no more. -/
theorem room_step {page : Int} {t : Tp} (h0 : 0 < t.L.length) : keptL page t.L = keptL page (undoT t).L + gain page (undoC t) := by
  have e : t.L = t.L.take (t.L.length - 1) ++ [undoC t] := by
    have h1 := take_succ_at (atC_at (L := t.L) (i := t.L.length - 1) (by omega))
    rw [show t.L.length - 1 + 1 = t.L.length by omega, List.take_length] at h1
    exact h1
  conv => lhs; rw [e]
  rw [keptL_append]
  simp [keptL, undoT]
end Go.Proofs.Ytidcmolkolcliaa
