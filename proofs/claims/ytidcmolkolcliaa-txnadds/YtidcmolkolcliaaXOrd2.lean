/-
  A region that draws its order, walked by hand, where what holds throughout (S) need not hold any more behind one operation, z.
-/
import Derived.Test.YtidcmolkolcliaaXOrd
namespace Go.Proofs.Ytidcmolkolcliaa
open Go Go.RowKit

section
variable {P : Program} {ops : Array Oper} {Q : Exit → Act → World → Prop} {S : World → Prop} {z : Nat}
/-- z has come up, or S holds. -/
def Held (l : Array Bool) (z : Nat) (S : World → Prop) (w : World) : Prop := l.getD z false = true ∨ S w
theorem Held.yes {l : Array Bool} {w : World} (h : S w) : Held l z S w := .inr h
theorem Held.no {l : Array Bool} {w : World} (h : l.getD z false = true) : Held l z S w := .inl h
/-- Whatever order is picked: S holds behind every operation till z comes up. -/
def wpLate (P : Program) (ops : Array Oper) (Q : Exit → Act → World → Prop) (S : World → Prop) (z : Nat) : Nat → Array Bool → Act → World → Prop
  | 0, l, a, w => Region.ready .any ops l = [] ∧ Q .normal a w
  | n + 1, l, a, w => (Region.ready .any ops l = [] → Q .normal a w) ∧
    ∀ i ∈ Region.ready .any ops l, wpOp P ops Q i (fun a' w' => Held (l.setIfInBounds i true) z S w' ∧ wpLate P ops Q S z n (l.setIfInBounds i true) a' w') a w
theorem wpLate_any : ∀ (n : Nat) (l : Array Bool) (a : Act) (w : World), wpLate P ops Q S z n l a w → wpAny P .any ops Q n l a w
  | 0, _, _, _, h => h
  | n + 1, _, _, _, h => ⟨h.1, fun i hi => wpOp_mono (fun a' w' k => wpLate_any n _ a' w' k.2) (h.2 i hi)⟩
/-- An operation that has not come up is not waited for by one that may come up. -/
theorem not_waited {l : Array Bool} {i : Nat} {o : Oper} (hi : i ∈ Region.ready .any ops l) (hall : ∀ e ∈ o.after, Region.binds .any e = true → l.getD e.on false = true) :
    ∀ e ∈ o.after, Region.binds .any e = true → e.on ≠ i := by
  intro e he hb heq
  have h1 := hall e he hb
  have h0 := (mem_ready.1 hi).1
  rw [heq] at h1
  rcases Nat.lt_or_ge i l.size with h' | h'
  · simp [h'] at h0 h1; rw [h0] at h1; cases h1
  · simp [Array.getElem?_eq_none h'] at h1
/-- z waits for i, or i yields in every world. -/
def waits (ops : Array Oper) (z i : Nat) : Bool := match ops[z]? with
  | some o => o.after.any (fun e => Region.binds .any e && e.on == i)
  | none => false
theorem waits_spec {i j z : Nat} {o : Oper} (h : waits ops z i = true) (ho : ops[j]? = some o) (hn : ∀ e ∈ o.after, Region.binds .any e = true → e.on ≠ i) : j ≠ z := by
  rintro rfl
  unfold waits at h
  rw [ho] at h
  simp only [Array.any_eq_true', Bool.and_eq_true, beq_iff_eq] at h
  obtain ⟨e, he, hb, hi⟩ := h
  exact hn e he hb hi
theorem Held.less {l : Array Bool} {i j : Nat} {w : World} (h : Held ((l.setIfInBounds i true).setIfInBounds j true) z S w) (hz : i ≠ z) : Held (l.setIfInBounds j true) z S w := by
  rcases h with h | h
  · refine .inl ?_
    rcases Decidable.em (j = z) with rfl | hj
    · rcases Nat.lt_or_ge j l.size with h' | h'
      · simp [h']
      · simp at h; omega
    · rw [getD_set_ne false hj] at h ⊢
      rwa [getD_set_ne false hz] at h
  · exact .inr h
/-- An operation that may come up is taken first: it yields the same wherever S holds, and z waits for it; or it yields the same in every world. -/
theorem wpLate_early {i : Nat} {oi : Oper} {v : Value} (T : World → Prop) (hi : ops[i]? = some oi) (hiz : i ≠ z) (hT : (∀ w, T w) ∨ (waits ops z i = true ∧ ∀ w, S w → T w)) (hsel : Region.noSelect ops = true) (hQ : ∀ c a w, Q (.panic c) (a.put oi.dst v) w → Q (.panic c) a w) :
    ∀ (n : Nat) (l : Array Bool) (a : Act) (w : World),
      (∀ j oj, ops[j]? = some oj → j ≠ i → l.getD j true = false → (∀ e ∈ oj.after, Region.binds .any e = true → e.on ≠ i) → oi.apart ops oj = true) →
      i ∈ Region.ready .any ops l → YieldsIf P ops T oi v a → T w → (waits ops z i = true → l.getD z false = false) → Held l z S w →
      wpLate P ops Q S z n (l.setIfInBounds i true) (a.put oi.dst v) w → wpLate P ops Q S z (n + 1) l a w := by
  have hs := Region.noSelect_spec hsel
  have hself : ∀ (l : Array Bool) (w : World), Held l z S w → Held (l.setIfInBounds i true) z S w := fun l w h => by
    rcases h with h | h
    · exact .inl (by rw [getD_set_ne false hiz]; exact h)
    · exact .inr h
  intro n
  induction n with
  | zero =>
    intro l a w _ hr hy hTw _ hH H
    refine ⟨fun e => absurd hr (by rw [e]; simp), fun j hj => ?_⟩
    rcases Decidable.em (j = i) with rfl | hne
    · exact hy.wpOp hi hTw ⟨hself l w hH, H⟩
    · exact absurd (ready_mono hj hne) (by rw [H.1]; simp)
  | succ n ih =>
    intro l a w hfree hr hy hTw hz hH H
    refine ⟨fun e => absurd hr (by rw [e]; simp), fun j hj => ?_⟩
    rcases Decidable.em (j = i) with rfl | hne
    · exact hy.wpOp hi hTw ⟨hself l w hH, H⟩
    obtain ⟨hun, oj, hoj, hall⟩ := mem_ready.1 hj
    have hnw := not_waited hr hall
    have hap := hfree j oj hoj hne hun hnw
    refine wpOp_mono (fun a' w' k => ?_) (wpOp_putIf hoj hap (fun cs b => hs i oi cs b hi) (fun cs b => hs j oj cs b hoj) hQ hy (H.2 j (ready_mono hj hne)))
    obtain ⟨hy', hS', H'⟩ := k
    have hS' := hS'.less hiz
    have hz' : waits ops z i = true → (l.setIfInBounds j true).getD z false = false := fun e => by
      rw [getD_set_ne false (waits_spec e hoj hnw)]
      exact hz e
    have hTw' : T w' := by
      rcases hT with hT | ⟨hT, e⟩
      · exact hT w'
      · rcases hS' with h | h
        · rw [hz' hT] at h; cases h
        · exact e w' h
    refine ⟨hS', ih _ a' w' (fun k ok hk hki hkun hno => hfree k ok hk hki ?_ hno) (ready_mono hr (Ne.symm hne)) hy' hTw' hz' hS' ?_⟩
    · rcases Decidable.em (j = k) with rfl | hjk
      · exact hun
      · rwa [getD_set_ne true hjk] at hkun
    · rw [Array.setIfInBounds_comm _ _ hne]
      exact H'
theorem wp_region_late {id : Nat} {a : Act} {w : World} (hm : P.follows .mixedOrders = true) (h : wpLate P ops Q S z ops.size (Array.replicate ops.size false) a { w with drawn := w.drawn + 1 }) : (Code.region id ops true).wp P Q a w :=
  wp_region_any hm (wpLate_any _ _ _ _ h)
theorem wpLate_done {l : Array Bool} {a : Act} {w : World} (hr : Region.ready .any ops l = []) (h : Q .normal a w) : ∀ n, wpLate P ops Q S z n l a w
  | 0 => ⟨hr, h⟩
  | _ + 1 => ⟨fun _ => h, by rw [hr]; simp⟩

variable {n : Nat} {l : Array Bool} {a : Act} {w : World}
theorem lg_take (i : Nat) (d : Option Tmp) {oi : Oper} {v : Value} (hi : ops[i]? = some oi) (hd : oi.dst = d) (hsel : Region.noSelect ops = true) (hfree : Region.free .any ops l i = true) (hr : (Region.ready .any ops l).contains i = true) (hz : waits ops z i = true) (hl : (decide (i ≠ z) && !(l.getD z false)) = true)
    (hQ : ∀ c a w, Q (.panic c) (a.put d v) w → Q (.panic c) a w) (hw : Region.wanted oi (yielded ops a.tmps) = true) (hS : S w) (hy : ∀ w, S w → (execOp a.eval oi).run P w = .ok (.value v) w)
    (h : wpLate P ops Q S z n (l.setIfInBounds i true) (a.put d v) w) : wpLate P ops Q S z (n + 1) l a w := by
  subst hd
  rw [Bool.and_eq_true, decide_eq_true_eq, Bool.not_eq_true'] at hl
  exact wpLate_early S hi hl.1 (.inr ⟨hz, fun _ h => h⟩) hsel hQ n l a w (Region.free_spec hi hfree) (by simpa using hr) (.inl ⟨hw, hy⟩) hS (fun _ => hl.2) (.inr hS) h
theorem lg_skip (i : Nat) (d : Option Tmp) {oi : Oper} (hi : ops[i]? = some oi) (hd : oi.dst = d) (hsel : Region.noSelect ops = true) (hfree : Region.free .any ops l i = true) (hr : (Region.ready .any ops l).contains i = true) (hz : waits ops z i = true) (hl : (decide (i ≠ z) && !(l.getD z false)) = true)
    (hQ : ∀ c a w, Q (.panic c) (a.put d undef) w → Q (.panic c) a w) (hw : Region.wanted oi (yielded ops a.tmps) = false) (hS : S w)
    (h : wpLate P ops Q S z n (l.setIfInBounds i true) (a.put d undef) w) : wpLate P ops Q S z (n + 1) l a w := by
  subst hd
  rw [Bool.and_eq_true, decide_eq_true_eq, Bool.not_eq_true'] at hl
  exact wpLate_early S hi hl.1 (.inr ⟨hz, fun _ h => h⟩) hsel hQ n l a w (Region.free_spec hi hfree) (by simpa using hr) (.inr ⟨hw, rfl⟩) hS (fun _ => hl.2) (.inr hS) h
/-- What yields in every world. -/
theorem lg_pure (i : Nat) (d : Option Tmp) {oi : Oper} {v : Value} (hi : ops[i]? = some oi) (hd : oi.dst = d) (hsel : Region.noSelect ops = true) (hfree : Region.free .any ops l i = true) (hr : (Region.ready .any ops l).contains i = true) (hl : (decide (i ≠ z) && (!(l.getD z false)) && !(waits ops z i)) = true)
    (hQ : ∀ c a w, Q (.panic c) (a.put d v) w → Q (.panic c) a w) (hw : Region.wanted oi (yielded ops a.tmps) = true) (hS : S w) (hy : ∀ w, (execOp a.eval oi).run P w = .ok (.value v) w)
    (h : wpLate P ops Q S z n (l.setIfInBounds i true) (a.put d v) w) : wpLate P ops Q S z (n + 1) l a w := by
  subst hd
  rw [Bool.and_eq_true, Bool.and_eq_true, decide_eq_true_eq, Bool.not_eq_true'] at hl
  exact wpLate_early (fun _ => True) hi hl.1.1 (.inl fun _ => trivial) hsel hQ n l a w (Region.free_spec hi hfree) (by simpa using hr) (.inl ⟨hw, fun w _ => hy w⟩) trivial (fun _ => hl.1.2) (.inr hS) h
theorem lg_one (i : Nat) {o : Oper} (ho : ops[i]? = some o) (hr : Region.ready .any ops l = [i]) (hw : Region.wanted o (yielded ops a.tmps) = true)
    (h : o.wp P a w (fun a' w' => Held (l.setIfInBounds i true) z S w' ∧ wpLate P ops Q S z n (l.setIfInBounds i true) a' w') Q) : wpLate P ops Q S z (n + 1) l a w := by
  refine ⟨fun e => by rw [hr] at e; simp at e, fun j hj => ?_⟩
  rw [hr] at hj
  obtain rfl : j = i := by simpa using hj
  unfold wpOp
  rw [ho]
  dsimp only
  rw [if_pos hw]
  exact .inl h
theorem lg_run (i : Nat) (d : Option Tmp) {o : Oper} {v : Value} {w2 : World} (ho : ops[i]? = some o) (hd : o.dst = d) (hr : Region.ready .any ops l = [i]) (hw : Region.wanted o (yielded ops a.tmps) = true)
    (hS : Held (l.setIfInBounds i true) z S w2) (hy : (execOp a.eval o).run P w = .ok (.value v) w2) (h : wpLate P ops Q S z n (l.setIfInBounds i true) (a.put d v) w2) : wpLate P ops Q S z (n + 1) l a w := by
  subst hd
  refine lg_one i ho hr hw ?_
  simp only [Oper.wp, hy, Oper.upon]
  exact ⟨hS, h⟩
end
end Go.Proofs.Ytidcmolkolcliaa
