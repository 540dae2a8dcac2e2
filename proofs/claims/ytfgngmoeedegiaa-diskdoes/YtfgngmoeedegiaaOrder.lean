/-
  A region that draws its order, walked in one order of our own choice: reads that yield the same wherever S holds are taken first, the other operations are carried out where nothing else may come up.
-/
import Derived.Test.YtfgngmoeedegiaaSurv
import Derived.OrdersHeld
namespace Go.Proofs.Ytfgngmoeedegiaa
open Go Go.RowKit

/-- One operation alone may come up: it is carried out. -/
theorem held_one {P : Program} {md : Region.Mode} {ops : Array Oper} {Q : Exit → Act → World → Prop} {S : World → Prop} {fuel : Nat} {listed : Array Bool} {a : Act} {w : World} (i : Nat) {o : Oper} (ho : ops[i]? = some o)
    (hr : Region.ready md ops listed = [i]) (hw : Region.wanted o (yielded ops a.tmps) = true) (h : o.wp P a w (fun a' w' => S w' ∧ wpAnyH P md ops Q S fuel (listed.setIfInBounds i true) a' w') Q) : wpAnyH P md ops Q S (fuel + 1) listed a w := by
  refine wpAnyH_all hr (by simp) (fun j hj => ?_)
  obtain rfl : j = i := by simpa using hj
  unfold wpOp
  rw [ho]
  dsimp only
  rw [if_pos hw]
  exact .inl h

/-- Does this order fit the region? 'true': taken first; 'false': carried out, nothing else being ready. -/
def orderB (ops : Array Oper) : List (Nat × Bool) → Array Bool → Bool
  | [], listed => (Region.ready .any ops listed).isEmpty
  | (i, true) :: r, listed => (Region.ready .any ops listed).contains i && Region.free .any ops listed i && orderB ops r (listed.setIfInBounds i true)
  | (i, false) :: r, listed => decide (Region.ready .any ops listed = [i]) && orderB ops r (listed.setIfInBounds i true)

def wpSeq (P : Program) (ops : Array Oper) (Q : Exit → Act → World → Prop) (S : World → Prop) : List (Nat × Bool) → Act → World → Prop
  | [], a, w => Q .normal a w
  | (i, true) :: r, a, w => ∃ o v, ops[i]? = some o ∧ YieldsIf P ops S o v a ∧ S w ∧ wpSeq P ops Q S r (a.put o.dst v) w
  | (i, false) :: r, a, w => ∃ o, ops[i]? = some o ∧ Region.wanted o (yielded ops a.tmps) = true ∧ o.wp P a w (fun a' w' => S w' ∧ wpSeq P ops Q S r a' w') Q

theorem held_of_seq {P : Program} {ops : Array Oper} {Q : Exit → Act → World → Prop} {S : World → Prop} (hsel : Region.noSelect ops = true) (hQ : ∀ c a a' w, Q (.panic c) a w → Q (.panic c) a' w) :
    ∀ (l : List (Nat × Bool)) (listed : Array Bool) (a : Act) (w : World), orderB ops l listed = true → wpSeq P ops Q S l a w → wpAnyH P .any ops Q S l.length listed a w
  | [], listed, a, w, hB, h => ⟨by simpa [orderB] using hB, h⟩
  | (i, true) :: r, listed, a, w, hB, h => by
    simp only [orderB, Bool.and_eq_true] at hB
    obtain ⟨o, v, ho, hy, hS, hr⟩ := h
    exact wpAnyH_take ho hsel hB.1.2 hB.1.1 (fun c a w => hQ c _ _ w) hy hS (held_of_seq hsel hQ r _ _ _ hB.2 hr)
  | (i, false) :: r, listed, a, w, hB, h => by
    simp only [orderB, Bool.and_eq_true, decide_eq_true_eq] at hB
    obtain ⟨o, ho, hw, hwp⟩ := h
    exact held_one i ho hB.1 hw (Oper.wp_mono (fun a' w' hh => ⟨hh.1, held_of_seq hsel hQ r _ _ _ hB.2 hh.2⟩) hwp)

/-- What is asked of an operation, by a table of the region. -/
theorem spec_at {ops : Array Oper} {L : List (Option Tmp × Op × Option (Nat × Bool))} (h : ops.toList.map (fun o => (o.dst, o.op, o.guard)) = L) {i : Nat} {d : Option Tmp} {p : Op} {q : Option (Nat × Bool)} (e : L[i]? = some (d, p, q)) :
    ∃ o, ops[i]? = some o ∧ o.dst = d ∧ o.op = p ∧ o.guard = q := by
  rw [← h, List.getElem?_map, Array.getElem?_toList] at e
  cases ho : ops[i]? with
  | none => rw [ho] at e; cases e
  | some o =>
    rw [ho] at e
    simp only [Option.map_some, Option.some.injEq, Prod.mk.injEq] at e
    exact ⟨o, rfl, e.1, e.2.1, e.2.2⟩
theorem wanted_of {ops : Array Oper} {o : Oper} {ts : Array Value} (h : o.guard = none) : Region.wanted o (yielded ops ts) = true := by simp [Region.wanted, h]

/-- A read that is taken first. -/
theorem seq_take {P : Program} {ops : Array Oper} {Q : Exit → Act → World → Prop} {S : World → Prop} {i : Nat} {r : List (Nat × Bool)} {a : Act} {w : World} {L : List (Option Tmp × Op × Option (Nat × Bool))} (h : ops.toList.map (fun o => (o.dst, o.op, o.guard)) = L) (d : Tmp) (p : Op)
    (e : L[i]? = some (some d, p, none)) (v : Value) (hy : ∀ o : Oper, o.op = p → ∀ w, S w → (execOp a.eval o).run P w = .ok (.value v) w) (hS : S w) (hr : wpSeq P ops Q S r (a.put (some d) v) w) : wpSeq P ops Q S ((i, true) :: r) a w := by
  obtain ⟨o, ho, hd, hp, hg⟩ := spec_at h e
  refine ⟨o, v, ho, .inl ⟨wanted_of hg, hy o hp⟩, hS, ?_⟩
  rw [hd]
  exact hr
theorem seq_one {P : Program} {ops : Array Oper} {Q : Exit → Act → World → Prop} {S : World → Prop} {i : Nat} {r : List (Nat × Bool)} {a : Act} {w : World} {L : List (Option Tmp × Op × Option (Nat × Bool))} (h : ops.toList.map (fun o => (o.dst, o.op, o.guard)) = L) (d : Option Tmp) (p : Op)
    (e : L[i]? = some (d, p, none)) (hw : ∀ o : Oper, o.dst = d → o.op = p → o.wp P a w (fun a' w' => S w' ∧ wpSeq P ops Q S r a' w') Q) : wpSeq P ops Q S ((i, false) :: r) a w := by
  obtain ⟨o, ho, hd, hp, hg⟩ := spec_at h e
  exact ⟨o, ho, wanted_of hg, hw o hd hp⟩
end Go.Proofs.Ytfgngmoeedegiaa
