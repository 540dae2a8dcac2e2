/-
  In a round of a range over a function: a region that draws its order, of reads and then a chain of steps, is walked as anywhere else.
-/
import Derived.Test.YtfgngmoeedegiaaKept
import Derived.RangeFuncNested
import Derived.RangeFuncBound
import Derived.RangeFuncCalls
import Derived.RangeFuncLeaves
import Derived.StillTailTactics
import Derived.OrdersIn
namespace Go.Proofs.Ytfgngmoeedegiaa
open Go Go.RowKit

section
variable {P : Program} {Q : Exit → Act → World → Prop} {l n : Nat}

theorem roundOper {o : Oper} {a : Act} {w : World} {K : Act → World → Prop} (hd : ∀ c, o.op ≠ .defer c) (h : o.wp P a w K Q) : o.wpIn (Fence.wide.inRound l) n P a w K Q := by
  refine ⟨fun _ _ => trivial, ?_⟩
  rw [Oper.semAt_eq _ _ _ hd]
  unfold Oper.wp at h
  generalize (execOp a.eval o).run P w = r at h
  cases r with
  | ok x w' =>
    cases x with
    | enter f args => exact ⟨fun q => (by cases q), CallsIn.inRound l (callsIn_wide.2 h)⟩
    | row row args =>
      refine ⟨fun q => (by cases q), fun c cs _ => ?_⟩
      obtain ⟨v, w'', hr, hs⟩ := h c cs
      exact ⟨v, w'', hr, stepsIn_wide.2 hs⟩
    | value v => exact h
    | skip => exact h
    | defer d => exact h
    | _ => exact h.elim
  | halt x w' => cases x <;> first | exact h | exact h.elim

theorem roundOps {md : Region.Mode} {ops : Array Oper} (hd : ∀ (i : Nat) (o : Oper), ops[i]? = some o → ∀ c, o.op ≠ .defer c) (hQ : ¬ LetsOut Q) :
    ∀ (fuel : Nat) (listed : Array Bool) (a : Act) (w : World), wpAny P md ops Q fuel listed a w → wpAnyIn (Fence.wide.inRound l) n P md ops Q fuel listed a w
  | 0, _, _, _, h => h
  | fuel + 1, listed, a, w, h => by
    refine ⟨h.1, fun i hi => ?_⟩
    have h1 := h.2 i hi
    unfold wpOp at h1
    unfold wpOpIn
    cases ho : ops[i]? with
    | none => rw [ho] at h1; exact roundOps hd hQ fuel _ _ _ h1
    | some o =>
      rw [ho] at h1
      dsimp only at h1 ⊢
      by_cases hw : Region.wanted o (yielded ops a.tmps) = true
      · rw [if_pos hw] at h1 ⊢
        rcases h1 with h1 | h1
        · exact Oper.wpIn_mono (fun a' w' h2 => roundOps hd hQ fuel _ _ _ h2) (roundOper (hd i o ho) h1)
        · exact absurd h1.2 hQ
      · rw [if_neg hw] at h1 ⊢
        exact ⟨fun _ _ => trivial, roundOps hd hQ fuel _ _ _ h1⟩

/-- Reads first, in whatever order; behind them a chain: walked in the text's order. -/
theorem round_still_tail {id : Nat} {a : Act} {w : World} {L : List Oper} (m : Nat) (hm : P.follows .mixedOrders = true) (hB : Region.lexTailB .any L.toArray m = true) (hd : ∀ o ∈ L, ∀ c, o.op ≠ .defer c) (hQ : ¬ LetsOut Q)
    (h : wpStill P L.toArray { w with drawn := w.drawn + 1 } (fun a' => wpList P L.toArray Q (L.drop m) a' { w with drawn := w.drawn + 1 }) (L.take m) a) : (Code.region id L.toArray true).wpIn (Fence.wide.inRound l) n P Q a w := by
  refine wpIn_region_any hm (roundOps (fun i o ho => hd o (by rw [List.getElem?_toArray] at ho; exact List.mem_of_getElem? ho)) hQ _ _ _ _ ?_)
  generalize ({ w with drawn := w.drawn + 1 } : World) = W at h ⊢
  unfold Region.lexTailB at hB
  rw [Bool.and_eq_true, Bool.and_eq_true, Bool.and_eq_true, Bool.and_eq_true, decide_eq_true_eq] at hB
  obtain ⟨⟨⟨⟨b1, b2⟩, b3⟩, b4⟩, b5⟩ := hB
  have hsz : L.toArray.size = L.length := List.size_toArray
  have hml : m < L.length := by omega
  have hlen : (L.take m).length = m := by rw [List.length_take]; omega
  have hrest : (L.drop m).length = L.toArray.size - m := by rw [List.length_drop, hsz]
  have start : HeadInv .any L.toArray m (Array.replicate L.toArray.size false) := by
    refine ⟨Array.size_replicate, fun j oj _ hl => ?_, fun t _ ht => ?_⟩
    · rw [getD_replicate_false] at hl; cases hl
    · exact getD_in (by rw [Array.size_replicate]; exact ht) (getD_replicate_false _ _)
  have headWalk := wpAnyL_lex (md := .any) (g := L.toArray.size - m) b1 b3 b4 b2 (L.take m) 0 _ a
    (fun j hj => by rw [hlen] at hj; rw [Nat.zero_add, List.getElem?_toArray, List.getElem?_take, if_pos hj]) (by rw [Nat.zero_add]; exact hlen) start (by rw [hlen]; exact b5) h
  have tailWalk : ∀ (listed : Array Bool) (a' : Act), (Region.seqB .any L.toArray (L.toArray.size - m) m listed = true ∧ wpList P L.toArray Q (L.drop m) a' W) → wpAny P .any L.toArray Q (L.toArray.size - m) listed a' W := by
    rintro listed a' ⟨s1, s2⟩
    rw [← hrest] at s1 ⊢
    exact wpAny_of_seq (L.drop m) m listed a' W (fun j => by rw [List.getElem?_drop, List.getElem?_toArray]) s1 s2
  have both := wpAny_of_head tailWalk _ _ _ headWalk
  rw [hlen, Nat.add_sub_cancel' (Nat.le_of_lt b2)] at both
  exact both
end
end Go.Proofs.Ytfgngmoeedegiaa
