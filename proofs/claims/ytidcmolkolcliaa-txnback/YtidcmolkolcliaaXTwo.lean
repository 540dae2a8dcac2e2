/-
  Two operations of a drawn region that may come up, one or the other.
-/
import Derived.Test.YtidcmolkolcliaaXOrd
namespace Go.Proofs.Ytidcmolkolcliaa
open Go Go.RowKit
section
variable {P : Program} {ops : Array Oper} {Q : Exit → Act → World → Prop} {S : World → Prop} {n : Nat} {l : Array Bool} {a : Act} {w : World}
theorem rg_two (i j : Nat) {o p : Oper} (ho : ops[i]? = some o) (hp : ops[j]? = some p) (hr : Region.ready .any ops l = [i, j]) (hw : Region.wanted o (yielded ops a.tmps) = true) (hw2 : Region.wanted p (yielded ops a.tmps) = true)
    (h : o.wp P a w (fun a' w' => S w' ∧ wpAnyH P .any ops Q S n (l.setIfInBounds i true) a' w') Q)
    (h2 : p.wp P a w (fun a' w' => S w' ∧ wpAnyH P .any ops Q S n (l.setIfInBounds j true) a' w') Q) : wpAnyH P .any ops Q S (n + 1) l a w := by
  refine wpAnyH_all hr (by simp) (fun k hk => ?_)
  rcases (by simpa using hk : k = i ∨ k = j) with e | e
  · subst e
    unfold wpOp
    rw [ho]
    dsimp only
    rw [if_pos hw]
    exact .inl h
  · subst e
    unfold wpOp
    rw [hp]
    dsimp only
    rw [if_pos hw2]
    exact .inl h2
end
end Go.Proofs.Ytidcmolkolcliaa
