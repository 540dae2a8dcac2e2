/-
  A region that draws its order, walked by hand, operation by operation, in one order of our own choice (what is taken first yields the same wherever S holds; a guard may say no; of what is left one alone may come up).
-/
import Derived.WalkKit
import Derived.Lib.Hide
import Derived.Deep.RegionHeld3
namespace Go.Proofs.Ytpkjafadhnecfaa
open Go Go.RowKit

section
variable {P : Program} {ops : Array Oper} {Q : Exit → Act → World → Prop} {S : World → Prop} {n : Nat} {l : Array Bool} {a : Act} {w : World}
theorem rg_take (i : Nat) (d : Option Tmp) {oi : Oper} {v : Value} (hi : ops[i]? = some oi) (hd : oi.dst = d) (hsel : Region.noSelect ops = true) (hfree : Region.free .any ops l i = true) (hr : (Region.ready .any ops l).contains i = true)
    (hQ : ∀ c a w, Q (.panic c) (a.put d v) w → Q (.panic c) a w) (hw : Region.wanted oi (yielded ops a.tmps) = true) (hS : S w) (hy : ∀ w, S w → (execOp a.eval oi).run P w = .ok (.value v) w)
    (h : wpAnyH P .any ops Q S n (l.setIfInBounds i true) (a.put d v) w) : wpAnyH P .any ops Q S (n + 1) l a w := by
  subst hd
  exact wpAnyH_take hi hsel hfree hr hQ (.inl ⟨hw, hy⟩) hS h
theorem rg_skip (i : Nat) (d : Option Tmp) {oi : Oper} (hi : ops[i]? = some oi) (hd : oi.dst = d) (hsel : Region.noSelect ops = true) (hfree : Region.free .any ops l i = true) (hr : (Region.ready .any ops l).contains i = true)
    (hQ : ∀ c a w, Q (.panic c) (a.put d undef) w → Q (.panic c) a w) (hw : Region.wanted oi (yielded ops a.tmps) = false) (hS : S w)
    (h : wpAnyH P .any ops Q S n (l.setIfInBounds i true) (a.put d undef) w) : wpAnyH P .any ops Q S (n + 1) l a w := by
  subst hd
  exact wpAnyH_take hi hsel hfree hr hQ (.inr ⟨hw, rfl⟩) hS h
theorem rg_one (i : Nat) {o : Oper} (ho : ops[i]? = some o) (hr : Region.ready .any ops l = [i]) (hw : Region.wanted o (yielded ops a.tmps) = true)
    (h : o.wp P a w (fun a' w' => S w' ∧ wpAnyH P .any ops Q S n (l.setIfInBounds i true) a' w') Q) : wpAnyH P .any ops Q S (n + 1) l a w := by
  refine wpAnyH_all hr (by simp) (fun j hj => ?_)
  obtain rfl : j = i := by simpa using hj
  unfold wpOp
  rw [ho]
  dsimp only
  rw [if_pos hw]
  exact .inl h
/-- An operation that runs to its end in the world at hand, alone. -/
theorem rg_run (i : Nat) (d : Option Tmp) {o : Oper} {v : Value} {w2 : World} (ho : ops[i]? = some o) (hd : o.dst = d) (hr : Region.ready .any ops l = [i]) (hw : Region.wanted o (yielded ops a.tmps) = true)
    (hS : S w2) (hy : (execOp a.eval o).run P w = .ok (.value v) w2) (h : wpAnyH P .any ops Q S n (l.setIfInBounds i true) (a.put d v) w2) : wpAnyH P .any ops Q S (n + 1) l a w := by
  subst hd
  refine rg_one i ho hr hw ?_
  simp only [Oper.wp, hy, Oper.upon]
  exact ⟨hS, h⟩
/-- A load, a comparison, alone, in the world at hand. -/
theorem rg_pure (i : Nat) {o : Oper} {v : Value} (ho : ops[i]? = some o) (hr : Region.ready .any ops l = [i]) (hw : Region.wanted o (yielded ops a.tmps) = true)
    (hy : (execOp a.eval o).run P w = .ok (.value v) w) (hS : S w) (h : wpAnyH P .any ops Q S n (l.setIfInBounds i true) (a.put o.dst v) w) : wpAnyH P .any ops Q S (n + 1) l a w := by
  refine rg_one i ho hr hw ?_
  simp only [Oper.wp, hy, Oper.upon]
  exact ⟨hS, h⟩
/-- Two that may come up at once. -/
theorem rg_two (i j : Nat) {o p : Oper} (ho : ops[i]? = some o) (hp : ops[j]? = some p) (hr : Region.ready .any ops l = [i, j]) (hw : Region.wanted o (yielded ops a.tmps) = true) (hw2 : Region.wanted p (yielded ops a.tmps) = true)
    (h : o.wp P a w (fun a' w' => S w' ∧ wpAnyH P .any ops Q S n (l.setIfInBounds i true) a' w') Q)
    (h2 : p.wp P a w (fun a' w' => S w' ∧ wpAnyH P .any ops Q S n (l.setIfInBounds j true) a' w') Q) : wpAnyH P .any ops Q S (n + 1) l a w := by
  refine wpAnyH_all hr (by simp) (fun k hk => ?_)
  rcases (by simpa using hk : k = i ∨ k = j) with e | e
  · subst e
    unfold wpOp
    rw [ho]
    dsimp only
    rw [if_pos hw]
    exact .inl h
  · subst e
    unfold wpOp
    rw [hp]
    dsimp only
    rw [if_pos hw2]
    exact .inl h2
end
end Go.Proofs.Ytpkjafadhnecfaa
