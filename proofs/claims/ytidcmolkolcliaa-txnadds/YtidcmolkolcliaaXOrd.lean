/-
  A region that draws its order, walked by hand, operation by operation, in one order of our own choice (what is taken first yields the same wherever S holds; a guard may say no; of what is left one alone may come up).
-/
import Derived.Test.YtidcmolkolcliaaXRow
import Derived.Deep.RegionHeld3
namespace Go.Proofs.Ytidcmolkolcliaa
open Go Go.RowKit

section
variable {P : Program} {ops : Array Oper} {Q : Exit → Act → World → Prop} {S : World → Prop} {n : Nat} {l : Array Bool} {a : Act} {w : World}
theorem rg_take (i : Nat) (d : Option Tmp) {oi : Oper} {v : Value} (hi : ops[i]? = some oi) (hd : oi.dst = d) (hsel : Region.noSelect ops = true) (hfree : Region.free .any ops l i = true) (hr : (Region.ready .any ops l).contains i = true)
    (hQ : ∀ c a w, Q (.panic c) (a.put d v) w → Q (.panic c) a w) (hw : Region.wanted oi (yielded ops a.tmps) = true) (hS : S w) (hy : ∀ w, S w → (execOp a.eval oi).run P w = .ok (.value v) w)
    (h : wpAnyH P .any ops Q S n (l.setIfInBounds i true) (a.put d v) w) : wpAnyH P .any ops Q S (n + 1) l a w := by
  subst hd
  exact wpAnyH_take hi hsel hfree hr hQ (.inl ⟨hw, hy⟩) hS h
theorem rg_skip (i : Nat) (d : Option Tmp) {oi : Oper} (hi : ops[i]? = some oi) (hd : oi.dst = d) (hsel : Region.noSelect ops = true) (hfree : Region.free .any ops l i = true) (hr : (Region.ready .any ops l).contains i = true)
    (hQ : ∀ c a w, Q (.panic c) (a.put d undef) w → Q (.panic c) a w) (hw : Region.wanted oi (yielded ops a.tmps) = false) (hS : S w)
    (h : wpAnyH P .any ops Q S n (l.setIfInBounds i true) (a.put d undef) w) : wpAnyH P .any ops Q S (n + 1) l a w := by
  subst hd
  exact wpAnyH_take hi hsel hfree hr hQ (.inr ⟨hw, rfl⟩) hS h
theorem rg_one (i : Nat) {o : Oper} (ho : ops[i]? = some o) (hr : Region.ready .any ops l = [i]) (hw : Region.wanted o (yielded ops a.tmps) = true)
    (h : o.wp P a w (fun a' w' => S w' ∧ wpAnyH P .any ops Q S n (l.setIfInBounds i true) a' w') Q) : wpAnyH P .any ops Q S (n + 1) l a w := by
  refine wpAnyH_all hr (by simp) (fun j hj => ?_)
  obtain rfl : j = i := by simpa using hj
  unfold wpOp
  rw [ho]
  dsimp only
  rw [if_pos hw]
  exact .inl h
/-- An operation that runs to its end in the world at hand, alone. -/
theorem rg_run (i : Nat) (d : Option Tmp) {o : Oper} {v : Value} {w2 : World} (ho : ops[i]? = some o) (hd : o.dst = d) (hr : Region.ready .any ops l = [i]) (hw : Region.wanted o (yielded ops a.tmps) = true)
    (hS : S w2) (hy : (execOp a.eval o).run P w = .ok (.value v) w2) (h : wpAnyH P .any ops Q S n (l.setIfInBounds i true) (a.put d v) w2) : wpAnyH P .any ops Q S (n + 1) l a w := by
  subst hd
  refine rg_one i ho hr hw ?_
  simp only [Oper.wp, hy, Oper.upon]
  exact ⟨hS, h⟩
/-- A store, alone. -/
theorem rg_upd (i : Nat) (d : Option Tmp) {o : Oper} {w2 : World} (ho : ops[i]? = some o) (hd : o.dst = d) (hr : Region.ready .any ops l = [i]) (hw : Region.wanted o (yielded ops a.tmps) = true)
    (hS : S w2) (hy : (execOp a.eval o).run P w = .ok .skip w2) (h : wpAnyH P .any ops Q S n (l.setIfInBounds i true) (a.put d undef) w2) : wpAnyH P .any ops Q S (n + 1) l a w := by
  subst hd
  refine rg_one i ho hr hw ?_
  simp only [Oper.wp, hy, Oper.upon]
  exact ⟨hS, h⟩
/-- A load, a comparison, alone, in the world at hand. -/
theorem rg_pure (i : Nat) {o : Oper} {v : Value} (ho : ops[i]? = some o) (hr : Region.ready .any ops l = [i]) (hw : Region.wanted o (yielded ops a.tmps) = true)
    (hy : (execOp a.eval o).run P w = .ok (.value v) w) (hS : S w) (h : wpAnyH P .any ops Q S n (l.setIfInBounds i true) (a.put o.dst v) w) : wpAnyH P .any ops Q S (n + 1) l a w := by
  refine rg_one i ho hr hw ?_
  simp only [Oper.wp, hy, Oper.upon]
  exact ⟨hS, h⟩
end
/-- An append, a store into a map: what they yield. -/
theorem exec_app {P : Program} {o : Oper} {a : Act} {w w2 : World} {s x : Operand} {t : TypeId} {u v r : Value} (ho : o.op = .call { callee := .builtin .append, args := #[s, x], argTypes := #[t, t] })
    (hes : a.eval s = u) (hex : a.eval x = v) (hr : (Builtin.append_ #[t, t] o.type #[u, v]).run P w = .ok r w2) : (execOp a.eval o).run P w = .ok (.value r) w2 := by
  unfold execOp
  simp only [ho, resolve, invoke, builtin, Sem.run_bind, Sem.run_pure, Result.andThen_ok, List.map_toArray, List.map_cons, List.map_nil, hes, hex, hr]
theorem exec_upd {P : Program} {o : Oper} {a : Act} {w w2 : World} {m x v : Operand} {t : TypeId} {u y z : Value} (ho : o.op = Op.mapUpdate t m x v)
    (hm : a.eval m = u) (hx : a.eval x = y) (hv : a.eval v = z) (hr : (Instr.mapUpdate t u y z).run P w = .ok () w2) : (execOp a.eval o).run P w = .ok .skip w2 := by
  simp [execOp, ho, hm, hx, hv, hr, Result.andThen]
end Go.Proofs.Ytidcmolkolcliaa
