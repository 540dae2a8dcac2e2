/-
  On which blocks a transaction depends; a row of changes of the law's own beside it.
-/
import Derived.Test.YtidcmolkolcliaaXMy
import Derived.Test.YtidcmolkolcliaaXTwo
namespace Go.Proofs.Ytidcmolkolcliaa
open Go Go.RowKit

/-- It depends on nothing outside the blocks from N on and below M. -/
def Dep (N M : Nat) (w : World) (u : TxD) : Prop := ∀ (w' : World) (F : Nat → Prop), Mod F w w' → (∀ k, F k → k < N ∨ M ≤ k) → u.At w'
section
variable {N M b0 base g : Nat} {F : Nat → Prop} {w w' : World} {u z : TxD} {A : Option Addr} {n c : Nat} {l : List ChD}
theorem Dep.keep (h : Dep N M w u) (hm : Mod F w w') (hF : ∀ k, F k → k < N ∨ M ≤ k) : Dep N M w' u := fun w2 G hg hG =>
  h w2 (fun k => F k ∨ G k) ((hm.mono (fun _ _ h => .inl h)).trans hg (fun _ _ h => .inr h)) (fun k hk => hk.elim (hF k) (hG k))
theorem Dep.still (h : Dep N M w u) (hm : Mod (fun _ => False) w w') : Dep N M w' u := h.keep hm (fun _ h => h.elim)
theorem Dep.old (h : u.At w) : Dep 0 w.heap.size w u := fun w' F hm hF => h.keep (hm.mono (fun k hk hf => by have := hF k hf; omega))
theorem Dep.own (h : u.Own w base) : Dep base w.heap.size w u := fun w' F hm hF => by
  have out : ∀ k, base ≤ k ∧ k < w.heap.size → ¬ F k := fun k hk hf => by have := hF k hf; omega
  have ho : u.Own w' base := ⟨OwN.mod h.L hm (fun k hk => out k (OwN.lt h.L k hk)), fun y hy => ⟨OwV.mod (h.vals y hy).o hm (fun k hk => out k (OwV.lt (h.vals y hy).o k hk)), OwV.mod (h.vals y hy).v hm (fun k hk => out k (OwV.lt (h.vals y hy).v k hk))⟩, OwV.mod h.S hm (fun k hk => out k (OwV.lt h.S k hk))⟩
  exact ho.at_
/-- Blocks that hold changes turn. -/
theorem Kp.row (h : Kp b0 w u) (hd : Dep N M w u) (hm : Mod F w w') (hF : ∀ k, F k → k < N ∨ M ≤ k) (ht : ∀ k, F k → ∃ cs fr, w.heap[k]? = some (.cells cs 30 fr)) : Kp b0 w' u := by
  refine ⟨hd w' F hm hF, fun k hk hp => ?_⟩
  rcases h.s k hk hp with hl | ⟨cs, fr, hc⟩
  · exact .inl hl
  · by_cases hf : F k
    · obtain ⟨cs2, fr2, hc2⟩ := ht k hf
      rw [hc] at hc2
      injection hc2 with hc2
      injection hc2 with _ hc2
      exact absurd hc2 (by decide)
    · exact .inr ⟨cs, fr, (hm.block k (Array.getElem?_eq_some_iff.1 hc).1 hf).trans hc⟩
theorem OwC.typed (h : OwC w base A n c l) : ∀ k, blkOf A = some k → ∃ cs fr, w.heap[k]? = some (.cells cs 30 fr) := fun k hk => by
  obtain ⟨cs, hc⟩ := OwN.blk h hk
  exact ⟨cs, _, hc⟩
theorem OwC.notBox (h : OwC w base A n c l) (hz : z.In w g) : ¬ blkOf A = some g := fun hk => by
  obtain ⟨cs, hc⟩ := OwN.blk h hk
  have := hz.symm.trans hc
  injection this with this
  injection this with _ this
  exact absurd this (by decide)
theorem OwC.more {x : ChD} (h : OwN w base 30 7 A (n + 1) c (chs l ++ chc x)) : OwC w base A (n + 1) c (l ++ [x]) := by
  show OwN w base 30 7 A (n + 1) c (chs (l ++ [x]))
  rw [chs_append]
  simpa [chs] using h
/-- One more change behind: the frame that the next round needs. -/
theorem Dep.sep {A' : Option Addr} {k0 : Nat} (h0 : ∀ k, blkOf A = some k → k < N ∨ M ≤ k) (h : blkOf A' = blkOf A ∨ blkOf A' = some k0) (hM : M ≤ k0) : ∀ k, blkOf A' = some k → k < N ∨ M ≤ k := fun k hk => by
  rcases h with e | e
  · exact h0 k (e ▸ hk)
  · rw [e] at hk
    obtain rfl : k0 = k := by simpa using hk
    exact .inr hM
theorem NwAns.dn {w w' : World} {E : Int} {T : Tp} {e : Ending} (h : NwAns w w' E T e) :
    ∃ y : TxD, e = .returned (.tuple #[.agg #[.int .i64 y.id, .int .i64 y.st, .int .i64 y.f, .int .i64 y.l, .slice y.A y.n y.c, .slice y.B y.m y.d], .int .i64 E]) ∧ Kp b0 w' y ∧ y.p = (if E = 0 then T else noT) ∧ Mod (fun _ => False) w w' ∧ Dep w.heap.size w'.heap.size w' y := by
  obtain ⟨y, h1, h2, h3, h4⟩ := h
  exact ⟨y, h1, h2.kp, h3, h4, Dep.own h2⟩
/-- What is undone of what was noted. -/
theorem bk_undo {x v : Tp} (hx : mayT x = true) {d : List Cp} {y : Cp} (hL : v.L = x.L ++ (d ++ [y])) (hS : v.S = x.S) : (undoT v).L = x.L ++ d ∧ (undoT v).S = x.S ∧ undoC v = y := by
  obtain ⟨i, s, f, l, L, S⟩ := v
  have hL : L = x.L ++ (d ++ [y]) := hL
  have hS : S = x.S := hS
  subst hL hS
  rw [← List.append_assoc]
  have h := undo_noted i s f l (x.L ++ d) x.S y (fun z hz => by have := may_below hx z hz; rw [List.length_append]; omega)
  rw [h.1, h.2]
  exact ⟨rfl, rfl, rfl⟩
theorem bk_back {x v : Tp} (hi : v.id = x.id) (hs : v.st = x.st) (hL : v.L = x.L) (hS : v.S = x.S) : x = ⟨v.id, v.st, x.f, x.l, v.L, v.S⟩ := by rw [hi, hs, hL, hS]
end
end Go.Proofs.Ytidcmolkolcliaa
