/-
  A range over a function whose iterator may turn whatever blocks are its own, and whose rounds write nothing, but for the one that returns: a law of our own.
-/
import Derived.Test.YtbdfolopnocjmaaGStl
import Derived.RangeFuncNested
import Derived.RangeFuncLeaves
namespace Go.Proofs.Ytbdfolopnocjmaa
open Go Go.RowKit

/-- The iterator's contract. l: the loop's record. -/
def SeqR {α : Type} (F : Fence) (n : Nat) (P : Program) (g : Nat) (lb : Array Value) (encs : α → Array Value) (S Sp : List α → Prop) (w : World) : Prop :=
  ∀ (l : Nat) (J Jx : List α → World → Prop) (W : World), Mod (fun _ => False) w W → w.heap.size ≤ l → l < W.heap.size →
    (∀ s X Y, J s X → Mod (fun k => W.heap.size ≤ k) X Y → J s Y) → (∀ s X Y, Jx s X → Mod (fun k => W.heap.size ≤ k) X Y → Jx s Y) →
    (∀ pre x X, J pre X → YieldAt F (n - 1) P l (encs x) X fun e Y => (e = .returned (.bool true) ∧ J (pre ++ [x]) Y ∧ Mod (fun k => k = l) X Y) ∨ (e = .returned (.bool false) ∧ Jx (pre ++ [x]) Y)) →
    J [] W →
    CallsIn F n P g (#[.func (.yield l) #[] #[]] ++ lb) W fun e Y => (∃ v, e = .returned v) ∧ ((∃ xs, S xs ∧ J xs Y) ∨ (∃ pre, Sp pre ∧ Jx pre Y))

/-- How a round ends. -/
def postR {α : Type} (B : Nat) (p : List α → Prop) (q : List α → World → Prop) (xs : List α) (W : World) : Exit → Act → World → Prop
  | .normal, _, Y => Y = W ∧ p xs
  | .ret, _, Y => q xs Y ∧ Y.heap.size = W.heap.size ∧ ∀ k, B ≤ k → Y.heap[k]? = W.heap[k]?
  | _, _, _ => False

theorem mod_putObj (W : World) (l : Nat) (o : Obj) : Mod (fun k => k = l) W (W.putObj l o) := (Mod.refl _ W).grown (grownBy_putObj' W l o) (fun k e _ => by injection e with e; exact e.symm)

section
variable {F : Fence} {n : Nat} {P : Program}
set_option maxHeartbeats 1000000 in
theorem wpIn_rangeFunc_R {α : Type} {g : Operand} {ps : Array Tmp} {assign body : Code} {Q : Exit → Act → World → Prop} {a : Act} {w : World}
    (hro : F.round = none) (h1 : 1 ≤ n) {gf : Nat} {lb : Array Value} (hg : a.eval g = .func (.func gf) #[] lb) (hFg : F.fn gf) (eg : ∀ args w, (callFunc gf args).run P w = .ok (.enter gf args) w)
    {encs : α → Array Value} {S Sp : List α → Prop} (hseq : SeqR F (n - 1) P gf lb encs S Sp w) (hps : ∀ x, (encs x).size = ps.size)
    (p : List α → Prop) (q : List α → World → Prop) (hq : ∀ xs X Y, q xs X → Mod (fun k => w.heap.size ≤ k) X Y → q xs Y) (h0 : p []) (a₁ : α → Act)
    (hassign : ∀ (l : Nat) (x : α) (W : World) (K : Act → World → Prop), K (a₁ x) W →
      assign.wpIn (F.inRound l) (n - 1 - 1) P (Exit.then K (fun _ _ _ => False)) { tmps := (ps.zip (encs x)).foldl (fun t (p, v) => t.setIfInBounds p v) a.tmps, defers := [] } W)
    (hbody : ∀ (l : Nat) (pre : List α) (x : α) (W : World), Mod (fun k => w.heap.size ≤ k) w W → p pre → body.wpIn (F.inRound l) (n - 1 - 1) P (postR w.heap.size p q (pre ++ [x]) W) (a₁ x) W)
    (hdone : ∀ (D : Nat) (xs : List α) (W : World), w.heap.size ≤ D → S xs → p xs → Mod (fun k => w.heap.size ≤ k) w W → W.heap[D]? = some (.deferred (some [])) → Q .normal { a with defers := { target := .collected D, args := #[] } :: a.defers } W)
    (hstop : ∀ (D : Nat) (pre : List α) (W : World), w.heap.size ≤ D → Sp pre → q pre W → W.heap[D]? = some (.deferred (some [])) → Code.ret.wpIn F n P Q { a with defers := { target := .collected D, args := #[] } :: a.defers } W) :
    (Code.rangeFunc g ps assign body).wpIn F n P Q a w := by
  refine wpIn_rangeFunc ?_
  intro fn hfn
  rw [hro]
  obtain ⟨rc, hrc⟩ : ∃ rc : LoopState → Option Code → Loop, rc = fun st pe => { state := st, pending := pe, fn, tmps := a.tmps, params := ps, assign, body, defers := w.heap.size } := ⟨_, rfl⟩
  obtain ⟨L, hLe⟩ : ∃ L, w.heap.size + 1 = L := ⟨_, rfl⟩
  obtain ⟨V, hV⟩ : ∃ V, (w.alloc (.deferred (some []))).alloc (.loop (rc .ready none)) = V := ⟨_, rfl⟩
  have vL : V.heap[L]? = some (.loop (rc .ready none)) := by
    have := World.alloc_heap_new (w.alloc (.deferred (some []))) (.loop (rc .ready none))
    rwa [World.size_alloc, hV, hLe] at this
  have vD : V.heap[w.heap.size]? = some (.deferred (some [])) := by
    rw [← hV]
    exact (Below.heap_alloc _ _ _ (by simp)).trans (World.alloc_heap_new w _)
  have vs : V.heap.size = w.heap.size + 2 := by rw [← hV]; simp
  have vm : Mod (fun _ => False) w V := by rw [← hV]; exact ((Mod.refl _ w).alloc _).alloc _
  refine ⟨L, [{ target := .collected w.heap.size, args := #[] }], V, { target := .fn (.func gf) lb, args := #[.func (.yield L) #[] #[]] }, V, gf, #[.func (.yield L) #[] #[]] ++ lb, V, ?_, ?_, ?_, ?_, fun _ => h1, ?_⟩
  · rw [← hV, ← hLe, hrc]; exact run_enterLoop_outer _ _ _ _ _
  · simp only [resolve, hg]
    simp [go_sem]
  · intro f' hf'
    simp [Target.leads] at hf'
    subst hf'
    exact hFg
  · simp [invoke, go_sem, eg]
  · have keep : ∀ {X Y : World} {k : Nat} {o : Obj}, Mod (fun k => V.heap.size ≤ k) X Y → k < V.heap.size → X.heap[k]? = some o → Y.heap[k]? = some o := fun hm hk ho =>
      (hm.block _ (Array.getElem?_eq_some_iff.1 ho).1 (by omega)).trans ho
    refine (hseq L (fun pre W => p pre ∧ Mod (fun k => w.heap.size ≤ k) w W ∧ W.heap[L]? = some (.loop (rc .ready none)) ∧ W.heap[w.heap.size]? = some (.deferred (some [])))
      (fun pre W => q pre W ∧ W.heap[L]? = some (.loop (rc .done (some .ret))) ∧ W.heap[w.heap.size]? = some (.deferred (some []))) V vm (by omega) (by omega) ?_ ?_ ?_ ⟨h0, vm.mono (fun _ _ h => h.elim), vL, vD⟩).mono ?_
    · rintro s X Y ⟨x1, x2, x3, x4⟩ hm
      exact ⟨x1, x2.trans hm (fun i hi e => by omega), keep hm (by omega) x3, keep hm (by omega) x4⟩
    · rintro s X Y ⟨x1, x3, x4⟩ hm
      exact ⟨hq _ _ _ x1 (hm.mono (fun i hi e => by omega)), keep hm (by omega) x3, keep hm (by omega) x4⟩
    · rintro pre x W ⟨hi, hm, hl, hd⟩
      have hy := run_yield (P := P) (args := encs x) hl (by rw [hrc]; exact hps x)
      rw [hrc] at hy
      refine ⟨fn, _, assign, body, hy, roundIn_of_wpIn hfn (hassign _ x W _ ?_)⟩
      clear hy
      have hlt := (Array.getElem?_eq_some_iff.1 hl).1
      refine ⟨_, run_beginRound hl (by rw [hrc]), ?_⟩
      have hbs : ({ rc .ready none with state := .busy } : Loop) = rc .busy none := by rw [hrc]
      rw [hbs]
      have hl2 : (W.putObj L (.loop (rc .busy none))).heap[L]? = some (.loop (rc .busy none)) := World.putObj_heap_same hlt
      have hd2 : (W.putObj L (.loop (rc .busy none))).heap[w.heap.size]? = some (.deferred (some [])) := (World.putObj_heap_other (by omega)).trans hd
      have hm2 := mod_putObj W L (.loop (rc .busy none))
      have hmw := hm.trans hm2 (fun i _ e => by omega)
      refine wpIn_mono (hbody L pre x _ hmw hi) ?_
      rintro e a3 Z hp
      cases e with
      | normal =>
        obtain ⟨rfl, hi3⟩ := hp
        have hr3 := run_endRound (P := P) none hl2
        refine ⟨_, _, hr3, .inl ⟨rfl, ⟨hi3, ?_⟩, ?_⟩⟩
        · have hq' : ({ rc .busy none with state := .ready, pending := none } : Loop) = rc .ready none := by rw [hrc]
          simp only [Option.isNone_none, if_true]
          rw [hq']
          exact ⟨hmw.trans (mod_putObj _ L _) (fun i _ e => by omega), World.putObj_heap_same (Array.getElem?_eq_some_iff.1 hl2).1, (World.putObj_heap_other (by omega)).trans hd2⟩
        · exact hm2.trans (mod_putObj _ L _) (fun _ _ e => e)
      | ret =>
        obtain ⟨hq3, hs3, hk3⟩ := hp
        have hl3 : Z.heap[L]? = some (.loop (rc .busy none)) := (hk3 L (by omega)).trans hl2
        have hd3 : Z.heap[w.heap.size]? = some (.deferred (some [])) := (hk3 _ (Nat.le_refl _)).trans hd2
        have hr3 := run_endRound (P := P) (some .ret) hl3
        refine ⟨_, _, hr3, .inr ⟨rfl, ?_⟩⟩
        have hq' : ({ rc .busy none with state := .done, pending := some .ret } : Loop) = rc .done (some .ret) := by rw [hrc]
        have hz : (some Code.ret).isNone = false := rfl
        simp only [hz, Bool.false_eq_true, if_false]
        rw [hq']
        exact ⟨hq _ _ _ hq3 ((mod_putObj Z L _).mono (fun i _ e => by omega)), World.putObj_heap_same (Array.getElem?_eq_some_iff.1 hl3).1, (World.putObj_heap_other (by omega)).trans hd3⟩
      | exit id => exact hp.elim
      | goto t => exact hp.elim
      | panic ch => exact hp.elim
      | outgrown => exact hp.elim
    · rintro e Z ⟨⟨v, rfl⟩, (⟨xs, hS, hi, hm, hl, hd⟩ | ⟨pre, hSp, hi, hl, hd⟩)⟩
      · have he := run_endLoop (P := P) hl (by rw [hrc]; simp)
        rw [hrc] at he
        exact ⟨none, _, he, hdone _ xs _ (Nat.le_refl _) hS hi (hm.trans (mod_putObj _ _ _) (fun i _ e => by omega)) ((World.putObj_heap_other (by omega)).trans hd)⟩
      · have he := run_endLoop (P := P) hl (by rw [hrc]; simp)
        rw [hrc] at he
        exact ⟨some .ret, _, he, hstop _ pre _ (Nat.le_refl _) hSp (hq _ _ _ hi ((mod_putObj _ _ _).mono (fun i _ e => by omega))) ((World.putObj_heap_other (by omega)).trans hd)⟩
end
end Go.Proofs.Ytbdfolopnocjmaa
