/-
  A range over a function whose iterator hands on what it has just made: a law of our own. The iterator may turn K blocks that it lays ahead of the first round; with each element it says a fact of the world in which it hands it on.
  What Read makes of a ring: mathematics.
  follows, batch: one log sector as Read takes it.
-/
import Derived.Test.YtnbamljaiahmdaaGreatQA
import Derived.RangeFuncNested
import Derived.RangeFuncLeaves
import Derived.Test.YtnbamljaiahmdaaGreatQU2
import Derived.Test.YtnbamljaiahmdaaGreatQB
import Derived.Test.YtnbamljaiahmdaaGreatQW1
namespace Go.Proofs.YtnbamljaiahmdaaGreat
open Go Go.RowKit

/-- What an invariant abides: growth, and a turn of a block that is no cells, or one of the iterator's own. -/
def AbT {β : Type} (B C : Nat) (J : β → World → Prop) : Prop :=
  ∀ s X Y row, J s X → X.grownBy Y row → (∀ r, row = some r → B ≤ r ∧ ((∃ o : Obj, X.heap[r]? = some o ∧ o.isCells = false) ∨ r < C)) → J s Y
/-- The iterator's contract: each element with a fact; no round leaves the loop. -/
def SeqT {α : Type} (F : Fence) (n : Nat) (P : Program) (g : Nat) (lb : Array Value) (encs : α → Array Value) (Fx : Nat → α → World → Prop) (Kp : World → World → Prop) (K N : Nat) (S : List α → Prop) (w : World) : Prop :=
  ∀ (l : Nat) (J : List α → World → Prop) (W : World), Below w.heap.size w W →
    (∀ s X Y row, J s X → X.grownBy Y row → (∀ r, row = some r → W.heap.size ≤ r ∧ r < W.heap.size + K) → J s Y) →
    (∀ pre x X, J pre X → Fx W.heap.size x X → pre.length < N → YieldAt F (n - 1) P l (encs x) X fun e Y => e = .returned (.bool true) ∧ J (pre ++ [x]) Y ∧ Kp X Y) →
    J [] W →
    CallsIn F n P g (#[.func (.yield l) #[] #[]] ++ lb) W fun e Y => (∃ v, e = .returned v) ∧ ∃ xs, S xs ∧ J xs Y

/-- How a round ends. -/
def postT {α : Type} (B : Nat) (Kp : World → World → Prop) (I : List α → World → Prop) (xs : List α) (W : World) : Exit → Act → World → Prop
  | .normal, _, Y => KeepsFrom B W Y ∧ Kp W Y ∧ I xs Y
  | _, _, _ => False

section
variable {F : Fence} {n : Nat} {P : Program}
theorem AbT.put {β : Type} {B C : Nat} {J : β → World → Prop} (h : AbT B C J) {s : β} {W : World} {l : Nat} {o : Obj} (o' : Obj) (hs : J s W) (hB : B ≤ l) (hl : W.heap[l]? = some o) (ho : o.isCells = false) : J s (W.putObj l o') :=
  h s W _ (some l) hs (grownBy_putObj' W l o') (fun r e => by cases e; exact ⟨hB, .inl ⟨o, hl, ho⟩⟩)
theorem AbT.new {β : Type} {B C : Nat} {J : β → World → Prop} (h : AbT B C J) {s : β} {W : World} (o : Obj) (hs : J s W) : J s (W.alloc o) :=
  h s W _ none hs (World.grownBy_alloc W o none) (fun r e => by cases e)

set_option maxHeartbeats 1000000 in
theorem wpIn_rangeFunc_T {α : Type} {g : Operand} {ps : Array Tmp} {assign body : Code} {Q : Exit → Act → World → Prop} {a : Act} {w : World}
    (hro : F.round = none) (h1 : 1 ≤ n) {gf : Nat} {lb : Array Value} (hg : a.eval g = .func (.func gf) #[] lb) (hFg : F.fn gf) (eg : ∀ args w, (callFunc gf args).run P w = .ok (.enter gf args) w)
    {encs : α → Array Value} {Fx : Nat → α → World → Prop} {Kp : World → World → Prop} {K N : Nat} {S : List α → Prop} {w0 : World} (hseq : SeqT F (n - 1) P gf lb encs Fx Kp K N S w0)
    (hKt : ∀ {A B C : World}, Kp A B → Kp B C → Kp A C) (hKb : ∀ (W : World) (l : Nat) (o o' : Obj), w.heap.size ≤ l → W.heap[l]? = some o → o.isCells = false → Kp W (W.putObj l o')) (hb0 : Below w0.heap.size w0 w) (hps : ∀ x, (encs x).size = ps.size)
    (I : List α → World → Prop) (hI : AbT w.heap.size (w.heap.size + 2 + K) I) (h0 : I [] w) (Ax : α → Act → World → Prop) (hAx : ∀ x a', AbT w.heap.size w.heap.size (fun (_ : Unit) W => Ax x a' W ∧ Fx (w.heap.size + 2) x W))
    (hassign : ∀ (l : Nat) (pre : List α) (x : α) (W : World) (Kk : Act → World → Prop), I pre W → Fx (w.heap.size + 2) x W → (∀ a' Y, KeepsFrom w.heap.size W Y → Kp W Y → I pre Y → Ax x a' Y ∧ Fx (w.heap.size + 2) x Y → Kk a' Y) →
      assign.wpIn (F.inRound l) (n - 1 - 1) P (Exit.then Kk (fun _ _ _ => False)) { tmps := (ps.zip (encs x)).foldl (fun t (p, v) => t.setIfInBounds p v) a.tmps, defers := [] } W)
    (hbody : ∀ (l : Nat) (pre : List α) (x : α) (a' : Act) (W : World), w.heap.size ≤ l → I pre W → Ax x a' W ∧ Fx (w.heap.size + 2) x W → pre.length < N → body.wpIn (F.inRound l) (n - 1 - 1) P (postT w.heap.size Kp I (pre ++ [x]) W) a' W)
    (hdone : ∀ (D : Nat) (xs : List α) (W : World), w.heap.size ≤ D → S xs → I xs W → W.heap[D]? = some (.deferred (some [])) → Q .normal { a with defers := { target := .collected D, args := #[] } :: a.defers } W) :
    (Code.rangeFunc g ps assign body).wpIn F n P Q a w := by
  refine wpIn_rangeFunc ?_
  intro fn hfn
  rw [hro]
  obtain ⟨rc, hrc⟩ : ∃ rc : LoopState → Loop, rc = fun st => { state := st, pending := none, fn, tmps := a.tmps, params := ps, assign, body, defers := w.heap.size } := ⟨_, rfl⟩
  obtain ⟨L, hLe⟩ : ∃ L, w.heap.size + 1 = L := ⟨_, rfl⟩
  obtain ⟨V, hV⟩ : ∃ V, (w.alloc (.deferred (some []))).alloc (.loop (rc .ready)) = V := ⟨_, rfl⟩
  have vL : V.heap[L]? = some (.loop (rc .ready)) := by
    have := World.alloc_heap_new (w.alloc (.deferred (some []))) (.loop (rc .ready))
    rwa [World.size_alloc, hV, hLe] at this
  have vD : V.heap[w.heap.size]? = some (.deferred (some [])) := by
    rw [← hV]
    exact (Below.heap_alloc _ _ _ (by simp)).trans (World.alloc_heap_new w _)
  have vI : I [] V := by rw [← hV]; exact hI.new _ (hI.new _ h0)
  have vs : V.heap.size = w.heap.size + 2 := by rw [← hV]; simp
  have vb : Below w0.heap.size w0 V := by
    rw [← hV]
    exact hb0.trans ((((Below.refl _ w).alloc (Nat.le_refl _) _).alloc (by simp) _).mono hb0.size)
  refine ⟨L, [{ target := .collected w.heap.size, args := #[] }], V, { target := .fn (.func gf) lb, args := #[.func (.yield L) #[] #[]] }, V, gf, #[.func (.yield L) #[] #[]] ++ lb, V, ?_, ?_, ?_, ?_, fun _ => h1, ?_⟩
  · rw [← hV, ← hLe, hrc]; exact run_enterLoop_outer _ _ _ _ _
  · simp only [resolve, hg]
    simp [go_sem]
  · intro f' hf'
    simp [Target.leads] at hf'
    subst hf'
    exact hFg
  · simp [invoke, go_sem, eg]
  · refine (hseq L (fun pre W => I pre W ∧ W.heap[L]? = some (.loop (rc .ready)) ∧ W.heap[w.heap.size]? = some (.deferred (some []))) V vb ?_ ?_ ⟨vI, vL, vD⟩).mono ?_
    · rintro s X Y row ⟨x1, x2, x3⟩ hgr hr
      rw [vs] at hr
      have keep : ∀ k o, k < w.heap.size + 2 → X.heap[k]? = some o → Y.heap[k]? = some o := fun k o hk ho =>
        (hgr.block k (Array.getElem?_eq_some_iff.1 ho).1 (fun e => by have := (hr k e.symm).1; omega)).trans ho
      exact ⟨hI s X Y row x1 hgr (fun r e => ⟨by have := (hr r e).1; omega, .inr (hr r e).2⟩), keep _ _ (by omega) x2, keep _ _ (by omega) x3⟩
    · rintro pre x W ⟨hi, hl, hd⟩ hf hN
      rw [vs] at hf
      have hy := run_yield (P := P) (args := encs x) hl (by rw [hrc]; exact hps x)
      rw [hrc] at hy
      refine ⟨fn, _, assign, body, hy, roundIn_of_wpIn hfn (hassign _ pre x W _ hi hf ?_)⟩
      clear hy
      intro a' X hk hkp hiX hax
      have hlX := hk.same L _ (by omega) hl rfl
      have hdX := hk.same _ _ (Nat.le_refl _) hd rfl
      have hlt := (Array.getElem?_eq_some_iff.1 hlX).1
      refine ⟨_, run_beginRound hlX (by rw [hrc]), ?_⟩
      have hbs : ({ rc .ready with state := .busy } : Loop) = rc .busy := by rw [hrc]
      rw [hbs]
      have hl2 : (X.putObj L (.loop (rc .busy))).heap[L]? = some (.loop (rc .busy)) := World.putObj_heap_same hlt
      have hd2 : (X.putObj L (.loop (rc .busy))).heap[w.heap.size]? = some (.deferred (some [])) := (World.putObj_heap_other (by omega)).trans hdX
      have hkp2 : Kp X (X.putObj L (.loop (rc .busy))) := hKb _ _ _ _ (by omega) hlX rfl
      refine wpIn_mono (hbody L pre x a' _ (by omega) (hI.put _ hiX (by omega) hlX rfl) ((hAx x a').put (s := ()) _ hax (by omega) hlX rfl) hN) ?_
      rintro e a3 Z hp
      cases e with
      | normal =>
        obtain ⟨hk3, hkp3, hi3⟩ := hp
        have hl3 := hk3.same _ _ (by omega) hl2 rfl
        have hlt3 := (Array.getElem?_eq_some_iff.1 hl3).1
        have hr3 := run_endRound (P := P) none hl3
        have hrr : ({ rc .busy with state := .ready } : Loop) = rc .ready := by rw [hrc]
        refine ⟨_, _, hr3, ?_⟩
        simp only [Option.isNone_none, if_true]
        have hq : ({ rc .busy with state := .ready, pending := none } : Loop) = rc .ready := by rw [hrc]
        rw [hq]
        exact ⟨trivial, ⟨hI.put _ hi3 (by omega) hl3 rfl, World.putObj_heap_same hlt3, (World.putObj_heap_other (by omega)).trans (hk3.same _ _ (Nat.le_refl _) hd2 rfl)⟩, hKt hkp (hKt (hKt hkp2 hkp3) (hKb _ _ _ _ (by omega) hl3 rfl))⟩
      | ret => exact hp.elim
      | exit id => exact hp.elim
      | goto t => exact hp.elim
      | panic ch => exact hp.elim
      | outgrown => exact hp.elim
    · rintro e Z ⟨⟨v, rfl⟩, xs, hS, hi, hl, hd⟩
      have he := run_endLoop (P := P) hl (by rw [hrc]; simp)
      rw [hrc] at he
      exact ⟨none, _, he, hdone _ xs _ (Nat.le_refl _) hS (hI.put _ hi (by omega) hl rfl) ((World.putObj_heap_other (by omega)).trans hd)⟩
end
end Go.Proofs.YtnbamljaiahmdaaGreat

namespace Go.Proofs.YtnbamljaiahmdaaGreat
open Go Go.RowKit

/-- A batch as it is read. -/
structure Bm where
  e : Int
  s : Int
  f : Int
  l : List Rc
def Bm.zero : Bm := ⟨0, 0, 0, []⟩
def BtD.m (x : BtD) : Bm := ⟨x.e, x.s, x.f, x.l.map RcD.p⟩
def midS (s : List UInt8) : List UInt8 := (s.drop 4).take 248
def stampOk (s : List UInt8) (q : Int) : Bool := decide (hdS (midS s) = q) && (decide ((unle (s.take 4) : Int) = 16777216 * hdE (midS s) + hdS (midS s)) && decide (1 ≤ hdE (midS s)))
/-- What a sector says as the log sector q. -/
def batM (s : List UInt8) (q : Int) : Option Bm :=
  if s.length = 256 ∧ s.take 4 = s.drop 252 then
    match unpackM (midS s) with
    | none => none
    | some l => if stampOk s q = true then some ⟨hdE (midS s), hdS (midS s), hdF (midS s), l⟩ else none
  else none
/-- May the second one come behind the first one? -/
def folB (b x : Bm) : Bool := if b.e = 0 then true else if b.e = x.e then decide (x.f = b.f) else decide (b.e < x.e) && decide (x.f = x.s)
def accM (R : Int → List UInt8) (q : Int) (b : Bm) : Option Bm :=
  match batM (R q) q with
  | none => none
  | some x => if folB b x = true then some x else none
/-- The log sectors from q on, at most k of them. -/
def batsM (R : Int → List UInt8) : Nat → Int → Bm → List Bm
  | 0, _, _ => []
  | k + 1, q, b => match accM R q b with
    | none => []
    | some x => x :: batsM R k (q + 1) x
def rowsM (x : Bm) : List (Int × Rc) := (List.range x.l.length).filterMap fun i : Nat => (x.l[i]?).map fun r => ((256 * x.s + (i : Int) : Int), r)
def outM (l : List Bm) : List (Int × Rc) := l.flatMap rowsM
def lastE (l : List Bm) : Int := match l.getLast? with
  | none => 0
  | some x => x.e
def lastB (l : List Bm) : Bm := match l.getLast? with
  | none => .zero
  | some x => x

theorem batM_some {s : List UInt8} {q : Int} {x : Bm} (h : batM s q = some x) : s.length = 256 ∧ s.take 4 = s.drop 252 ∧ unpackM (midS s) = some x.l ∧ x.e = hdE (midS s) ∧ x.s = q ∧ hdS (midS s) = q ∧ x.f = hdF (midS s) ∧ (unle (s.take 4) : Int) = 16777216 * x.e + q ∧ 1 ≤ x.e := by
  unfold batM at h
  split at h
  · rename_i h0
    cases hu : unpackM (midS s) with
    | none => rw [hu] at h; cases h
    | some l =>
      rw [hu] at h
      dsimp only at h
      split at h
      · rename_i h1
        injection h with h
        subst h
        simp only [stampOk, Bool.and_eq_true, decide_eq_true_eq] at h1
        obtain ⟨a, b, c⟩ := h1
        exact ⟨h0.1, h0.2, rfl, rfl, a, a, rfl, by rw [← a]; exact b, c⟩
      · cases h
  · cases h
theorem batM_yes {s : List UInt8} {q : Int} {l : List Rc} (h1 : s.length = 256) (h2 : s.take 4 = s.drop 252) (h3 : unpackM (midS s) = some l) (h4 : stampOk s q = true) : batM s q = some ⟨hdE (midS s), hdS (midS s), hdF (midS s), l⟩ := by
  unfold batM
  rw [if_pos ⟨h1, h2⟩, h3]
  dsimp only
  rw [if_pos h4]
theorem recsJ_count {xs : List UInt8} : ∀ {j : Nat} {l : List Rc} {ys : List UInt8}, recsJ xs j = some (l, ys) → l.length = j
  | 0, l, ys, h => by
    simp only [recsJ] at h
    injection h with h
    injection h with h _
    subst h
    rfl
  | j + 1, l, ys, h => by
    cases hj : recsJ xs j with
    | none => simp [recsJ, hj] at h
    | some p =>
      obtain ⟨l1, y1⟩ := p
      cases hr : recR y1 with
      | none => have := recsJ_no hj hr (j + 1) (by omega); rw [this] at h; cases h
      | some q =>
        obtain ⟨r, z⟩ := q
        rw [recsJ_yes hj hr] at h
        injection h with h
        injection h with h _
        subst h
        rw [List.length_append, recsJ_count hj]
        rfl
/-- What is unpacked has a good head, and few records. -/
theorem unpack_head {xs : List UInt8} {l : List Rc} (h : unpackM xs = some l) : headOk (hdE xs) (hdS xs) (hdF xs) = true ∧ l.length ≤ 60 := by
  unfold unpackM at h
  split at h
  · cases h
  · split at h
    · cases h
    · rename_i _ h1
      have h2 : (headOk (hdE xs) (hdS xs) (hdF xs) && decide (hdN xs ≤ 60)) = true := by simpa using h1
      rw [Bool.and_eq_true, decide_eq_true_eq] at h2
      refine ⟨h2.1, ?_⟩
      cases hj : recsJ (xs.drop 11) (hdN xs) with
      | none => rw [hj] at h; cases h
      | some p =>
        obtain ⟨l1, rest⟩ := p
        rw [hj] at h
        dsimp only at h
        split at h
        · injection h with h
          subst h
          rw [recsJ_count hj]
          exact h2.2
        · cases h
theorem accM_some {R : Int → List UInt8} {q : Int} {b x : Bm} (h : accM R q b = some x) : batM (R q) q = some x ∧ folB b x = true := by
  unfold accM at h
  cases hb : batM (R q) q with
  | none => rw [hb] at h; cases h
  | some y =>
    rw [hb] at h
    dsimp only at h
    split at h
    · rename_i h1
      injection h with h
      subst h
      exact ⟨rfl, h1⟩
    · cases h
theorem accM_yes {R : Int → List UInt8} {q : Int} {b x : Bm} (h : batM (R q) q = some x) (hf : folB b x = true) : accM R q b = some x := by
  unfold accM
  rw [h]
  dsimp only
  rw [if_pos hf]
theorem accM_no1 {R : Int → List UInt8} {q : Int} {b : Bm} (h : batM (R q) q = none) : accM R q b = none := by unfold accM; rw [h]
theorem accM_no2 {R : Int → List UInt8} {q : Int} {b x : Bm} (h : batM (R q) q = some x) (hf : folB b x = false) : accM R q b = none := by
  unfold accM
  rw [h]
  dsimp only
  rw [if_neg (by rw [hf]; simp)]
theorem batsM_len (R : Int → List UInt8) : ∀ (k : Nat) (q : Int) (b : Bm), (batsM R k q b).length ≤ k
  | 0, _, _ => Nat.le_refl _
  | k + 1, q, b => by
    unfold batsM
    cases accM R q b with
    | none => exact Nat.zero_le _
    | some x => exact Nat.succ_le_succ (batsM_len R k (q + 1) x)
theorem lastB_snoc (l : List Bm) (x : Bm) : lastB (l ++ [x]) = x := by unfold lastB; rw [List.getLast?_concat]
theorem lastE_eq (l : List Bm) : lastE l = (lastB l).e := by unfold lastE lastB; cases l.getLast? <;> rfl
/-- A prefix, and how it goes on. -/
theorem batsM_go (R : Int → List UInt8) {k : Nat} {q : Int} {b x : Bm} (h : accM R q b = some x) : batsM R (k + 1) q b = x :: batsM R k (q + 1) x := by
  rw [batsM, h]
theorem batsM_end (R : Int → List UInt8) {k : Nat} {q : Int} {b : Bm} (h : accM R q b = none) : batsM R k q b = [] := by
  cases k with
  | zero => rfl
  | succ k => rw [batsM, h]
theorem rowsM_len (x : Bm) : (rowsM x).length = x.l.length := by
  have : ∀ n, n ≤ x.l.length → ((List.range n).filterMap fun i : Nat => (x.l[i]?).map fun r => ((256 * x.s + (i : Int) : Int), r)).length = n := by
    intro n
    induction n with
    | zero => intro _; rfl
    | succ n ih =>
      intro hn
      rw [List.range_succ, List.filterMap_append, List.length_append, ih (by omega)]
      simp [List.getElem?_eq_getElem (show n < x.l.length by omega)]
  exact this _ (Nat.le_refl _)
theorem rowsM_get (x : Bm) {i : Nat} {r : Rc} (h : x.l[i]? = some r) : (rowsM x)[i]? = some (256 * x.s + i, r) := by
  have hi : i < x.l.length := (List.getElem?_eq_some_iff.1 h).1
  have key : ∀ n, n ≤ x.l.length → ((List.range n).filterMap fun i : Nat => (x.l[i]?).map fun r => ((256 * x.s + (i : Int) : Int), r)) = (List.range n).map fun i : Nat => ((256 * x.s + i : Int), (x.l[i]?).getD r) := by
    intro n
    induction n with
    | zero => intro _; rfl
    | succ n ih =>
      intro hn
      rw [List.range_succ, List.filterMap_append, List.map_append, ih (by omega)]
      simp [List.getElem?_eq_getElem (show n < x.l.length by omega)]
  unfold rowsM
  rw [key _ (Nat.le_refl _), List.getElem?_map, List.getElem?_range hi, Option.map_some, h]
  rfl
theorem rowsM_take (x : Bm) {i : Nat} {r : Rc} (h : x.l[i]? = some r) : (rowsM x).take (i + 1) = (rowsM x).take i ++ [(256 * x.s + i, r)] := by
  have h1 := rowsM_get x h
  have hi : i < (rowsM x).length := (List.getElem?_eq_some_iff.1 h1).1
  rw [List.take_succ_eq_append_getElem hi]
  congr 2
  rw [List.getElem?_eq_getElem hi] at h1
  injection h1
theorem outM_snoc (l : List Bm) (x : Bm) : outM (l ++ [x]) = outM l ++ rowsM x := by simp [outM]
/-- Behind them. -/
def endM (q : Int) (l : List Bm) : Int := match l.getLast? with
  | none => q
  | some x => x.s + 1
theorem endM_snoc (q : Int) (l : List Bm) (x : Bm) : endM q (l ++ [x]) = x.s + 1 := by unfold endM; rw [List.getLast?_concat]
theorem batsM_seq (R : Int → List UInt8) : ∀ (k : Nat) (q : Int) (b : Bm) (i : Nat) (x : Bm), (batsM R k q b)[i]? = some x → x.s = q + i
  | 0, _, _, _, _, h => by simp [batsM] at h
  | k + 1, q, b, i, x, h => by
    cases ha : accM R q b with
    | none => rw [batsM_end R ha] at h; simp at h
    | some y =>
      rw [batsM_go R ha] at h
      cases i with
      | zero =>
        injection h with h
        subst h
        have := (batM_some (accM_some ha).1).2.2.2.2.1
        rw [this]
        omega
      | succ i =>
        have := batsM_seq R k (q + 1) y i x (by simpa using h)
        rw [this]
        omega
theorem endM_bats (R : Int → List UInt8) (k : Nat) (q : Int) (b : Bm) : endM q (batsM R k q b) = q + (batsM R k q b).length := by
  obtain ⟨l, hl⟩ : ∃ l, batsM R k q b = l := ⟨_, rfl⟩
  have h := batsM_seq R k q b
  rw [hl] at h ⊢
  unfold endM
  cases hg : l.getLast? with
  | none => rw [List.getLast?_eq_none_iff.1 hg]; simp
  | some x =>
    rw [List.getLast?_eq_getElem?] at hg
    have h1 := h _ _ hg
    have : l ≠ [] := fun e => by rw [e] at hg; simp at hg
    have := List.length_pos_iff.2 this
    show x.s + 1 = _
    rw [h1]
    omega
end Go.Proofs.YtnbamljaiahmdaaGreat

namespace Go.Proofs.YtnbamljaiahmdaaGreat
open Go Go.RowKit Go.Shelf

set_option maxRecDepth 100000 in
theorem follows_ok (w : World) (x y : BtD) :
    Calls Tryz.prog 43 #[.agg x.cells, .agg y.cells] w fun e w' => e = .returned (.bool (folB x.m y.m)) ∧ Mod (fun _ => False) w w' := by
  have Hm : Hid (Mod (fun _ => False) w ((w.alloc (.cells x.cells 68)).alloc (.cells y.cells 68))) := ((Mod.refl _ w).alloc _).alloc _
  by_cases h0 : x.e = 0
  · have q0 : (x.e == 0) = true := by simpa using h0
    have Hr : Hid (folB x.m y.m = true) := by show _ = _; unfold folB; rw [if_pos (by exact h0)]
    clear h0
    go_enter Tryz.func43, Tryz.ntmps43
    go_wp2
    go_ret
    exact ⟨by rw [Hr.out]; rfl, Hm.out⟩
  · have q0 : (x.e == 0) = false := by simpa using h0
    by_cases h1 : x.e = y.e
    · have q1 : (x.e == y.e) = true := by simpa using h1
      have Hr : Hid (folB x.m y.m = (y.f == x.f)) := by
        show _ = _
        unfold folB
        rw [if_neg (by exact h0), if_pos (by exact h1)]
        by_cases h2 : y.f = x.f
        · rw [decide_eq_true (by exact h2)]; symm; simpa using h2
        · rw [decide_eq_false (by exact h2)]; symm; simpa using h2
      clear h0 h1
      go_enter Tryz.func43, Tryz.ntmps43
      go_wp2
      go_ret
      exact ⟨by rw [Hr.out]; rfl, Hm.out⟩
    · have q1 : (x.e == y.e) = false := by simpa using h1
      by_cases h2 : x.e < y.e
      · have q2 : decide (x.e < y.e) = true := by simpa using h2
        have Hr : Hid (folB x.m y.m = (y.f == y.s)) := by
          show _ = _
          unfold folB
          rw [if_neg (by exact h0), if_neg (by exact h1), decide_eq_true (by exact h2), Bool.true_and]
          by_cases h2 : y.f = y.s
          · rw [decide_eq_true (by exact h2)]; symm; simpa using h2
          · rw [decide_eq_false (by exact h2)]; symm; simpa using h2
        clear h0 h1 h2
        go_enter Tryz.func43, Tryz.ntmps43
        go_wp2
        go_ret
        exact ⟨by rw [Hr.out]; rfl, Hm.out⟩
      · have q2 : decide (x.e < y.e) = false := by simpa using h2
        have Hr : Hid (folB x.m y.m = false) := by
          show _ = _
          unfold folB
          rw [if_neg (by exact h0), if_neg (by exact h1), decide_eq_false (by exact h2), Bool.false_and]
        clear h0 h1 h2
        go_enter Tryz.func43, Tryz.ntmps43
        go_wp2
        go_ret
        exact ⟨by rw [Hr.out]; rfl, Hm.out⟩

/-- What Open answers. -/
structure OpA (w : World) (xs : List UInt8) (e : Ending) (w' : World) : Prop where
  ex : (¬ (xs.length = 256 ∧ xs.take 4 = xs.drop 252) ∧ ∃ er : Int, er ≠ 0 ∧ e = .returned (.tuple #[.slice none 0 0, .int .i64 0, .int .i64 er])) ∨
    (xs.length = 256 ∧ xs.take 4 = xs.drop 252 ∧ ∃ g, e = .returned (.tuple #[.slice (some ⟨g, 0, none⟩) 248 248, .int .i64 (unle (xs.take 4) : Int), .int .i64 0]) ∧ Sl w' (some ⟨g, 0, none⟩) 248 248 (midS xs))
  old : Mod (fun _ => False) w w'
theorem openA_ok (w : World) (A : Option Addr) (n c : Nat) (xs : List UInt8) (h : Sl w A n c xs) : Calls Tryz.prog 63 #[.slice A n c] w (OpA w xs) := by
  by_cases hn : n = 256
  · subst hn
    by_cases ht : xs.take 4 = xs.drop 252
    · refine (open_ok w A c xs h ht).mono ?_
      rintro e w' ⟨g, rfl, hR⟩
      exact ⟨.inr ⟨h.len, ht, ⟨g, rfl, hR.sl (room_len h.len)⟩⟩, hR.2.2⟩
    · refine (open_torn w A c xs h ht).mono ?_
      rintro e w' ⟨rfl, hm⟩
      exact ⟨.inl ⟨fun hh => ht hh.2, 20, by omega, rfl⟩, hm⟩
  · refine (open_arg w A n c hn).mono ?_
    rintro e w' ⟨rfl, rfl⟩
    exact ⟨.inl ⟨fun hh => hn (by rw [← h.len]; exact hh.1), 1, by omega, rfl⟩, Mod.refl _ _⟩
end Go.Proofs.YtnbamljaiahmdaaGreat
