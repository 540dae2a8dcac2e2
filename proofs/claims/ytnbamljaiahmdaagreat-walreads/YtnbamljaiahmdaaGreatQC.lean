/-
  A device: what it is in memory, and what it is as the document has it.
  Contracts of package disk's small calls: reach, step, Arm, Read; bytes.Clone, slices.Clone.
  bytes.Clone, slices.Clone, made, Read.
  The contract of Disk.Write.
  The contract of Disk.Sync.
  make, in our words; bobbinlaw03.Sector.
-/
import Derived.Test.YtnbamljaiahmdaaGreatQB
import Derived.Test.YtnbamljaiahmdaaGreatQA
import Derived.Deep.RegionLaw
import Derived.StillTailTactics
import Derived.OwnWalk
import Derived.Laws.OwnMore
namespace Go.Proofs.YtnbamljaiahmdaaGreat
open Go Go.RowKit

/-! ### As the document has it -/
structure Dk where
  dur : List (List UInt8)
  pend : List (Nat × List UInt8)
  armed : Bool
  left : Int
  dead : Bool

/-- Writes, one after the other. -/
def lay {α : Type} (D : List α) (W : List (Nat × α)) : List α := W.foldl (fun l y => l.set y.1 y.2) D
theorem lay_len {α : Type} (W : List (Nat × α)) : ∀ D : List α, (lay D W).length = D.length := by
  induction W with
  | nil => intro D; rfl
  | cons y W ih => intro D; show (lay (D.set y.1 y.2) W).length = _; rw [ih]; simp
theorem lay_snoc {α : Type} (D : List α) (W : List (Nat × α)) (y : Nat × α) : lay D (W ++ [y]) = (lay D W).set y.1 y.2 := by simp [lay]
theorem lay_map {α β : Type} (f : α → β) (W : List (Nat × α)) : ∀ D : List α, (lay D W).map f = lay (D.map f) (W.map fun y => (y.1, f y.2)) := by
  induction W with
  | nil => intro D; rfl
  | cons y W ih => intro D; show (lay (D.set y.1 y.2) W).map f = lay ((D.map f).set y.1 (f y.2)) _; rw [ih, List.map_set]

def Dk.now (d : Dk) : List (List UInt8) := lay d.dur d.pend
def Dk.reach (d : Dk) (i : Int) : Int := if d.dead then 30 else if 0 ≤ i ∧ i < d.dur.length then 0 else 3
def Dk.stepE (d : Dk) : Int := if d.armed = true ∧ d.left = 0 then 30 else 0
def Dk.stepD (d : Dk) : Dk := if d.armed then (if d.left = 0 then { d with dead := true } else { d with left := d.left - 1 }) else d
def Dk.writeE (d : Dk) (i : Int) (m : Nat) : Int := if d.reach i = 0 then if m = 256 then d.stepE else 1 else d.reach i
def Dk.write (d : Dk) (i : Int) (ys : List UInt8) : Dk :=
  if d.reach i = 0 ∧ ys.length = 256 then (if d.stepE = 0 then { d.stepD with pend := d.pend ++ [(i.toNat, ys)] } else d.stepD) else d
def Dk.syncE (d : Dk) : Int := if d.dead then 30 else d.stepE
def Dk.sync (d : Dk) : Dk := if d.dead then d else if d.stepE = 0 then { d.stepD with dur := d.now, pend := [] } else d.stepD
def Dk.arm (d : Dk) (n : Int) : Dk := { d with armed := decide (0 ≤ n), left := max n 0 }
def keptN (keep : List Bool) (torn kk : Int) (i : Nat) : Nat :=
  if (i : Int) = torn then (min (max kk 0) 256).toNat else if keep.getD (i % keep.length) false then 256 else 0
def crashGo (f : Nat → Nat) : Nat → List (Nat × List UInt8) → List (List UInt8) → List (List UInt8)
  | _, [], D => D
  | i, y :: W, D => crashGo f (i + 1) W (D.set y.1 (partOf (D.getD y.1 []) y.2 (f i)))
def Dk.crash (d : Dk) (f : Nat → Nat) : Dk := ⟨crashGo f 0 d.pend d.dur, [], false, 0, false⟩
theorem keptN_le (keep : List Bool) (torn kk : Int) (i : Nat) : keptN keep torn kk i ≤ 256 := by
  unfold keptN
  split
  · omega
  · split <;> omega
theorem crashGo_len (f : Nat → Nat) (W : List (Nat × List UInt8)) : ∀ (i : Nat) (D : List (List UInt8)), (crashGo f i W D).length = D.length := by
  induction W with
  | nil => intro i D; rfl
  | cons y W ih => intro i D; show (crashGo f (i + 1) W _).length = _; rw [ih]; simp

/-! ### In memory -/
/-- A sector's slice: where it lies, its spare, its bytes. -/
structure Sct where
  A : Option Addr
  c : Nat
  xs : List UInt8
def Sct.v (s : Sct) : Value := .slice s.A 256 s.c
/-- It reads so, and lies in none of the blocks M. -/
def Sct.At (w : World) (M : Nat → Prop) (s : Sct) : Prop := Sl w s.A 256 s.c s.xs ∧ ∀ k, blkOf s.A = some k → ¬ M k
section
variable {w w' : World} {M M' : Nat → Prop} {s : Sct}
theorem Sct.At.mod (h : s.At w M) (hm : Mod M w w') : s.At w' M := ⟨h.1.mod hm (fun k hk _ => h.2 k hk), h.2⟩
theorem Sct.At.keep (h : s.At w M) (hm : Mod (fun _ => False) w w') : s.At w' M := ⟨h.1.mod hm (fun _ _ _ => id), h.2⟩
theorem Sct.At.avoid (h : s.At w M) (hM : ∀ k, k < w.heap.size → M' k → M k) : s.At w M' := by
  refine ⟨h.1, fun k hk hM' => h.2 k hk (hM k ?_ hM')⟩
  obtain ⟨b, o, hA, hb⟩ := h.1.lt (by omega)
  rw [hA] at hk
  simp [blkOf] at hk
  omega
theorem Sct.At.len (h : s.At w M) : s.xs.length = 256 := h.1.len
theorem Sct.v_one (s : Sct) : s.v.oneCell' = true := rfl
end

/-- The cells of pending writes. -/
def pcells (W : List (Nat × Sct)) : List Value := W.flatMap fun y => [.int .i64 y.1, y.2.v]
theorem pcells_len (W : List (Nat × Sct)) : (pcells W).length = W.length * 2 := by
  induction W with
  | nil => rfl
  | cons y W ih => simp only [pcells, List.flatMap_cons, List.length_append, List.length_cons, List.length_nil] at *; omega
theorem pcells_get (W : List (Nat × Sct)) (i : Nat) (y : Nat × Sct) (h : W[i]? = some y) : (pcells W)[i * 2]? = some (.int .i64 y.1) ∧ (pcells W)[i * 2 + 1]? = some y.2.v := by
  induction W generalizing i with
  | nil => simp at h
  | cons z W ih =>
    cases i with
    | zero => simp at h; subst h; simp [pcells]
    | succ i =>
      have h' : W[i]? = some y := by simpa using h
      obtain ⟨a, b⟩ := ih i h'
      have e : ∀ k, (pcells (z :: W))[(i + 1) * 2 + k]? = (pcells W)[i * 2 + k]? := by
        intro k
        show ([Value.int .i64 z.1, z.2.v] ++ pcells W)[_]? = _
        rw [List.getElem?_append_right (by simp; omega)]
        congr 1
        simp; omega
      exact ⟨(e 0).trans a, (e 1).trans b⟩
theorem pcells_snoc (W : List (Nat × Sct)) (y : Nat × Sct) : pcells (W ++ [y]) = pcells W ++ [.int .i64 y.1, y.2.v] := by simp [pcells]

/-- A device in memory. -/
structure DV where
  p : Nat
  bd : Nat
  bn : Nat
  cd : Nat
  cn : Nat
  pA : Option Addr
  cp : Nat
  D : List Sct
  W : List (Nat × Sct)
  armed : Bool
  left : Int
  dead : Bool
/-- The blocks that its calls turn. -/
def DV.M (x : DV) (k : Nat) : Prop := k = x.p ∨ k = x.bd ∨ k = x.bn ∨ blkOf x.pA = some k
def DV.dk (x : DV) : Dk := ⟨x.D.map Sct.xs, x.W.map (fun y => (y.1, y.2.xs)), x.armed, x.left, x.dead⟩
def DV.obj (x : DV) : Array Value := #[.slice (some ⟨x.bd, 0, none⟩) x.D.length x.cd, .slice (some ⟨x.bn, 0, none⟩) x.D.length x.cn, .slice x.pA x.W.length x.cp, .bool x.armed, .int .i64 x.left, .bool x.dead]
structure DV.At (w : World) (base : Nat) (x : DV) : Prop where
  obj : w.heap[x.p]? = some (.cells x.obj 60 (0, 0))
  dur : OwV w base 50 (some ⟨x.bd, 0, none⟩) x.D.length x.cd (x.D.map Sct.v)
  now : OwV w base 50 (some ⟨x.bn, 0, none⟩) x.D.length x.cn ((lay x.D x.W).map Sct.v)
  pend : OwN w base 57 2 x.pA x.W.length x.cp (pcells x.W)
  secs : ∀ s ∈ x.D, s.At w x.M
  wsecs : ∀ y ∈ x.W, y.1 < x.D.length ∧ y.2.At w x.M
  pb : base ≤ x.p
  d1 : x.p ≠ x.bd
  d2 : x.p ≠ x.bn
  d3 : x.bd ≠ x.bn
  d4 : blkOf x.pA ≠ some x.p ∧ blkOf x.pA ≠ some x.bd ∧ blkOf x.pA ≠ some x.bn
  pos : 0 < x.D.length
  few : x.D.length ≤ 4096
  lft : 0 ≤ x.left ∧ x.left < 9223372036854775808

section
variable {w w' : World} {base : Nat} {x : DV}
theorem DV.At.M_lt (h : x.At w base) {k : Nat} (hk : x.M k) : base ≤ k ∧ k < w.heap.size := by
  rcases hk with rfl | rfl | rfl | hk
  · exact ⟨h.pb, (Array.getElem?_eq_some_iff.1 h.obj).1⟩
  · exact h.dur.lt _ rfl
  · exact h.now.lt _ rfl
  · exact h.pend.lt _ hk
/-- Steps that turn none of its blocks leave it. -/
theorem DV.At.mod {F : Nat → Prop} (h : x.At w base) (hm : Mod F w w') (hF : ∀ k, F k → ¬ x.M k) (hs : ∀ s : Sct, s.At w x.M → s.At w' x.M) : x.At w' base where
  obj := (hm.block _ (h.M_lt (.inl rfl)).2 (fun f => hF _ f (.inl rfl))).trans h.obj
  dur := h.dur.mod hm (fun k hk f => hF _ f (by simp [blkOf] at hk; exact .inr (.inl hk.symm)))
  now := h.now.mod hm (fun k hk f => hF _ f (by simp [blkOf] at hk; exact .inr (.inr (.inl hk.symm))))
  pend := h.pend.mod hm (fun k hk f => hF _ f (.inr (.inr (.inr hk))))
  secs := fun s hm' => hs s (h.secs s hm')
  wsecs := fun y hy => ⟨(h.wsecs y hy).1, hs _ (h.wsecs y hy).2⟩
  pb := h.pb
  d1 := h.d1
  d2 := h.d2
  d3 := h.d3
  d4 := h.d4
  pos := h.pos
  few := h.few
  lft := h.lft
theorem DV.At.keep (h : x.At w base) (hm : Mod (fun _ => False) w w') : x.At w' base := h.mod hm (fun _ f => f.elim) (fun _ hs => hs.keep hm)
theorem DV.At.drewN (h : x.At w base) (n : Nat) : x.At (w.drewN n) base := h.keep ((Mod.refl _ w).drewN n)
theorem DV.At.cells (h : x.At w base) : w.cell? ⟨x.p, 0, none⟩ = some (.slice (some ⟨x.bd, 0, none⟩) x.D.length x.cd) ∧ w.cell? ⟨x.p, 1, none⟩ = some (.slice (some ⟨x.bn, 0, none⟩) x.D.length x.cn) ∧
    w.cell? ⟨x.p, 2, none⟩ = some (.slice x.pA x.W.length x.cp) ∧ w.cell? ⟨x.p, 3, none⟩ = some (.bool x.armed) ∧ w.cell? ⟨x.p, 4, none⟩ = some (.int .i64 x.left) ∧ w.cell? ⟨x.p, 5, none⟩ = some (.bool x.dead) := by
  refine ⟨?_, ?_, ?_, ?_, ?_, ?_⟩ <;> (rw [cell_of_row _ _ _ _ _ _ h.obj]; rfl)
theorem DV.At.frozen (h : x.At w base) (i : Nat) : w.frozen? ⟨x.p, i, none⟩ = false := frozen_of_block h.obj i
theorem DV.dk_now (x : DV) : x.dk.now = (lay x.D x.W).map Sct.xs := (lay_map _ _ _).symm
theorem DV.dk_len (x : DV) : x.dk.dur.length = x.D.length := by simp [DV.dk]
end

set_option maxRecDepth 100000 in
theorem len_ok (w : World) (base : Nat) (x : DV) (h : x.At w base) :
    Calls Tryz.prog 30 #[.pointer (some ⟨x.p, 0, none⟩)] w fun e w' => e = .returned (.int .i64 x.D.length) ∧ w' = w := by
  obtain ⟨c0, c1, c2, c3, c4, c5⟩ := h.cells
  have hf := h.few
  clear h c0 c2 c3 c4 c5
  go_enter Tryz.func30, Tryz.ntmps30
  go_wp2
  go_ret
  exact ⟨rfl, rfl⟩

set_option maxRecDepth 100000 in
theorem dead_ok (w : World) (base : Nat) (x : DV) (h : x.At w base) :
    Calls Tryz.prog 23 #[.pointer (some ⟨x.p, 0, none⟩)] w fun e w' => e = .returned (.bool x.dead) ∧ w' = w := by
  obtain ⟨c0, c1, c2, c3, c4, c5⟩ := h.cells
  clear h c0 c1 c2 c3 c4
  go_enter Tryz.func23, Tryz.ntmps23
  go_wp2
  go_ret
  exact ⟨rfl, rfl⟩

end Go.Proofs.YtnbamljaiahmdaaGreat

namespace Go.Proofs.YtnbamljaiahmdaaGreat
open Go Go.RowKit

set_option maxRecDepth 100000 in
theorem reach_ok (w : World) (base : Nat) (x : DV) (h : x.At w base) (i : Int) :
    Calls Tryz.prog 20 #[.pointer (some ⟨x.p, 0, none⟩), .int .i64 i] w fun e w' => e = .returned (.int .i64 (x.dk.reach i)) ∧ w' = w := by
  have hf := h.few
  have hl := x.dk_len
  cases hd : x.dead with
  | true =>
    have hr : x.dk.reach i = 30 := by simp [Dk.reach, DV.dk, hd]
    rw [hr]
    clear hr hl
    go_enter Tryz.func20, Tryz.ntmps20
    go_wp2_with fail
    refine (dead_ok _ _ x h).mono ?_
    rintro e w' ⟨rfl, rfl⟩
    rw [hd]
    go_wp2
    go_ret
    exact ⟨rfl, rfl⟩
  | false =>
    by_cases h0 : i < 0
    · have hr : x.dk.reach i = 3 := by unfold Dk.reach; rw [if_neg (by simp [DV.dk, hd]), if_neg (by omega)]
      rw [hr]
      have h0' : decide (i < 0) = true := by simpa using h0
      clear hr hl h0
      go_enter Tryz.func20, Tryz.ntmps20
      go_wp2_with fail
      refine (dead_ok _ _ x h).mono ?_
      rintro e w' ⟨rfl, rfl⟩
      rw [hd]
      go_wp2
      go_ret
      exact ⟨rfl, rfl⟩
    · have h0' : decide (i < 0) = false := by simpa using h0
      by_cases h1 : i < x.D.length
      · have hr : x.dk.reach i = 0 := by unfold Dk.reach; rw [if_neg (by simp [DV.dk, hd]), if_pos (by omega)]
        rw [hr]
        have h1' : decide ((x.D.length : Int) ≤ i) = false := by simpa using h1
        clear hr hl h0 h1
        go_enter Tryz.func20, Tryz.ntmps20
        go_wp2_with fail
        refine (dead_ok _ _ x h).mono ?_
        rintro e w' ⟨rfl, rfl⟩
        rw [hd]
        go_wp2_with fail
        refine (len_ok _ _ x h).mono ?_
        rintro e w' ⟨rfl, rfl⟩
        go_wp2
        go_ret
        exact ⟨rfl, rfl⟩
      · have hr : x.dk.reach i = 3 := by unfold Dk.reach; rw [if_neg (by simp [DV.dk, hd]), if_neg (by omega)]
        rw [hr]
        have h1' : decide ((x.D.length : Int) ≤ i) = true := by simp; omega
        clear hr hl h0 h1
        go_enter Tryz.func20, Tryz.ntmps20
        go_wp2_with fail
        refine (dead_ok _ _ x h).mono ?_
        rintro e w' ⟨rfl, rfl⟩
        rw [hd]
        go_wp2_with fail
        refine (len_ok _ _ x h).mono ?_
        rintro e w' ⟨rfl, rfl⟩
        go_wp2
        go_ret
        exact ⟨rfl, rfl⟩

/-- Its flags alone have turned. -/
theorem DV.At.flags {w w' : World} {base : Nat} {x : DV} (h : x.At w base) {armed dead : Bool} {left : Int} (hl : 0 ≤ left ∧ left < 9223372036854775808)
    (hm : Mod (fun k => k = x.p) w w') (ho : w'.heap[x.p]? = some (.cells ({ x with armed := armed, left := left, dead := dead } : DV).obj 60 (0, 0))) : ({ x with armed := armed, left := left, dead := dead } : DV).At w' base where
  obj := ho
  dur := h.dur.mod hm (fun k hk e => by simp [blkOf] at hk; exact h.d1 (by omega))
  now := h.now.mod hm (fun k hk e => by simp [blkOf] at hk; exact h.d2 (by omega))
  pend := h.pend.mod hm (fun k hk e => h.d4.1 (by rw [hk, e]))
  secs := fun s hs => (h.secs s hs).mod (hm.mono (fun _ _ e => .inl e))
  wsecs := fun y hy => ⟨(h.wsecs y hy).1, (h.wsecs y hy).2.mod (hm.mono (fun _ _ e => .inl e))⟩
  pb := h.pb
  d1 := h.d1
  d2 := h.d2
  d3 := h.d3
  d4 := h.d4
  pos := h.pos
  few := h.few
  lft := hl

/-- None of its sectors lies in the blocks N. -/
def DV.Avoid (x : DV) (N : Nat → Prop) : Prop := (∀ s ∈ x.D, ∀ k, blkOf s.A = some k → ¬ N k) ∧ ∀ y ∈ x.W, ∀ k, blkOf y.2.A = some k → ¬ N k

/-- What a device's call leaves. -/
structure Left (w w' : World) (base : Nat) (x x' : DV) (d : Dk) : Prop where
  at_ : x'.At w' base
  dk : x'.dk = d
  p : x'.p = x.p
  mod : Mod x.M w w'
  grows : ∀ k, x'.M k → x.M k ∨ w.heap.size ≤ k
  av : ∀ N : Nat → Prop, (∀ k, N k → k < w.heap.size) → x.Avoid N → x'.Avoid N

theorem Left.stay {w : World} {base : Nat} {x : DV} (h : x.At w base) : Left w w base x x x.dk := ⟨h, rfl, rfl, Mod.refl _ _, fun _ h => .inl h, fun _ _ h => h⟩
theorem Left.trans {w w1 w2 : World} {base : Nat} {x x1 x2 : DV} {d1 d2 : Dk} (h : Left w w1 base x x1 d1) (k : Left w1 w2 base x1 x2 d2) : Left w w2 base x x2 d2 where
  at_ := k.at_
  dk := k.dk
  p := k.p.trans h.p
  mod := h.mod.trans k.mod (fun i hi hm => (h.grows i hm).resolve_right (by omega))
  grows := fun i hi => by
    rcases k.grows i hi with h1 | h1
    · exact h.grows i h1
    · exact .inr (Nat.le_trans h.mod.size h1)
  av := fun N hN hx => k.av N (fun k hk => Nat.lt_of_lt_of_le (hN k hk) h.mod.size) (h.av N hN hx)
theorem Mod.one {a w : World} {b : Nat} (h : Mod (fun k => k = b) a w) (i : Nat) (u : Value) : Mod (fun k => k = b) a (w.setCell ⟨b, i, none⟩ u) := h.setCell (p := ⟨b, i, none⟩) (fun _ => rfl) u

set_option maxRecDepth 100000 in
theorem step_ok (w : World) (base : Nat) (x : DV) (h : x.At w base) :
    Calls Tryz.prog 21 #[.pointer (some ⟨x.p, 0, none⟩)] w fun e w' => e = .returned (.int .i64 x.dk.stepE) ∧ ∃ x', Left w w' base x x' x.dk.stepD := by
  obtain ⟨c0, c1, c2, c3, c4, c5⟩ := h.cells
  have f4 := h.frozen 4
  have f5 := h.frozen 5
  have hlf := h.lft
  cases ha : x.armed with
  | false =>
    have e1 : x.dk.stepE = 0 := by simp [Dk.stepE, DV.dk, ha]
    have e2 : x.dk.stepD = x.dk := by simp [Dk.stepD, DV.dk, ha]
    rw [e1, e2]
    rw [ha] at c3
    have HL := Lib.hid (Left.stay h)
    clear e1 e2 h c0 c1 c2 c4 c5 f4 f5 ha
    go_enter Tryz.func21, Tryz.ntmps21
    go_wp2
    go_ret
    exact ⟨rfl, _, HL.out⟩
  | true =>
    by_cases h0 : x.left = 0
    · have e1 : x.dk.stepE = 30 := by simp [Dk.stepE, DV.dk, ha, h0]
      have e2 : x.dk.stepD = { x.dk with dead := true } := by simp [Dk.stepD, DV.dk, ha, h0]
      rw [e1, e2]
      rw [ha] at c3
      rw [h0] at c4
      have H := Lib.hid h
      clear e1 e2 h c0 c1 c2 f4 ha h0 hlf
      go_enter Tryz.func21, Tryz.ntmps21
      go_wp2
      go_ret
      refine ⟨rfl, ?_⟩
      have hm : Mod (fun k => k = x.p) w (w.setCell ⟨x.p, 5, none⟩ (.bool true)) := (Mod.refl _ w).one _ _
      have ho := heap_set H.out.obj 5 (.bool true)
      exact ⟨_, H.out.flags (armed := x.armed) (left := x.left) (dead := true) H.out.lft hm (ho.trans rfl), rfl, rfl, hm.mono (fun _ _ e => .inl e), fun _ e => .inl e, fun _ _ h => h⟩
    · have e1 : x.dk.stepE = 0 := by simp [Dk.stepE, DV.dk, h0]
      have e2 : x.dk.stepD = { x.dk with left := x.left - 1 } := by simp [Dk.stepD, DV.dk, ha, h0]
      rw [e1, e2]
      rw [ha] at c3
      have hne : (x.left == 0) = false := by simpa using h0
      have hll : -9223372036854775808 ≤ x.left - 1 := by omega
      have hlh : x.left - 1 < 9223372036854775808 := by omega
      have H := Lib.hid h
      have H0 := Lib.hid h0
      clear e1 e2 h c0 c1 c2 c5 f5 ha h0
      go_enter Tryz.func21, Tryz.ntmps21
      go_wp2
      go_ret
      refine ⟨rfl, ?_⟩
      have hm : Mod (fun k => k = x.p) w (w.setCell ⟨x.p, 4, none⟩ (.int .i64 (x.left - 1))) := (Mod.refl _ w).one _ _
      have ho := heap_set H.out.obj 4 (.int .i64 (x.left - 1))
      exact ⟨_, H.out.flags (armed := x.armed) (left := x.left - 1) (dead := x.dead) (by have := H.out.lft; have := H0.out; omega) hm (ho.trans rfl), rfl, rfl, hm.mono (fun _ _ e => .inl e), fun _ e => .inl e, fun _ _ h => h⟩

theorem arm_left {w : World} {base : Nat} {x : DV} (h : x.At w base) (n : Int) (hn : n < 9223372036854775808) (b : Bool) (m : Int) (hb : b = decide (0 ≤ n)) (hm : m = max n 0) :
    ∃ x', Left w ((w.setCell ⟨x.p, 3, none⟩ (.bool b)).setCell ⟨x.p, 4, none⟩ (.int .i64 m)) base x x' (x.dk.arm n) := by
  subst hb; subst hm
  have hm : Mod (fun k => k = x.p) w ((w.setCell ⟨x.p, 3, none⟩ (.bool (decide (0 ≤ n)))).setCell ⟨x.p, 4, none⟩ (.int .i64 (max n 0))) := ((Mod.refl _ w).one _ _).one _ _
  have ho := heap_set (heap_set h.obj 3 (.bool (decide (0 ≤ n)))) 4 (.int .i64 (max n 0))
  exact ⟨_, h.flags (armed := decide (0 ≤ n)) (left := max n 0) (dead := x.dead) (by omega) hm (ho.trans rfl), rfl, rfl, hm.mono (fun _ _ e => .inl e), fun _ e => .inl e, fun _ _ h => h⟩

end Go.Proofs.YtnbamljaiahmdaaGreat

namespace Go.Proofs.YtnbamljaiahmdaaGreat
open Go Go.RowKit

theorem secElem : Elem Tryz.prog 52 50 (.slice none 0 0) 24 := Elem.mk_ Tryz.underlying52 rfl (by kernel_rfl)

theorem OwV.empty (w : World) (e : TypeId) : OwV (w.alloc (.cells #[] e)) w.heap.size e (some ⟨w.heap.size, 0, none⟩) 0 0 [] :=
  OwV.of_block (cur := []) (Nat.le_refl _) (heap_alloc_new w _) (by simp)

set_option maxRecDepth 100000 in
theorem bclone_ok (w : World) (b o n c : Nat) (xs : List UInt8) (h : Sl w (some ⟨b, o, none⟩) n c xs) (hn : n ≤ 1000) :
    Calls Tryz.prog 22 #[.slice (some ⟨b, o, none⟩) n c] w fun e w' => ∃ A' c', e = .returned (.slice A' n c') ∧ FreshR w w' A' n c' xs := by
  have hown := OwV.empty w 5
  have hsrc := (h.alloc (.cells #[] 5)).src
  have hml : 0 + n ≤ maxLen := by unfold maxLen; omega
  have hbase : w.heap.size ≤ (w.alloc (.cells #[] 5)).heap.size := by simp
  have heq : ∀ w : World, (binOp .eql 28 (.slice (some ⟨b, o, none⟩) n c) (.slice none 0 0)).run Tryz.prog w = .ok (.bool false) w := fun _ => by kernel_rfl
  clear h
  go_enter Tryz.func22, Tryz.ntmps22
  go_wp2_with (at_builtin; refine wpList_app (.tmp 5) (.tmp 6) byteElem rfl rfl rfl rfl hown hsrc (by omega) hml hbase ?_)
  intro A4 c4 w4 hown4 hg4 _
  have hm4 : Mod (fun _ => False) w w4 := ((Mod.refl _ w).alloc (.cells #[] 5)).grown hg4 (fun k e hk => by simp [blkOf] at e; omega)
  have H4 := Lib.hid hown4
  clear hown4 hown hsrc hg4
  go_wp2
  go_ret
  exact ⟨A4, c4, rfl, H4.out, hm4⟩

theorem Src.of_own {w : World} {base : Nat} {e : TypeId} {A : Option Addr} {n c : Nat} {vs : List Value} (h : OwV w base e A n c vs) (h1 : ∀ u ∈ vs, u.oneCell' = true) : Src w A n vs := by
  refine ⟨h.len, h1, fun hn => ?_⟩
  obtain ⟨g, rfl, hc⟩ := h.cells hn
  refine ⟨_, rfl, fun j u hu => ?_⟩
  have hj : j < n := by have := (List.getElem?_eq_some_iff.1 hu).1; rw [h.len] at this; exact this
  have hadd : (⟨g, 0, none⟩ : Addr).add j = ⟨g, j, none⟩ := by unfold Addr.add; split <;> simp_all
  rw [hadd, hc j hj]
  exact hu

theorem scts_one (D : List Sct) : ∀ u ∈ D.map Sct.v, u.oneCell' = true := by
  intro u hu
  obtain ⟨s, _, rfl⟩ := List.mem_map.1 hu
  rfl

/-- A row of sectors' slices, in new memory. -/
def FreshS (w w' : World) (g c : Nat) (D : List Sct) : Prop :=
  OwV w' w.heap.size 50 (some ⟨g, 0, none⟩) D.length c (D.map Sct.v) ∧ Mod (fun _ => False) w w'

set_option maxRecDepth 100000 in
theorem sclone_ok (w : World) (base b c : Nat) (D : List Sct) (h : OwV w base 50 (some ⟨b, 0, none⟩) D.length c (D.map Sct.v)) (hn : D.length ≤ 4096) (h0 : 0 < D.length) :
    Calls Tryz.prog 39 #[.slice (some ⟨b, 0, none⟩) D.length c] w fun e w' => ∃ g c', e = .returned (.slice (some ⟨g, 0, none⟩) D.length c') ∧ FreshS w w' g c' D := by
  have hown := OwV.empty w 50
  have hsrc := Src.of_own (h.alloc (.cells #[] 50)) (scts_one D)
  have hml : 0 + D.length ≤ maxLen := by unfold maxLen; omega
  have hbase : w.heap.size ≤ (w.alloc (.cells #[] 50)).heap.size := by simp
  have heq : ∀ w : World, (binOp .eql 52 (.slice (some ⟨b, 0, none⟩) D.length c) (.slice none 0 0)).run Tryz.prog w = .ok (.bool false) w := fun _ => by kernel_rfl
  clear h
  go_enter Tryz.func39, Tryz.ntmps39
  go_wp2_with (at_builtin; refine wpList_app (.tmp 5) (.tmp 6) secElem rfl rfl rfl rfl hown hsrc (by omega) hml hbase ?_)
  intro A4 c4 w4 hown4 hg4 _
  have hm4 : Mod (fun _ => False) w w4 := ((Mod.refl _ w).alloc (.cells #[] 50)).grown hg4 (fun k e hk => by simp [blkOf] at e; omega)
  obtain ⟨g, rfl, _⟩ := hown4.cells h0
  have H4 := Lib.hid hown4
  clear hown4 hown hsrc hg4
  go_wp2
  go_ret
  exact ⟨g, c4, rfl, H4.out, hm4⟩

/-- A device over new sectors. -/
def DV.fresh (p bd bn cd cn : Nat) (D : List Sct) : DV := ⟨p, bd, bn, cd, cn, none, 0, D, [], false, 0, false⟩
def Dk.fresh (D : List (List UInt8)) : Dk := ⟨D, [], false, 0, false⟩

/-- A new device: in new memory, and nothing old has turned. -/
def Made (w w' : World) (base : Nat) (x : DV) (d : Dk) : Prop := x.At w' base ∧ x.dk = d ∧ (∀ k, x.M k → base ≤ k) ∧ Mod (fun _ => False) w w'

set_option maxRecDepth 100000 in
theorem made_ok (w : World) (base b c : Nat) (D : List Sct) (h : OwV w base 50 (some ⟨b, 0, none⟩) D.length c (D.map Sct.v)) (hn : D.length ≤ 4096) (h0 : 0 < D.length)
    (hb : base ≤ w.heap.size) (hs : ∀ s ∈ D, s.At w (fun k => k = b)) :
    Calls Tryz.prog 18 #[.slice (some ⟨b, 0, none⟩) D.length c] w fun e w' => ∃ x, e = .returned (.pointer (some ⟨x.p, 0, none⟩)) ∧ Made w w' base x (Dk.fresh (D.map Sct.xs)) := by
  go_enter Tryz.func18, Tryz.ntmps18
  go_wp2_with fail
  refine (sclone_ok _ _ _ _ _ h hn h0).mono ?_
  rintro e w1 ⟨g, c', rfl, hf, hm⟩
  have H1 := Lib.hid (h.mod hm (fun _ _ => id))
  have Hbl := Lib.hid (h.lt b rfl)
  have Hs := Lib.hid hs
  have Hf := Lib.hid hf
  clear h hs hf
  go_wp2
  go_ret
  have hsz := hm.size
  have hg := Hf.out.lt g rfl
  refine ⟨DV.fresh w1.heap.size b g c c' D, rfl, ?_, rfl, ?_, hm.alloc _⟩
  · refine ⟨heap_alloc_new w1 _, H1.out.alloc _, ?_, OwN.nil _ _ _ _, fun s hs => ?_, by simp [DV.fresh], by show base ≤ w1.heap.size; omega, ?_, ?_, ?_, by simp [DV.fresh, blkOf], h0, hn, by simp [DV.fresh]⟩
    · exact ((Hf.out.rebase (base' := base) (fun k e => by simp [blkOf] at e; omega)).alloc _)
    · have hs1 := Hs.out s hs
      refine ⟨(hs1.1.mod hm (fun _ _ _ => id)).alloc _, fun k hk hM => ?_⟩
      obtain ⟨bb, oo, hA, hbb⟩ := hs1.1.lt (by omega)
      have hkb : k = bb := by rw [hA] at hk; simp [blkOf] at hk; omega
      rcases hM with e | e | e | e
      · simp only [DV.fresh] at e; omega
      · exact hs1.2 k hk e
      · simp only [DV.fresh] at e; omega
      · simp [DV.fresh, blkOf] at e
    · have := Hbl.out; simp only [DV.fresh]; omega
    · simp only [DV.fresh]; omega
    · have := Hbl.out; simp only [DV.fresh]; omega
  · have := Hbl.out
    rintro k (e | e | e | e)
    · simp only [DV.fresh] at e; omega
    · simp only [DV.fresh] at e; omega
    · simp only [DV.fresh] at e; omega
    · simp [DV.fresh, blkOf] at e

/-- What Read answers. -/
def Dk.read (d : Dk) (i : Int) : List UInt8 := if d.reach i = 0 then d.now.getD i.toNat [] else []
theorem DV.read_eq (x : DV) (i : Int) (s : Sct) (hr : x.dk.reach i = 0) (hs : (lay x.D x.W)[i.toNat]? = some s) : x.dk.read i = s.xs := by
  unfold Dk.read
  rw [if_pos hr, x.dk_now, List.getD_eq_getElem?_getD, List.getElem?_map, hs]
  rfl
theorem Dk.reach_zero {d : Dk} {i : Int} (h : d.reach i = 0) : d.dead = false ∧ 0 ≤ i ∧ i < d.dur.length := by
  unfold Dk.reach at h
  split at h
  · cases h
  · rename_i hd
    split at h
    · rename_i hi; exact ⟨by simpa using hd, hi⟩
    · cases h
theorem mem_lay {α : Type} (W : List (Nat × α)) : ∀ (D : List α) (s : α), s ∈ lay D W → s ∈ D ∨ ∃ y ∈ W, y.2 = s := by
  induction W with
  | nil => intro D s h; exact .inl h
  | cons y W ih =>
    intro D s h
    rcases ih (D.set y.1 y.2) s h with h1 | ⟨z, hz, e⟩
    · rcases List.mem_or_eq_of_mem_set h1 with h2 | h2
      · exact .inl h2
      · exact .inr ⟨y, List.mem_cons_self .., h2.symm⟩
    · exact .inr ⟨z, List.mem_cons_of_mem _ hz, e⟩
/-- The sector that Read finds. -/
theorem DV.At.nowAt {w : World} {base : Nat} {x : DV} (h : x.At w base) (i : Nat) (hi : i < x.D.length) :
    ∃ s, (lay x.D x.W)[i]? = some s ∧ s.At w x.M ∧ w.cell? ⟨x.bn, i, none⟩ = some s.v := by
  have hl : i < (lay x.D x.W).length := by rw [lay_len]; exact hi
  refine ⟨(lay x.D x.W)[i], List.getElem?_eq_getElem hl, ?_, ?_⟩
  · rcases mem_lay x.W x.D _ (List.getElem_mem hl) with h1 | ⟨y, hy, e⟩
    · exact h.secs _ h1
    · rw [← e]; exact (h.wsecs y hy).2
  · obtain ⟨g, hg, hc⟩ := h.now.cells (by omega)
    injection hg with hg; injection hg with hg
    subst hg
    rw [hc i hi, List.getElem?_map, List.getElem?_eq_getElem hl]
    rfl

set_option maxRecDepth 100000 in
theorem read_ok (w : World) (base : Nat) (x : DV) (h : x.At w base) (i : Int) :
    Calls Tryz.prog 28 #[.pointer (some ⟨x.p, 0, none⟩), .int .i64 i] w fun e w' => ∃ A n c, e = .returned (.tuple #[.slice A n c, .int .i64 (x.dk.reach i)]) ∧ FreshR w w' A n c (x.dk.read i) := by
  by_cases hr : x.dk.reach i = 0
  · obtain ⟨_, h0, h1⟩ := Dk.reach_zero hr
    rw [x.dk_len] at h1
    obtain ⟨s, hs, hat, hc⟩ := h.nowAt i.toNat (by omega)
    have He := Lib.hid (x.read_eq i s hr hs)
    obtain ⟨b, o, hA, _⟩ := hat.1.lt (by omega)
    obtain ⟨c0, c1, c2, c3, c4, c5⟩ := h.cells
    have Hat := Lib.hid hat
    have hc' : w.cell? ⟨x.bn, i.toNat, none⟩ = some (.slice (some ⟨b, o, none⟩) 256 s.c) := by rw [hc, ← hA]; rfl
    have H := Lib.hid h
    have hSl : Hid (Sl w (some ⟨b, o, none⟩) 256 s.c s.xs) := by rw [← hA]; exact Hat.out.1
    clear hs hat hc hA c0 c2 c3 c4 c5 h
    go_enter Tryz.func28, Tryz.ntmps28
    go_wp2_with fail
    refine (reach_ok _ _ x H.out i).mono ?_
    rintro e w' ⟨rfl, rfl⟩
    rw [hr]
    go_wp2_with fail
    refine (bclone_ok _ _ _ _ _ _ hSl.out (by omega)).mono ?_
    rintro e w1 ⟨A', c', rfl, hf⟩
    rw [← He.out] at hf
    have Hf := Lib.hid hf
    clear hf
    go_wp2
    go_ret2
    exact ⟨A', 256, c', by rw [hr]; rfl, Hf.out⟩
  · have He : Hid (x.dk.read i = []) := by show _ = _; unfold Dk.read; rw [if_neg hr]
    have hne : (x.dk.reach i != 0) = true := by simpa using hr
    have H := Lib.hid (reach_ok w base x h i)
    clear h hr
    generalize x.dk.reach i = r at *
    go_enter Tryz.func28, Tryz.ntmps28
    go_wp2_with fail
    refine H.out.mono ?_
    rintro e w' ⟨rfl, rfl⟩
    go_wp2
    go_ret2
    refine ⟨none, 0, 0, rfl, ?_⟩
    rw [He.out]
    exact ⟨OwV.nil _ _ _, Mod.refl _ _⟩
end Go.Proofs.YtnbamljaiahmdaaGreat

namespace Go.Proofs.YtnbamljaiahmdaaGreat
open Go Go.RowKit

section
variable {P : Program} {w : World}
/-- append of elements of several cells, the operation by itself. -/
theorem wp_appN {o : Oper} {a : Act} {K : Act → World → Prop} {Q : Exit → Act → World → Prop} (s x : Operand) {t e : TypeId} {z : Value} {size bytes : Nat}
    {base : Nat} {A : Option Addr} {n c : Nat} {vs : List Value} {A2 : Option Addr} {m c2 : Nat} {news : List Value}
    (he : ElemN P t e z size bytes)
    (ho : o.op = .call { callee := .builtin .append, args := #[s, x], argTypes := #[t, t] })
    (hes : a.eval s = .slice A n c) (hex : a.eval x = .slice A2 m c2)
    (hown : OwN w base e size A n c vs) (hs : SrcN w A2 m size news)
    (hb : (n + m) * bytes ≤ 140737488355328) (h63 : n + m ≤ maxLen) (hbase : base ≤ w.heap.size)
    (h : ∀ A' c' w', OwN w' base e size A' (n + m) c' (vs ++ news) → w.grownBy w' (blkOf A) → (blkOf A' = blkOf A ∨ blkOf A' = some w.heap.size) → K (a.put o.dst (.slice A' (n + m) c')) w') :
    Oper.wp P o a w K Q := by
  obtain ⟨A', c', w', hr, h2, h3, h4⟩ := run_appN (P := P) (w := w) he o.type hown (c2 := c2) hs hb h63 hbase
  unfold Oper.wp execOp
  simp only [ho, resolve, invoke, builtin, Sem.run_bind, Sem.run_pure, Result.andThen_ok, List.map_toArray, List.map_cons, List.map_nil, hes, hex, hr]
  exact h A' c' w' h2 h3 h4
end

theorem writeElem : ElemN Tryz.prog 58 57 (.agg #[.int .i64 0, .slice none 0 0]) 2 32 :=
  ElemN.mk_ Tryz.underlying58 rfl (by decide) (by kernel_rfl)

theorem DV.dk_W {x x1 : DV} (h : x1.dk.pend = x.dk.pend) : x1.W.length = x.W.length := by
  have := congrArg List.length h
  simpa [DV.dk] using this
theorem DV.dk_D {x x1 : DV} (h : x1.dk.dur = x.dk.dur) : x1.D.length = x.D.length := by
  have := congrArg List.length h
  simpa [DV.dk] using this
theorem Dk.stepD_dur (d : Dk) : d.stepD.dur = d.dur := by unfold Dk.stepD; split <;> (try split) <;> rfl
theorem Dk.stepD_pend (d : Dk) : d.stepD.pend = d.pend := by unfold Dk.stepD; split <;> (try split) <;> rfl

/-- A store into a row of the call's own. -/
theorem OwV.set {w : World} {base : Nat} {e : TypeId} {g n c : Nat} {vs : List Value} (h : OwV w base e (some ⟨g, 0, none⟩) n c vs) (j : Nat) (u : Value) : OwV (w.setCell ⟨g, j, none⟩ u) base e (some ⟨g, 0, none⟩) n c (vs.set j u) := by
  have hl := h.len
  obtain ⟨_, cur, hg, h1, h2, h3, h4⟩ := h.block rfl
  have hb := (h.lt g rfl).1
  refine ⟨by simpa using hl, .inr ⟨g, c, cur.setIfInBounds j u, rfl, hb, heap_set hg j u, h1, h2, by simpa using h3, ?_⟩⟩
  rw [Array.toList_setIfInBounds, List.take_set, Nat.mul_one, h4]
theorem OwV.spot {w : World} {base : Nat} {e : TypeId} {g n c : Nat} {vs : List Value} (h : OwV w base e (some ⟨g, 0, none⟩) n c vs) (j : Nat) (hj : j < n) : (∃ u, w.cell? ⟨g, j, none⟩ = some u ∧ vs[j]? = some u) ∧ w.frozen? ⟨g, j, none⟩ = false := by
  have hl := h.len
  obtain ⟨_, cur, hg, h1, h2, h3, h4⟩ := h.block rfl
  refine ⟨⟨vs[j]'(by omega), ?_, List.getElem?_eq_getElem (by omega)⟩, frozen_of_block hg j⟩
  obtain ⟨g', e', hc⟩ := h.cells (by omega)
  injection e' with e'; injection e' with e'; subst e'
  rw [hc j hj]
  exact List.getElem?_eq_getElem (by omega)

theorem map_set_v (D : List Sct) (j : Nat) (s : Sct) : (D.map Sct.v).set j s.v = (D.set j s).map Sct.v := by rw [List.map_set]

/-- The write is laid into 'now', and joins those that are pending. -/
theorem write_done {w w5 : World} {base : Nat} {x : DV} (h : x.At w base) (s : Sct) (hs : s.At w x.M) (j : Nat) (hj : j < x.D.length)
    (hm5 : Mod (fun k => blkOf x.pA = some k) (w.setCell ⟨x.bn, j, none⟩ s.v) w5) (A5 : Option Addr) (c5 : Nat) (hown : OwN w5 base 57 2 A5 (x.W.length + 1) c5 (pcells (x.W ++ [(j, s)])))
    (hA5 : ∀ k, blkOf A5 = some k → blkOf x.pA = some k ∨ w.heap.size ≤ k) (w1 : World) (hLk : Left w1 w base x x x.dk) (hnew : ∀ k, blkOf s.A = some k → w1.heap.size ≤ k) :
    ∃ x', Left w1 (w5.setCell ⟨x.p, 2, none⟩ (.slice A5 (x.W.length + 1) c5)) base x x' { x.dk with pend := x.dk.pend ++ [(j, s.xs)] } := by
  have hm4 : Mod (fun k => k = x.bn) w (w.setCell ⟨x.bn, j, none⟩ s.v) := (Mod.refl _ w).one _ _
  have hm45 : Mod x.M w w5 := (hm4.mono (fun _ _ e => .inr (.inr (.inl e)))).trans hm5 (fun k _ e => .inr (.inr (.inr e)))
  have hm6 : Mod (fun k => k = x.p) w5 (w5.setCell ⟨x.p, 2, none⟩ (.slice A5 (x.W.length + 1) c5)) := (Mod.refl _ w5).one _ _
  have hmod : Mod x.M w (w5.setCell ⟨x.p, 2, none⟩ (.slice A5 (x.W.length + 1) c5)) := hm45.trans hm6 (fun k _ e => .inl e)
  have hsz : (w.setCell ⟨x.bn, j, none⟩ s.v).heap.size = w.heap.size := by simp [World.setCell]
  have hlt : ∀ k, x.M k → k < w.heap.size := fun k hk => (h.M_lt hk).2
  have ho5 : w5.heap[x.p]? = some (.cells x.obj 60 (0, 0)) :=
    (hm5.block _ (by rw [hsz]; exact hlt _ (.inl rfl)) h.d4.1).trans ((hm4.block _ (hlt _ (.inl rfl)) h.d2).trans h.obj)
  have havoid : ∀ k, k < w.heap.size → ({ x with pA := A5, cp := c5, W := x.W ++ [(j, s)] } : DV).M k → x.M k := by
    rintro k hk (e | e | e | e)
    · exact .inl e
    · exact .inr (.inl e)
    · exact .inr (.inr (.inl e))
    · exact .inr (.inr (.inr ((hA5 k e).resolve_right (by omega))))
  have hsec : ∀ t : Sct, t.At w x.M → t.At (w5.setCell ⟨x.p, 2, none⟩ (.slice A5 (x.W.length + 1) c5)) ({ x with pA := A5, cp := c5, W := x.W ++ [(j, s)] } : DV).M := by
    intro t ht
    have h1 := ht.avoid havoid
    exact ⟨(ht.mod hmod).1, h1.2⟩
  have hne : ∀ k, blkOf A5 = some k → k ≠ x.p ∧ k ≠ x.bd ∧ k ≠ x.bn := by
    intro k hk
    rcases hA5 k hk with e | e
    · refine ⟨fun q => h.d4.1 ?_, fun q => h.d4.2.1 ?_, fun q => h.d4.2.2 ?_⟩ <;> rw [e, q]
    · have h1 := hlt x.p (.inl rfl)
      have h2 := hlt x.bd (.inr (.inl rfl))
      have h3 := hlt x.bn (.inr (.inr (.inl rfl)))
      omega
  refine ⟨{ x with pA := A5, cp := c5, W := x.W ++ [(j, s)] }, ⟨?_, ?_, ?_, ?_, fun t ht => hsec t (h.secs t ht), ?_, h.pb, h.d1, h.d2, h.d3, ?_, h.pos, h.few, h.lft⟩, ?_, rfl, hLk.mod.trans hmod (fun _ _ e => e), ?_, ?_⟩
  · have := heap_set ho5 2 (.slice A5 (x.W.length + 1) c5)
    rw [this]
    simp [DV.obj]
  · exact ((h.dur.mod hm4 (fun k hk e => by simp [blkOf] at hk; exact h.d3 (by omega))).mod hm5 (fun k hk e => by simp [blkOf] at hk; exact h.d4.2.1 (by rw [e, hk]))).mod hm6 (fun k hk e => by simp [blkOf] at hk; exact h.d1 (by omega))
  · have h1 := h.now.set j s.v
    rw [map_set_v, ← lay_snoc x.D x.W (j, s)] at h1
    exact (h1.mod hm5 (fun k hk e => by simp [blkOf] at hk; exact h.d4.2.2 (by rw [e, hk]))).mod hm6 (fun k hk e => by simp [blkOf] at hk; exact h.d2 (by omega))
  · have h1 := hown.mod hm6 (fun k hk e => (hne k hk).1 e)
    simpa using h1
  · intro y hy
    rcases List.mem_append.1 hy with hy | hy
    · exact ⟨(h.wsecs y hy).1, hsec _ (h.wsecs y hy).2⟩
    · simp at hy; subst hy; exact ⟨hj, hsec _ hs⟩
  · exact ⟨fun e => (hne _ e).1 rfl, fun e => (hne _ e).2.1 rfl, fun e => (hne _ e).2.2 rfl⟩
  · simp [DV.dk]
  · rintro k (e | e | e | e)
    · exact .inl (.inl e)
    · exact .inl (.inr (.inl e))
    · exact .inl (.inr (.inr (.inl e)))
    · rcases hA5 k e with q | q
      · exact .inl (.inr (.inr (.inr q)))
      · exact .inr (Nat.le_trans hLk.mod.size q)
  · rintro N hN ⟨a1, a2⟩
    refine ⟨a1, fun y hy k hk hNk => ?_⟩
    rcases List.mem_append.1 hy with hy | hy
    · exact a2 y hy k hk hNk
    · simp at hy
      subst hy
      have := hnew k hk
      have := hN k hNk
      omega

set_option maxRecDepth 100000 in
set_option maxHeartbeats 1600000 in
theorem write_ok (w : World) (base : Nat) (x : DV) (h : x.At w base) (hb : base ≤ w.heap.size) (i : Int) (A : Option Addr) (n c : Nat) (ys : List UInt8) (hy : Sl w A n c ys) (hM : ∀ k, blkOf A = some k → ¬ x.M k) (hW : x.W.length ≤ 1000) :
    Calls Tryz.prog 6 #[.pointer (some ⟨x.p, 0, none⟩), .int .i64 i, .slice A n c] w fun e w' => e = .returned (.int .i64 (x.dk.writeE i n)) ∧ ∃ x', Left w w' base x x' (x.dk.write i ys) := by
  by_cases hr : x.dk.reach i = 0
  · by_cases hn : n = 256
    · subst hn
      by_cases hs : x.dk.stepE = 0
      · have e1 : x.dk.writeE i 256 = 0 := by unfold Dk.writeE; rw [if_pos hr, if_pos rfl, hs]
        have e2 : x.dk.write i ys = { x.dk.stepD with pend := x.dk.pend ++ [(i.toNat, ys)] } := by unfold Dk.write; rw [if_pos ⟨hr, hy.len⟩, if_pos hs]
        rw [e1, e2]
        obtain ⟨_, hi0, hi1⟩ := Dk.reach_zero hr
        rw [x.dk_len] at hi1
        have H := Lib.hid h
        have Hy := Lib.hid hy
        have HM := Lib.hid hM
        have Hs := Lib.hid (step_ok w base x h)
        have Hr := Lib.hid (reach_ok w base x h i)
        rw [hr] at Hr
        rw [hs] at Hs
        clear h hy hM e1 e2 hr hs
        go_enter Tryz.func6, Tryz.ntmps6
        go_wp2_with fail
        refine Hr.out.mono ?_
        rintro e w' ⟨rfl, rfl⟩
        go_wp2_with fail
        refine Hs.out.mono ?_
        rintro e w1 ⟨rfl, x1, hL⟩
        have hy1 := Hy.out.mod hL.mod (fun k e _ => HM.out k e)
        obtain ⟨b, o, hA, hbl⟩ := hy1.lt (by omega)
        subst hA
        clear Hr Hs
        go_wp2_with fail
        refine (bclone_ok _ _ _ _ _ _ hy1 (by omega)).mono ?_
        rintro e w2 ⟨A', c', rfl, hf, hm2⟩
        have h2 := hL.at_.keep hm2
        have hb2 := hf.lt
        have hD1 : x1.D.length = x.D.length := DV.dk_D (by rw [hL.dk, Dk.stepD_dur])
        have hW1 : x1.W.length = x.W.length := DV.dk_W (by rw [hL.dk, Dk.stepD_pend])
        have hp1 := hL.p
        rw [← hp1]
        rw [← hD1] at hi1
        have hW1' : x1.W.length ≤ 1000 := by omega
        have Hm2 := Lib.hid hm2
        have HL := Lib.hid hL
        have Hf := Lib.hid hf
        have Hb2 := Lib.hid hb2
        have Hnew : Hid (∀ k, blkOf A' = some k → w1.heap.size ≤ k) := fun k hk => (hb2 k hk).1
        have H2 := Lib.hid h2
        clear hm2 hL hf hb2 h2 hy1 hD1 hW1 hp1 Hy HM H hW
        go_wp2_with fail
        have hsat : (⟨A', c', ys⟩ : Sct).At w2 x1.M := ⟨Hf.out.sl, fun k hk hM => by have h1 := (Hb2.out k hk).1; have h2 := (HL.out.at_.M_lt hM).2; omega⟩
        obtain ⟨w3, hw3⟩ : ∃ w3, w3 = w2.alloc (.cells #[.int .i64 i, .slice A' 256 c'] 57) := ⟨_, rfl⟩
        rw [← hw3]
        have hm3 : Mod (fun _ => False) w2 w3 := by rw [hw3]; exact (Mod.refl _ _).alloc _
        have h3 : x1.At w3.drew base := H2.out.keep hm3.drew
        have hs3 : (⟨A', c', ys⟩ : Sct).At w3.drew x1.M := hsat.keep hm3.drew
        have hb3 : w3.heap[w2.heap.size]? = some (.cells #[.int .i64 i, .slice A' 256 c'] 57 (0, 0)) := by rw [hw3]; exact heap_alloc_new w2 _
        have c31 : w3.cell? ⟨w2.heap.size, 1, none⟩ = some (.slice A' 256 c') := by rw [cell_of_row _ _ _ _ _ _ hb3]; rfl
        have c3n := h3.cells.2.1
        obtain ⟨⟨u, cu, _⟩, fu⟩ := h3.now.spot i.toNat (by omega)
        have hsz3 : w3.heap.size = w2.heap.size + 1 := by rw [hw3]; simp
        have Hsz3 : Hid (w3.drew.heap.size = w2.heap.size + 1) := hsz3
        have Hm3 := Lib.hid hm3.drew
        have H3 := Lib.hid h3
        have Hs3 := Lib.hid hs3
        have Hb3 : Hid (w3.drew.heap[w2.heap.size]? = some (.cells #[.int .i64 i, .slice A' 256 c'] 57 (0, 0))) := hb3
        have Hb := Lib.hid hb
        clear hw3 hm3 h3 hs3 hb3 hsat H2 Hf Hb2 hb hsz3
        go_still_tail 7, (by kernel_rfl)
        change wpList _ _ _ _ _ w3.drew
        have c3n' : w3.drew.cell? ⟨x1.bn, i.toNat, none⟩ = some u := cu
        have fu' : w3.drew.frozen? ⟨x1.bn, i.toNat, none⟩ = false := fu
        clear c31 c3n cu fu
        generalize w3.drew = W3 at *
        go_wp2_with fail
        -- the pending writes: one more
        obtain ⟨w4, hw4⟩ : ∃ w4, w4 = W3.setCell ⟨x1.bn, i.toNat, none⟩ (.slice A' 256 c') := ⟨_, rfl⟩
        rw [← hw4]
        have hm4 : Mod (fun k => k = x1.bn) W3 w4 := by rw [hw4]; exact (Mod.refl _ _).one _ _
        have hs4 : w4.heap.size = W3.heap.size := by rw [hw4]; simp [World.setCell]
        have hlt3 : ∀ k, x1.M k → k < W3.heap.size := fun k hk => (H3.out.M_lt hk).2
        have hbl4 : w4.heap[w2.heap.size]? = some (.cells #[.int .i64 i, .slice A' 256 c'] 57 (0, 0)) :=
          (hm4.block _ (by have := Hsz3.out; omega) (fun e => by
            have h1 := (HL.out.at_.M_lt (.inr (.inr (.inl rfl)))).2
            have h2 := Hm2.out.size
            omega)).trans Hb3.out
        have c40 : w4.cell? ⟨w2.heap.size, 0, none⟩ = some (.int .i64 i) := by rw [cell_of_row _ _ _ _ _ _ hbl4]; rfl
        have c41 : w4.cell? ⟨w2.heap.size, 1, none⟩ = some (.slice A' 256 c') := by rw [cell_of_row _ _ _ _ _ _ hbl4]; rfl
        have hob4 := (hm4.block _ (hlt3 _ (.inl rfl)) H3.out.d2).trans H3.out.obj
        have c4p : w4.cell? ⟨x1.p, 2, none⟩ = some (.slice x1.pA x1.W.length x1.cp) := by rw [cell_of_row _ _ _ _ _ _ hob4]; rfl
        have c4q : (w4.alloc (.cells #[.int .i64 i, .slice A' 256 c'] 57)).cell? ⟨x1.p, 2, none⟩ = some (.slice x1.pA x1.W.length x1.cp) :=
          (World.cell?_of_block (Below.heap_alloc w4 _ _ (Array.getElem?_eq_some_iff.1 hob4).1)).trans c4p
        have f4p : w4.frozen? ⟨x1.p, 2, none⟩ = false := frozen_of_block hob4 2
        have hown4 : OwN w4 base 57 2 x1.pA x1.W.length x1.cp (pcells x1.W) := H3.out.pend.mod hm4 (fun k hk e => H3.out.d4.2.2 (by rw [hk, e]))
        have hown5 : Hid (OwN (w4.drew.alloc (.cells #[.int .i64 i, .slice A' 256 c'] 57)) base 57 2 x1.pA x1.W.length x1.cp (pcells x1.W)) := OwN.alloc (w := w4.drew) hown4 _
        have hsrc5 : Hid (SrcN (w4.drew.alloc (.cells #[.int .i64 i, .slice A' 256 c'] 57)) (some ⟨w4.drew.heap.size, 0, none⟩) 1 2 [.int .i64 i, .slice A' 256 c']) := SrcN.lit w4.drew [.int .i64 i, .slice A' 256 c'] 57 (by simp [Value.oneCell'])
        have hbb : Hid ((x1.W.length + 1) * 32 ≤ 140737488355328) := by show _ ≤ _; omega
        have hml : Hid (x1.W.length + 1 ≤ maxLen) := by show _ ≤ _; unfold maxLen; omega
        have hbase : Hid (base ≤ (w4.drew.alloc (.cells #[.int .i64 i, .slice A' 256 c'] 57)).heap.size) := by
          show base ≤ _
          have h1 := HL.out.mod.size
          have h2 := Hm2.out.size
          have h3 := Hsz3.out
          have h4 := Hb.out
          have h5 : w4.drew.heap.size = w4.heap.size := rfl
          rw [World.size_alloc, h5]; omega
        have Hc5 : Hid (∀ w5, (w4.drew.alloc (.cells #[.int .i64 i, .slice A' 256 c'] 57)).grownBy w5 (blkOf x1.pA) → w5.cell? ⟨x1.p, 2, none⟩ = some (.slice x1.pA x1.W.length x1.cp) ∧ w5.frozen? ⟨x1.p, 2, none⟩ = false) := by
          intro w5 hg5
          have hp4 : x1.p < w4.drew.heap.size := (Array.getElem?_eq_some_iff.1 hob4).1
          have hob5 : w5.heap[x1.p]? = some (.cells x1.obj 60 (0, 0)) :=
            (hg5.block _ (by rw [World.size_alloc]; omega) (fun e => H3.out.d4.1 e.symm)).trans ((Below.heap_alloc w4.drew _ _ hp4).trans hob4)
          exact ⟨by rw [cell_of_row _ _ _ _ _ _ hob5]; rfl, frozen_of_block hob5 2⟩
        have Hw4 := Lib.hid hw4
        have Hm4 := Lib.hid hm4
        have Hs4 := Lib.hid hs4
        have Hlt3 := Lib.hid hlt3
        clear hw4 hm4 hs4 hlt3 hbl4 hob4 hown4 c3n' fu'
        go_region_law ((rw [if_pos (by simp [Region.wanted])]); refine wp_appN (A2 := some ⟨w4.heap.size, 0, none⟩) (m := 1) (c2 := 1) (.tmp 40) (.tmp 42) writeElem rfl (by go_simp) (by go_simp) hown5.out hsrc5.out hbb.out hml.out hbase.out ?_; intro A5 c5 w5 ho5 hg5 hbk5; have hc5 := (Hc5.out w5 hg5).1; have hf5 := (Hc5.out w5 hg5).2)
        all_goals
          go_wp2
          go_ret
          refine ⟨rfl, ?_⟩
          have hm5 : Mod (fun k => blkOf x1.pA = some k) w4 w5 := ((Mod.refl _ w4).drew.alloc _).grown hg5 (fun k e _ => e)
          rw [Hw4.out] at hm5
          have hA5 : ∀ k, blkOf A5 = some k → blkOf x1.pA = some k ∨ W3.heap.size ≤ k := by
            intro k hk
            rcases hbk5 with e | e
            · exact .inl (by rw [← e]; exact hk)
            · rw [hk] at e; injection e with e; subst e
              right
              have := Hs4.out
              show W3.heap.size ≤ (w4.alloc (.cells #[.int .i64 i, .slice A' 256 c'] 57)).heap.size
              rw [World.size_alloc]; omega
          have hown : OwN w5 base 57 2 A5 (x1.W.length + 1) c5 (pcells (x1.W ++ [(i.toNat, (⟨A', c', ys⟩ : Sct))])) := by
            rw [pcells_snoc]
            have hii : ((i.toNat : Nat) : Int) = i := by omega
            show OwN w5 base 57 2 A5 (x1.W.length + 1) c5 (pcells x1.W ++ [.int .i64 (i.toNat : Int), .slice A' 256 c'])
            rw [hii]
            exact ho5
          have hLk : Left w1 W3 base x1 x1 x1.dk := ⟨H3.out, rfl, rfl, (Hm2.out.trans Hm3.out (fun _ _ h => h)).mono (fun _ _ h => h.elim), fun _ h => .inl h, fun _ _ h => h⟩
          obtain ⟨x', hL'⟩ := write_done H3.out ⟨A', c', ys⟩ Hs3.out i.toNat (by omega) hm5 A5 c5 hown hA5 w1 hLk Hnew.out
          have hfin := HL.out.trans hL'
          rw [HL.out.dk, Dk.stepD_pend] at hfin
          exact ⟨x', hfin⟩
      · have hE : x.dk.stepE = 30 := by
          unfold Dk.stepE at hs ⊢
          split at hs
          · rename_i h1; rw [if_pos h1]
          · exact absurd rfl hs
        have e1 : x.dk.writeE i 256 = 30 := by unfold Dk.writeE; rw [if_pos hr, if_pos rfl, hE]
        have e2 : x.dk.write i ys = x.dk.stepD := by unfold Dk.write; rw [if_pos ⟨hr, hy.len⟩, if_neg hs]
        rw [e1, e2]
        have Hs := Lib.hid (step_ok w base x h)
        have Hr := Lib.hid (reach_ok w base x h i)
        rw [hr] at Hr
        rw [hE] at Hs
        clear h hy hM e1 e2 hr hs hE
        go_enter Tryz.func6, Tryz.ntmps6
        go_wp2_with fail
        refine Hr.out.mono ?_
        rintro e w' ⟨rfl, rfl⟩
        go_wp2_with fail
        refine Hs.out.mono ?_
        rintro e w1 ⟨rfl, x1, hL⟩
        have HL := Lib.hid hL
        clear hL
        go_wp2
        go_ret
        exact ⟨rfl, x1, HL.out⟩
    · have e1 : x.dk.writeE i n = 1 := by unfold Dk.writeE; rw [if_pos hr, if_neg hn]
      have e2 : x.dk.write i ys = x.dk := by unfold Dk.write; rw [if_neg (fun q => hn (by rw [← hy.len]; exact q.2))]
      rw [e1, e2]
      have hne : ((n : Int) != 256) = true := by rw [bne_iff_ne]; omega
      have Hr := Lib.hid (reach_ok w base x h i)
      have HL := Lib.hid (Left.stay h)
      rw [hr] at Hr
      clear h hy hM e1 e2 hr hn
      go_enter Tryz.func6, Tryz.ntmps6
      go_wp2_with fail
      refine Hr.out.mono ?_
      rintro e w' ⟨rfl, rfl⟩
      go_wp2
      go_ret
      exact ⟨rfl, x, HL.out⟩
  · have e1 : x.dk.writeE i n = x.dk.reach i := by unfold Dk.writeE; rw [if_neg hr]
    have e2 : x.dk.write i ys = x.dk := by unfold Dk.write; rw [if_neg (fun q => hr q.1)]
    rw [e1, e2]
    have Hr := Lib.hid (reach_ok w base x h i)
    have HL := Lib.hid (Left.stay h)
    have hne : (x.dk.reach i != 0) = true := by simpa using hr
    clear h hy hM e1 e2 hr
    generalize x.dk.reach i = r at *
    go_enter Tryz.func6, Tryz.ntmps6
    go_wp2_with fail
    refine Hr.out.mono ?_
    rintro e w' ⟨rfl, rfl⟩
    go_wp2
    go_ret
    exact ⟨rfl, x, HL.out⟩
end Go.Proofs.YtnbamljaiahmdaaGreat

namespace Go.Proofs.YtnbamljaiahmdaaGreat
open Go Go.RowKit

theorem lay_take {α : Type} (D : List α) (W : List (Nat × α)) (j : Nat) (y : Nat × α) (h : W[j]? = some y) : lay D (W.take (j + 1)) = (lay D (W.take j)).set y.1 y.2 := by
  obtain ⟨hj, e⟩ := List.getElem?_eq_some_iff.1 h
  rw [List.take_succ_eq_append_getElem hj, e, lay_snoc]

/-- A pending write's cells. -/
theorem DV.At.pendAt {w : World} {base : Nat} {x : DV} (h : x.At w base) (j : Nat) (y : Nat × Sct) (hy : x.W[j]? = some y) :
    ∃ g, x.pA = some ⟨g, 0, none⟩ ∧ w.cell? ⟨g, j * 2, none⟩ = some (.int .i64 y.1) ∧ w.cell? ⟨g, j * 2 + 1, none⟩ = some y.2.v := by
  have hj : j < x.W.length := (List.getElem?_eq_some_iff.1 hy).1
  obtain ⟨g, hg, hc⟩ := h.pend.cells (by omega)
  obtain ⟨p0, p1⟩ := pcells_get x.W j y hy
  exact ⟨g, hg, (hc _ (by omega)).trans p0, (hc _ (by omega)).trans p1⟩

theorem sync_done {w w1 : World} {base : Nat} {x : DV} (h : x.At w base) (hm : Mod (fun k => k = x.bd) w w1) (hd : OwV w1 base 50 (some ⟨x.bd, 0, none⟩) x.D.length x.cd ((lay x.D x.W).map Sct.v)) :
    ∃ x', Left w (w1.setCell ⟨x.p, 2, none⟩ (.slice none 0 0)) base x x' { x.dk with dur := x.dk.now, pend := [] } := by
  have hm2 : Mod (fun k => k = x.p) w1 (w1.setCell ⟨x.p, 2, none⟩ (.slice none 0 0)) := (Mod.refl _ w1).one _ _
  have hmod : Mod x.M w (w1.setCell ⟨x.p, 2, none⟩ (.slice none 0 0)) := (hm.mono (fun _ _ e => .inr (.inl e))).trans hm2 (fun _ _ e => .inl e)
  have ho1 : w1.heap[x.p]? = some (.cells x.obj 60 (0, 0)) := (hm.block _ (h.M_lt (.inl rfl)).2 h.d1).trans h.obj
  have hM : ∀ k, ({ x with D := lay x.D x.W, W := [], pA := none, cp := 0 } : DV).M k → x.M k := by
    rintro k (e | e | e | e)
    · exact .inl e
    · exact .inr (.inl e)
    · exact .inr (.inr (.inl e))
    · simp [blkOf] at e
  have hsec : ∀ t : Sct, t.At w x.M → t.At (w1.setCell ⟨x.p, 2, none⟩ (.slice none 0 0)) ({ x with D := lay x.D x.W, W := [], pA := none, cp := 0 } : DV).M := fun t ht => (ht.mod hmod).avoid (fun k _ hk => hM k hk)
  refine ⟨{ x with D := lay x.D x.W, W := [], pA := none, cp := 0 }, ⟨?_, ?_, ?_, OwN.nil _ _ _ _, ?_, by simp, h.pb, h.d1, h.d2, h.d3, by simp [blkOf], ?_, ?_, h.lft⟩, ?_, rfl, hmod, fun k hk => .inl (hM k hk), fun N _ hx => ⟨fun s hs => ?_, by simp⟩⟩
  · have := heap_set ho1 2 (.slice none 0 0)
    rw [this]
    simp [DV.obj, lay_len]
  · have := hd.mod hm2 (fun k hk e => by simp [blkOf] at hk; exact h.d1 (by omega))
    simpa [lay_len] using this
  · have := (h.now.mod hm (fun k hk e => by simp [blkOf] at hk; exact h.d3 (by omega))).mod hm2 (fun k hk e => by simp [blkOf] at hk; exact h.d2 (by omega))
    show OwV _ _ _ _ (lay x.D x.W).length x.cn ((lay x.D x.W).map Sct.v)
    rw [lay_len]
    exact this
  · intro s hs
    rcases mem_lay x.W x.D s hs with h1 | ⟨y, hy, e⟩
    · exact hsec s (h.secs s h1)
    · rw [← e]; exact hsec _ (h.wsecs y hy).2
  · show 0 < (lay x.D x.W).length; rw [lay_len]; exact h.pos
  · show (lay x.D x.W).length ≤ 4096; rw [lay_len]; exact h.few
  · rw [x.dk_now]; rfl
  · rcases mem_lay x.W x.D s hs with h1 | ⟨y, hy, e⟩
    · exact hx.1 s h1
    · rw [← e]; exact hx.2 y hy

set_option maxRecDepth 100000 in
set_option maxHeartbeats 1600000 in
theorem sync_ok (w : World) (base : Nat) (x : DV) (h : x.At w base) (hW : x.W.length ≤ 1000) :
    Calls Tryz.prog 36 #[.pointer (some ⟨x.p, 0, none⟩)] w fun e w' => e = .returned (.int .i64 x.dk.syncE) ∧ ∃ x', Left w w' base x x' x.dk.sync := by
  cases hd : x.dead with
  | true =>
    have e1 : x.dk.syncE = 30 := by simp [Dk.syncE, DV.dk, hd]
    have e2 : x.dk.sync = x.dk := by simp [Dk.sync, DV.dk, hd]
    rw [e1, e2]
    have HD := Lib.hid (dead_ok w base x h)
    rw [hd] at HD
    have HL := Lib.hid (Left.stay h)
    clear h e1 e2 hd
    go_enter Tryz.func36, Tryz.ntmps36
    go_wp2_with fail
    refine HD.out.mono ?_
    rintro e w' ⟨rfl, rfl⟩
    go_wp2
    go_ret
    exact ⟨rfl, x, HL.out⟩
  | false =>
    by_cases hs : x.dk.stepE = 0
    · have e1 : x.dk.syncE = 0 := by
        unfold Dk.syncE; rw [if_neg (by simp [DV.dk, hd]), hs]
      have e2 : x.dk.sync = { x.dk.stepD with dur := x.dk.now, pend := [] } := by
        unfold Dk.sync; rw [if_neg (by simp [DV.dk, hd]), if_pos hs]
      rw [e1, e2]
      have HD := Lib.hid (dead_ok w base x h)
      rw [hd] at HD
      have Hs := Lib.hid (step_ok w base x h)
      rw [hs] at Hs
      clear h e1 e2 hd hs
      go_enter Tryz.func36, Tryz.ntmps36
      go_wp2_with fail
      refine HD.out.mono ?_
      rintro e w' ⟨rfl, rfl⟩
      go_wp2_with fail
      refine Hs.out.mono ?_
      rintro e w1 ⟨rfl, x1, hL⟩
      have hW1 : x1.W.length = x.W.length := DV.dk_W (by rw [hL.dk, Dk.stepD_pend])
      have hp1 := hL.p
      rw [← hp1]
      have hW1' : x1.W.length ≤ 1000 := by omega
      obtain ⟨c0, c1, c2, c3, c4, c5⟩ := hL.at_.cells
      have HL := Lib.hid hL
      clear hL hW1 hp1 HD Hs hW c0 c1 c3 c4 c5
      go_wp2_with fail
      go_loopw [18] (fun i wr => ∃ j : Nat, j ≤ x1.W.length ∧ i = .int .i64 j ∧ Mod (fun k => k = x1.bd) w1 wr ∧ OwV wr base 50 (some ⟨x1.bd, 0, none⟩) x1.D.length x1.cd ((lay x1.D (x1.W.take j)).map Sct.v)) (fun i _ => x1.W.length - (intOf i).toNat)
      case atStart => exact ⟨0, by omega, rfl, Mod.refl _ _, HL.out.at_.dur⟩
      case round =>
        obtain ⟨j, hj, rfl, hm, hown⟩ := hrel
        have ho1 : wr.heap[x1.p]? = some (.cells x1.obj 60 (0, 0)) := (hm.block _ (HL.out.at_.M_lt (.inl rfl)).2 HL.out.at_.d1).trans HL.out.at_.obj
        by_cases hlt : j < x1.W.length
        · obtain ⟨y, hy⟩ : ∃ y, x1.W[j]? = some y := ⟨_, List.getElem?_eq_getElem hlt⟩
          obtain ⟨g, hg, hc0, hc1⟩ := HL.out.at_.pendAt j y hy
          have hgb : g < w1.heap.size ∧ g ≠ x1.bd := ⟨(HL.out.at_.M_lt (.inr (.inr (.inr (by rw [hg]; rfl))))).2, fun e => HL.out.at_.d4.2.1 (by rw [hg, ← e]; rfl)⟩
          have hc0' : wr.cell? ⟨g, j * 2, none⟩ = some (.int .i64 y.1) := (World.cell?_of_block (hm.block g hgb.1 hgb.2)).trans hc0
          have hc1' : wr.cell? ⟨g, j * 2 + 1, none⟩ = some (.slice y.2.A 256 y.2.c) := (World.cell?_of_block (hm.block g hgb.1 hgb.2)).trans hc1
          have hyl := (HL.out.at_.wsecs y (List.mem_of_getElem? hy)).1
          have hlay := lay_take x1.D x1.W j y hy
          rw [hg]
          have Hm := Lib.hid hm
          have Hown := Lib.hid hown
          have Ho1 := Lib.hid ho1
          have Hlay := Lib.hid hlay
          clear hc0 hc1 hgb hm hown ho1 hlay hy hg
          go_wp2_with fail
          obtain ⟨w2, hw2⟩ : ∃ w2, w2 = wr.alloc (.cells #[.int .i64 y.1, .slice y.2.A 256 y.2.c] 57) := ⟨_, rfl⟩
          rw [← hw2]
          have hm2 : Mod (fun _ => False) wr w2.drew := by rw [hw2]; exact ((Mod.refl _ _).alloc _).drew
          have hb2 : w2.heap[wr.heap.size]? = some (.cells #[.int .i64 y.1, .slice y.2.A 256 y.2.c] 57 (0, 0)) := by rw [hw2]; exact heap_alloc_new wr _
          have c20 : w2.cell? ⟨wr.heap.size, 0, none⟩ = some (.int .i64 y.1) := by rw [cell_of_row _ _ _ _ _ _ hb2]; rfl
          have c21 : w2.cell? ⟨wr.heap.size, 1, none⟩ = some (.slice y.2.A 256 y.2.c) := by rw [cell_of_row _ _ _ _ _ _ hb2]; rfl
          have ho2 : w2.drew.heap[x1.p]? = some (.cells x1.obj 60 (0, 0)) := (hm2.block _ (Array.getElem?_eq_some_iff.1 Ho1.out).1 id).trans Ho1.out
          have c2p : w2.cell? ⟨x1.p, 0, none⟩ = some (.slice (some ⟨x1.bd, 0, none⟩) x1.D.length x1.cd) := by
            show w2.drew.cell? _ = _
            rw [cell_of_row _ _ _ _ _ _ ho2]; rfl
          have hown2 : OwV w2.drew base 50 (some ⟨x1.bd, 0, none⟩) x1.D.length x1.cd ((lay x1.D (x1.W.take j)).map Sct.v) := Hown.out.mod hm2 (fun _ _ => id)
          obtain ⟨⟨u, cu, _⟩, fu⟩ := hown2.spot y.1 hyl
          have hset := hown2.set y.1 (.slice y.2.A 256 y.2.c)
          have hset' : Hid (OwV (w2.drew.setCell ⟨x1.bd, y.1, none⟩ (.slice y.2.A 256 y.2.c)) base 50 (some ⟨x1.bd, 0, none⟩) x1.D.length x1.cd ((lay x1.D (x1.W.take (j + 1))).map Sct.v)) := by
            rw [Hlay.out, ← map_set_v]; exact hset
          have hmset : Hid (Mod (fun k => k = x1.bd) w1 (w2.drew.setCell ⟨x1.bd, y.1, none⟩ (.slice y.2.A 256 y.2.c))) :=
            (Hm.out.trans hm2 (fun _ _ h => h.elim)).one _ _
          clear hw2 hm2 hb2 ho2 hown2 hset Hown Hlay Hm hc0' hc1'
          go_still_tail 8, (by kernel_rfl)
          change wpList _ _ _ _ _ w2.drew
          have cu' : w2.drew.cell? ⟨x1.bd, y.1, none⟩ = some u := cu
          have fu' : w2.drew.frozen? ⟨x1.bd, y.1, none⟩ = false := fu
          clear c20 c21 c2p cu fu
          generalize w2.drew = W2 at *
          go_wp2_with fail
          go_roundw
          case rel => exact ⟨j + 1, by omega, by go_num, hmset.out, hset'.out⟩
          case measure => simp [intOf]; omega
        · obtain rfl : j = x1.W.length := by omega
          rw [List.take_length] at hown
          have f1 := frozen_of_block ho1 2
          have c1 : wr.cell? ⟨x1.p, 2, none⟩ = some (.slice x1.pA x1.W.length x1.cp) := by rw [cell_of_row _ _ _ _ _ _ ho1]; rfl
          have HF := Lib.hid (sync_done HL.out.at_ hm hown)
          clear hm hown ho1
          go_wp2
          go_ret
          refine ⟨rfl, ?_⟩
          obtain ⟨x', hL'⟩ := HF.out
          have hfin := HL.out.trans hL'
          rw [HL.out.dk] at hfin
          have hn : x.dk.stepD.now = x.dk.now := by unfold Dk.now; rw [Dk.stepD_dur, Dk.stepD_pend]
          rw [hn] at hfin
          exact ⟨x', hfin⟩
    · have hE : x.dk.stepE = 30 := by
        unfold Dk.stepE at hs ⊢
        split at hs
        · rename_i h1; rw [if_pos h1]
        · exact absurd rfl hs
      have e1 : x.dk.syncE = 30 := by
        unfold Dk.syncE; rw [if_neg (by simp [DV.dk, hd]), hE]
      have e2 : x.dk.sync = x.dk.stepD := by
        unfold Dk.sync; rw [if_neg (by simp [DV.dk, hd]), if_neg hs]
      rw [e1, e2]
      have HD := Lib.hid (dead_ok w base x h)
      rw [hd] at HD
      have Hs := Lib.hid (step_ok w base x h)
      rw [hE] at Hs
      clear h e1 e2 hd hs hE
      go_enter Tryz.func36, Tryz.ntmps36
      go_wp2_with fail
      refine HD.out.mono ?_
      rintro e w' ⟨rfl, rfl⟩
      go_wp2_with fail
      refine Hs.out.mono ?_
      rintro e w1 ⟨rfl, x1, hL⟩
      have HL := Lib.hid hL
      clear hL
      go_wp2
      go_ret
      exact ⟨rfl, x1, HL.out⟩
end Go.Proofs.YtnbamljaiahmdaaGreat

namespace Go.Proofs.YtnbamljaiahmdaaGreat
open Go Go.RowKit

theorem wpList_mk {P : Program} {w : World} {ops : Array Oper} {rest : List Oper} {o : Oper} {a : Act} {Q : Exit → Act → World → Prop} (l c : Operand) {t e : TypeId} {z : Value} {bytes : Nat}
    (he : Elem P t e z bytes) (hz : z.cells = #[z]) (hgd : o.guard = none) (hop : o.op = Op.makeSlice t l c) (n : Nat) (kl kc : IntKind) (L C : Int) (hl : a.eval l = .int kl L) (hc : a.eval c = .int kc C) (hL : L = (n : Int)) (hC : C = (n : Int))
    (hb : bytes * n ≤ 281474976710656) (h63 : n ≤ maxLen) (Z : List Value) (hZ : List.replicate n z = Z)
    (h : ∀ w', OwV w' w.heap.size e (some ⟨w.heap.size, 0, none⟩) n n Z → Mod (fun _ => False) w w' → wpList P ops Q rest (a.put o.dst (.slice (some ⟨w.heap.size, 0, none⟩) n n)) w') :
    wpList P ops Q (o :: rest) a w := by
  obtain ⟨ht, _, i, hi, hz0, hsz, hby⟩ := he
  refine wpList_make_full w hgd l c t hop w.heap.size e i z 1 ht hi hz0 hsz kl kc L C n hl hc hL hC (by rw [hby]; exact hb) h63 (Nat.le_refl _) ?_
  intro w' hown hg
  rw [hz, Nat.mul_one, toList_madeCells_one, hZ] at hown
  exact h w' hown ((Mod.refl _ w).grown hg (fun k e => by cases e))

/-- b's, and then zeros. -/
def filled (b : UInt8) (j : Nat) : List UInt8 := List.replicate j b ++ List.replicate (256 - j) 0
theorem filled_set (b : UInt8) (j : Nat) (hj : j < 256) : ((filled b j).map bv).set j (bv b) = (filled b (j + 1)).map bv := by
  rw [← List.map_set]
  congr 1
  unfold filled
  rw [List.set_append_right _ _ (by simp), List.length_replicate, Nat.sub_self, show 256 - j = (256 - (j + 1)) + 1 by omega, List.replicate_succ, List.set_cons_zero, List.replicate_succ' (n := j), List.append_assoc]
  rfl
/-- A sector of one byte. -/
def fill (b : UInt8) : List UInt8 := List.replicate 256 b
theorem fill_len (b : UInt8) : (fill b).length = 256 := List.length_replicate
theorem filled_all (b : UInt8) : filled b 256 = fill b := by
  unfold filled fill
  rw [Nat.sub_self]
  exact List.append_nil _
theorem filled_none (b : UInt8) : List.replicate 256 (.int .u8 0) = (filled b 0).map bv := by
  unfold filled
  rw [List.replicate_zero, List.nil_append, List.map_replicate]
  rfl

end Go.Proofs.YtnbamljaiahmdaaGreat
