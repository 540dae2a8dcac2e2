/-
  A device: what it is in memory, and what it is as the document has it.
-/
import Derived.Test.YtfgngmoeedegiaaPart3
import Derived.Test.YtfgngmoeedegiaaRowM
namespace Go.Proofs.Ytfgngmoeedegiaa
open Go Go.RowKit

/-! ### As the document has it -/
structure Dk where
  dur : List (List UInt8)
  pend : List (Nat × List UInt8)
  armed : Bool
  left : Int
  dead : Bool

/-- Writes, one after the other. -/
def lay {α : Type} (D : List α) (W : List (Nat × α)) : List α := W.foldl (fun l y => l.set y.1 y.2) D
theorem lay_len {α : Type} (W : List (Nat × α)) : ∀ D : List α, (lay D W).length = D.length := by
  induction W with
  | nil => intro D; rfl
  | cons y W ih => intro D; show (lay (D.set y.1 y.2) W).length = _; rw [ih]; simp
theorem lay_snoc {α : Type} (D : List α) (W : List (Nat × α)) (y : Nat × α) : lay D (W ++ [y]) = (lay D W).set y.1 y.2 := by simp [lay]
theorem lay_map {α β : Type} (f : α → β) (W : List (Nat × α)) : ∀ D : List α, (lay D W).map f = lay (D.map f) (W.map fun y => (y.1, f y.2)) := by
  induction W with
  | nil => intro D; rfl
  | cons y W ih => intro D; show (lay (D.set y.1 y.2) W).map f = lay ((D.map f).set y.1 (f y.2)) _; rw [ih, List.map_set]

def Dk.now (d : Dk) : List (List UInt8) := lay d.dur d.pend
def Dk.reach (d : Dk) (i : Int) : Int := if d.dead then 30 else if 0 ≤ i ∧ i < d.dur.length then 0 else 3
def Dk.stepE (d : Dk) : Int := if d.armed = true ∧ d.left = 0 then 30 else 0
def Dk.stepD (d : Dk) : Dk := if d.armed then (if d.left = 0 then { d with dead := true } else { d with left := d.left - 1 }) else d
def Dk.writeE (d : Dk) (i : Int) (m : Nat) : Int := if d.reach i = 0 then if m = 256 then d.stepE else 1 else d.reach i
def Dk.write (d : Dk) (i : Int) (ys : List UInt8) : Dk :=
  if d.reach i = 0 ∧ ys.length = 256 then (if d.stepE = 0 then { d.stepD with pend := d.pend ++ [(i.toNat, ys)] } else d.stepD) else d
def Dk.syncE (d : Dk) : Int := if d.dead then 30 else d.stepE
def Dk.sync (d : Dk) : Dk := if d.dead then d else if d.stepE = 0 then { d.stepD with dur := d.now, pend := [] } else d.stepD
def Dk.arm (d : Dk) (n : Int) : Dk := { d with armed := decide (0 ≤ n), left := max n 0 }
def keptN (keep : List Bool) (torn kk : Int) (i : Nat) : Nat :=
  if (i : Int) = torn then (min (max kk 0) 256).toNat else if keep.getD (i % keep.length) false then 256 else 0
def crashGo (f : Nat → Nat) : Nat → List (Nat × List UInt8) → List (List UInt8) → List (List UInt8)
  | _, [], D => D
  | i, y :: W, D => crashGo f (i + 1) W (D.set y.1 (partOf (D.getD y.1 []) y.2 (f i)))
def Dk.crash (d : Dk) (f : Nat → Nat) : Dk := ⟨crashGo f 0 d.pend d.dur, [], false, 0, false⟩
theorem keptN_le (keep : List Bool) (torn kk : Int) (i : Nat) : keptN keep torn kk i ≤ 256 := by
  unfold keptN
  split
  · omega
  · split <;> omega
theorem crashGo_len (f : Nat → Nat) (W : List (Nat × List UInt8)) : ∀ (i : Nat) (D : List (List UInt8)), (crashGo f i W D).length = D.length := by
  induction W with
  | nil => intro i D; rfl
  | cons y W ih => intro i D; show (crashGo f (i + 1) W _).length = _; rw [ih]; simp

/-! ### In memory -/
/-- A sector's slice: where it lies, its spare, its bytes. -/
structure Sct where
  A : Option Addr
  c : Nat
  xs : List UInt8
def Sct.v (s : Sct) : Value := .slice s.A 256 s.c
/-- It reads so, and lies in none of the blocks M. -/
def Sct.At (w : World) (M : Nat → Prop) (s : Sct) : Prop := Sl w s.A 256 s.c s.xs ∧ ∀ k, blkOf s.A = some k → ¬ M k
section
variable {w w' : World} {M M' : Nat → Prop} {s : Sct}
theorem Sct.At.mod (h : s.At w M) (hm : Mod M w w') : s.At w' M := ⟨h.1.mod hm (fun k hk _ => h.2 k hk), h.2⟩
theorem Sct.At.keep (h : s.At w M) (hm : Mod (fun _ => False) w w') : s.At w' M := ⟨h.1.mod hm (fun _ _ _ => id), h.2⟩
theorem Sct.At.avoid (h : s.At w M) (hM : ∀ k, k < w.heap.size → M' k → M k) : s.At w M' := by
  refine ⟨h.1, fun k hk hM' => h.2 k hk (hM k ?_ hM')⟩
  obtain ⟨b, o, hA, hb⟩ := h.1.lt (by omega)
  rw [hA] at hk
  simp [blkOf] at hk
  omega
theorem Sct.At.len (h : s.At w M) : s.xs.length = 256 := h.1.len
theorem Sct.v_one (s : Sct) : s.v.oneCell' = true := rfl
end

/-- The cells of pending writes. -/
def pcells (W : List (Nat × Sct)) : List Value := W.flatMap fun y => [.int .i64 y.1, y.2.v]
theorem pcells_len (W : List (Nat × Sct)) : (pcells W).length = W.length * 2 := by
  induction W with
  | nil => rfl
  | cons y W ih => simp only [pcells, List.flatMap_cons, List.length_append, List.length_cons, List.length_nil] at *; omega
theorem pcells_get (W : List (Nat × Sct)) (i : Nat) (y : Nat × Sct) (h : W[i]? = some y) : (pcells W)[i * 2]? = some (.int .i64 y.1) ∧ (pcells W)[i * 2 + 1]? = some y.2.v := by
  induction W generalizing i with
  | nil => simp at h
  | cons z W ih =>
    cases i with
    | zero => simp at h; subst h; simp [pcells]
    | succ i =>
      have h' : W[i]? = some y := by simpa using h
      obtain ⟨a, b⟩ := ih i h'
      have e : ∀ k, (pcells (z :: W))[(i + 1) * 2 + k]? = (pcells W)[i * 2 + k]? := by
        intro k
        show ([Value.int .i64 z.1, z.2.v] ++ pcells W)[_]? = _
        rw [List.getElem?_append_right (by simp; omega)]
        congr 1
        simp; omega
      exact ⟨(e 0).trans a, (e 1).trans b⟩
theorem pcells_snoc (W : List (Nat × Sct)) (y : Nat × Sct) : pcells (W ++ [y]) = pcells W ++ [.int .i64 y.1, y.2.v] := by simp [pcells]

/-- A device in memory. -/
structure DV where
  p : Nat
  bd : Nat
  bn : Nat
  cd : Nat
  cn : Nat
  pA : Option Addr
  cp : Nat
  D : List Sct
  W : List (Nat × Sct)
  armed : Bool
  left : Int
  dead : Bool
/-- The blocks that its calls turn. -/
def DV.M (x : DV) (k : Nat) : Prop := k = x.p ∨ k = x.bd ∨ k = x.bn ∨ blkOf x.pA = some k
def DV.dk (x : DV) : Dk := ⟨x.D.map Sct.xs, x.W.map (fun y => (y.1, y.2.xs)), x.armed, x.left, x.dead⟩
def DV.obj (x : DV) : Array Value := #[.slice (some ⟨x.bd, 0, none⟩) x.D.length x.cd, .slice (some ⟨x.bn, 0, none⟩) x.D.length x.cn, .slice x.pA x.W.length x.cp, .bool x.armed, .int .i64 x.left, .bool x.dead]
structure DV.At (w : World) (base : Nat) (x : DV) : Prop where
  obj : w.heap[x.p]? = some (.cells x.obj 71 (0, 0))
  dur : OwV w base 61 (some ⟨x.bd, 0, none⟩) x.D.length x.cd (x.D.map Sct.v)
  now : OwV w base 61 (some ⟨x.bn, 0, none⟩) x.D.length x.cn ((lay x.D x.W).map Sct.v)
  pend : OwN w base 68 2 x.pA x.W.length x.cp (pcells x.W)
  secs : ∀ s ∈ x.D, s.At w x.M
  wsecs : ∀ y ∈ x.W, y.1 < x.D.length ∧ y.2.At w x.M
  pb : base ≤ x.p
  d1 : x.p ≠ x.bd
  d2 : x.p ≠ x.bn
  d3 : x.bd ≠ x.bn
  d4 : blkOf x.pA ≠ some x.p ∧ blkOf x.pA ≠ some x.bd ∧ blkOf x.pA ≠ some x.bn
  pos : 0 < x.D.length
  few : x.D.length ≤ 4096
  lft : 0 ≤ x.left ∧ x.left < 9223372036854775808

section
variable {w w' : World} {base : Nat} {x : DV}
theorem DV.At.M_lt (h : x.At w base) {k : Nat} (hk : x.M k) : base ≤ k ∧ k < w.heap.size := by
  rcases hk with rfl | rfl | rfl | hk
  · exact ⟨h.pb, (Array.getElem?_eq_some_iff.1 h.obj).1⟩
  · exact h.dur.lt _ rfl
  · exact h.now.lt _ rfl
  · exact h.pend.lt _ hk
/-- Steps that turn none of its blocks leave it. -/
theorem DV.At.mod {F : Nat → Prop} (h : x.At w base) (hm : Mod F w w') (hF : ∀ k, F k → ¬ x.M k) (hs : ∀ s : Sct, s.At w x.M → s.At w' x.M) : x.At w' base where
  obj := (hm.block _ (h.M_lt (.inl rfl)).2 (fun f => hF _ f (.inl rfl))).trans h.obj
  dur := h.dur.mod hm (fun k hk f => hF _ f (by simp [blkOf] at hk; exact .inr (.inl hk.symm)))
  now := h.now.mod hm (fun k hk f => hF _ f (by simp [blkOf] at hk; exact .inr (.inr (.inl hk.symm))))
  pend := h.pend.mod hm (fun k hk f => hF _ f (.inr (.inr (.inr hk))))
  secs := fun s hm' => hs s (h.secs s hm')
  wsecs := fun y hy => ⟨(h.wsecs y hy).1, hs _ (h.wsecs y hy).2⟩
  pb := h.pb
  d1 := h.d1
  d2 := h.d2
  d3 := h.d3
  d4 := h.d4
  pos := h.pos
  few := h.few
  lft := h.lft
theorem DV.At.keep (h : x.At w base) (hm : Mod (fun _ => False) w w') : x.At w' base := h.mod hm (fun _ f => f.elim) (fun _ hs => hs.keep hm)
theorem DV.At.drewN (h : x.At w base) (n : Nat) : x.At (w.drewN n) base := h.keep ((Mod.refl _ w).drewN n)
theorem DV.At.cells (h : x.At w base) : w.cell? ⟨x.p, 0, none⟩ = some (.slice (some ⟨x.bd, 0, none⟩) x.D.length x.cd) ∧ w.cell? ⟨x.p, 1, none⟩ = some (.slice (some ⟨x.bn, 0, none⟩) x.D.length x.cn) ∧
    w.cell? ⟨x.p, 2, none⟩ = some (.slice x.pA x.W.length x.cp) ∧ w.cell? ⟨x.p, 3, none⟩ = some (.bool x.armed) ∧ w.cell? ⟨x.p, 4, none⟩ = some (.int .i64 x.left) ∧ w.cell? ⟨x.p, 5, none⟩ = some (.bool x.dead) := by
  refine ⟨?_, ?_, ?_, ?_, ?_, ?_⟩ <;> (rw [cell_of_row _ _ _ _ _ _ h.obj]; rfl)
theorem DV.At.frozen (h : x.At w base) (i : Nat) : w.frozen? ⟨x.p, i, none⟩ = false := frozen_of_block h.obj i
theorem DV.dk_now (x : DV) : x.dk.now = (lay x.D x.W).map Sct.xs := (lay_map _ _ _).symm
theorem DV.dk_len (x : DV) : x.dk.dur.length = x.D.length := by simp [DV.dk]
end

set_option maxRecDepth 100000 in
theorem len_ok (w : World) (base : Nat) (x : DV) (h : x.At w base) :
    Calls Try.prog 26 #[.pointer (some ⟨x.p, 0, none⟩)] w fun e w' => e = .returned (.int .i64 x.D.length) ∧ w' = w := by
  obtain ⟨c0, c1, c2, c3, c4, c5⟩ := h.cells
  have hf := h.few
  clear h c0 c2 c3 c4 c5
  go_enter Try.func26, Try.ntmps26
  go_wp2
  go_ret
  exact ⟨rfl, rfl⟩

set_option maxRecDepth 100000 in
theorem dead_ok (w : World) (base : Nat) (x : DV) (h : x.At w base) :
    Calls Try.prog 24 #[.pointer (some ⟨x.p, 0, none⟩)] w fun e w' => e = .returned (.bool x.dead) ∧ w' = w := by
  obtain ⟨c0, c1, c2, c3, c4, c5⟩ := h.cells
  clear h c0 c1 c2 c3 c4
  go_enter Try.func24, Try.ntmps24
  go_wp2
  go_ret
  exact ⟨rfl, rfl⟩

set_option maxRecDepth 100000 in
theorem waits_ok (w : World) (base : Nat) (x : DV) (h : x.At w base) :
    Calls Try.prog 25 #[.pointer (some ⟨x.p, 0, none⟩)] w fun e w' => e = .returned (.int .i64 x.W.length) ∧ w' = w := by
  obtain ⟨c0, c1, c2, c3, c4, c5⟩ := h.cells
  clear h c0 c1 c3 c4 c5
  go_enter Try.func25, Try.ntmps25
  go_wp2
  go_ret
  exact ⟨rfl, rfl⟩
end Go.Proofs.Ytfgngmoeedegiaa
