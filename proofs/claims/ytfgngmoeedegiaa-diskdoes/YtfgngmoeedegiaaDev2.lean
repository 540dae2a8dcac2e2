/-
  Contracts of package disk's small calls: reach, step, Arm, Read; bytes.Clone, slices.Clone.
-/
import Derived.Test.YtfgngmoeedegiaaDev
namespace Go.Proofs.Ytfgngmoeedegiaa
open Go Go.RowKit

set_option maxRecDepth 100000 in
theorem reach_ok (w : World) (base : Nat) (x : DV) (h : x.At w base) (i : Int) :
    Calls Try.prog 31 #[.pointer (some ⟨x.p, 0, none⟩), .int .i64 i] w fun e w' => e = .returned (.int .i64 (x.dk.reach i)) ∧ w' = w := by
  have hf := h.few
  have hl := x.dk_len
  cases hd : x.dead with
  | true =>
    have hr : x.dk.reach i = 30 := by simp [Dk.reach, DV.dk, hd]
    rw [hr]
    clear hr hl
    go_enter Try.func31, Try.ntmps31
    go_wp2_with fail
    refine (dead_ok _ _ x h).mono ?_
    rintro e w' ⟨rfl, rfl⟩
    rw [hd]
    go_wp2
    go_ret
    exact ⟨rfl, rfl⟩
  | false =>
    by_cases h0 : i < 0
    · have hr : x.dk.reach i = 3 := by unfold Dk.reach; rw [if_neg (by simp [DV.dk, hd]), if_neg (by omega)]
      rw [hr]
      have h0' : decide (i < 0) = true := by simpa using h0
      clear hr hl h0
      go_enter Try.func31, Try.ntmps31
      go_wp2_with fail
      refine (dead_ok _ _ x h).mono ?_
      rintro e w' ⟨rfl, rfl⟩
      rw [hd]
      go_wp2
      go_ret
      exact ⟨rfl, rfl⟩
    · have h0' : decide (i < 0) = false := by simpa using h0
      by_cases h1 : i < x.D.length
      · have hr : x.dk.reach i = 0 := by unfold Dk.reach; rw [if_neg (by simp [DV.dk, hd]), if_pos (by omega)]
        rw [hr]
        have h1' : decide ((x.D.length : Int) ≤ i) = false := by simpa using h1
        clear hr hl h0 h1
        go_enter Try.func31, Try.ntmps31
        go_wp2_with fail
        refine (dead_ok _ _ x h).mono ?_
        rintro e w' ⟨rfl, rfl⟩
        rw [hd]
        go_wp2_with fail
        refine (len_ok _ _ x h).mono ?_
        rintro e w' ⟨rfl, rfl⟩
        go_wp2
        go_ret
        exact ⟨rfl, rfl⟩
      · have hr : x.dk.reach i = 3 := by unfold Dk.reach; rw [if_neg (by simp [DV.dk, hd]), if_neg (by omega)]
        rw [hr]
        have h1' : decide ((x.D.length : Int) ≤ i) = true := by simp; omega
        clear hr hl h0 h1
        go_enter Try.func31, Try.ntmps31
        go_wp2_with fail
        refine (dead_ok _ _ x h).mono ?_
        rintro e w' ⟨rfl, rfl⟩
        rw [hd]
        go_wp2_with fail
        refine (len_ok _ _ x h).mono ?_
        rintro e w' ⟨rfl, rfl⟩
        go_wp2
        go_ret
        exact ⟨rfl, rfl⟩

/-- Its flags alone have turned. -/
theorem DV.At.flags {w w' : World} {base : Nat} {x : DV} (h : x.At w base) {armed dead : Bool} {left : Int} (hl : 0 ≤ left ∧ left < 9223372036854775808)
    (hm : Mod (fun k => k = x.p) w w') (ho : w'.heap[x.p]? = some (.cells ({ x with armed := armed, left := left, dead := dead } : DV).obj 71 (0, 0))) : ({ x with armed := armed, left := left, dead := dead } : DV).At w' base where
  obj := ho
  dur := h.dur.mod hm (fun k hk e => by simp [blkOf] at hk; exact h.d1 (by omega))
  now := h.now.mod hm (fun k hk e => by simp [blkOf] at hk; exact h.d2 (by omega))
  pend := h.pend.mod hm (fun k hk e => h.d4.1 (by rw [hk, e]))
  secs := fun s hs => (h.secs s hs).mod (hm.mono (fun _ _ e => .inl e))
  wsecs := fun y hy => ⟨(h.wsecs y hy).1, (h.wsecs y hy).2.mod (hm.mono (fun _ _ e => .inl e))⟩
  pb := h.pb
  d1 := h.d1
  d2 := h.d2
  d3 := h.d3
  d4 := h.d4
  pos := h.pos
  few := h.few
  lft := hl

/-- None of its sectors lies in the blocks N. -/
def DV.Avoid (x : DV) (N : Nat → Prop) : Prop := (∀ s ∈ x.D, ∀ k, blkOf s.A = some k → ¬ N k) ∧ ∀ y ∈ x.W, ∀ k, blkOf y.2.A = some k → ¬ N k

/-- What a device's call leaves. -/
structure Left (w w' : World) (base : Nat) (x x' : DV) (d : Dk) : Prop where
  at_ : x'.At w' base
  dk : x'.dk = d
  p : x'.p = x.p
  mod : Mod x.M w w'
  grows : ∀ k, x'.M k → x.M k ∨ w.heap.size ≤ k
  av : ∀ N : Nat → Prop, (∀ k, N k → k < w.heap.size) → x.Avoid N → x'.Avoid N

theorem Left.stay {w : World} {base : Nat} {x : DV} (h : x.At w base) : Left w w base x x x.dk := ⟨h, rfl, rfl, Mod.refl _ _, fun _ h => .inl h, fun _ _ h => h⟩
theorem Left.trans {w w1 w2 : World} {base : Nat} {x x1 x2 : DV} {d1 d2 : Dk} (h : Left w w1 base x x1 d1) (k : Left w1 w2 base x1 x2 d2) : Left w w2 base x x2 d2 where
  at_ := k.at_
  dk := k.dk
  p := k.p.trans h.p
  mod := h.mod.trans k.mod (fun i hi hm => (h.grows i hm).resolve_right (by omega))
  grows := fun i hi => by
    rcases k.grows i hi with h1 | h1
    · exact h.grows i h1
    · exact .inr (Nat.le_trans h.mod.size h1)
  av := fun N hN hx => k.av N (fun k hk => Nat.lt_of_lt_of_le (hN k hk) h.mod.size) (h.av N hN hx)
theorem Mod.one {a w : World} {b : Nat} (h : Mod (fun k => k = b) a w) (i : Nat) (u : Value) : Mod (fun k => k = b) a (w.setCell ⟨b, i, none⟩ u) := h.setCell (p := ⟨b, i, none⟩) (fun _ => rfl) u

set_option maxRecDepth 100000 in
theorem step_ok (w : World) (base : Nat) (x : DV) (h : x.At w base) :
    Calls Try.prog 32 #[.pointer (some ⟨x.p, 0, none⟩)] w fun e w' => e = .returned (.int .i64 x.dk.stepE) ∧ ∃ x', Left w w' base x x' x.dk.stepD := by
  obtain ⟨c0, c1, c2, c3, c4, c5⟩ := h.cells
  have f4 := h.frozen 4
  have f5 := h.frozen 5
  have hlf := h.lft
  cases ha : x.armed with
  | false =>
    have e1 : x.dk.stepE = 0 := by simp [Dk.stepE, DV.dk, ha]
    have e2 : x.dk.stepD = x.dk := by simp [Dk.stepD, DV.dk, ha]
    rw [e1, e2]
    rw [ha] at c3
    have HL := Lib.hid (Left.stay h)
    clear e1 e2 h c0 c1 c2 c4 c5 f4 f5 ha
    go_enter Try.func32, Try.ntmps32
    go_wp2
    go_ret
    exact ⟨rfl, _, HL.out⟩
  | true =>
    by_cases h0 : x.left = 0
    · have e1 : x.dk.stepE = 30 := by simp [Dk.stepE, DV.dk, ha, h0]
      have e2 : x.dk.stepD = { x.dk with dead := true } := by simp [Dk.stepD, DV.dk, ha, h0]
      rw [e1, e2]
      rw [ha] at c3
      rw [h0] at c4
      have H := Lib.hid h
      clear e1 e2 h c0 c1 c2 f4 ha h0 hlf
      go_enter Try.func32, Try.ntmps32
      go_wp2
      go_ret
      refine ⟨rfl, ?_⟩
      have hm : Mod (fun k => k = x.p) w (w.setCell ⟨x.p, 5, none⟩ (.bool true)) := (Mod.refl _ w).one _ _
      have ho := heap_set H.out.obj 5 (.bool true)
      exact ⟨_, H.out.flags (armed := x.armed) (left := x.left) (dead := true) H.out.lft hm (ho.trans rfl), rfl, rfl, hm.mono (fun _ _ e => .inl e), fun _ e => .inl e, fun _ _ h => h⟩
    · have e1 : x.dk.stepE = 0 := by simp [Dk.stepE, DV.dk, h0]
      have e2 : x.dk.stepD = { x.dk with left := x.left - 1 } := by simp [Dk.stepD, DV.dk, ha, h0]
      rw [e1, e2]
      rw [ha] at c3
      have hne : (x.left == 0) = false := by simpa using h0
      have hll : -9223372036854775808 ≤ x.left - 1 := by omega
      have hlh : x.left - 1 < 9223372036854775808 := by omega
      have H := Lib.hid h
      have H0 := Lib.hid h0
      clear e1 e2 h c0 c1 c2 c5 f5 ha h0
      go_enter Try.func32, Try.ntmps32
      go_wp2
      go_ret
      refine ⟨rfl, ?_⟩
      have hm : Mod (fun k => k = x.p) w (w.setCell ⟨x.p, 4, none⟩ (.int .i64 (x.left - 1))) := (Mod.refl _ w).one _ _
      have ho := heap_set H.out.obj 4 (.int .i64 (x.left - 1))
      exact ⟨_, H.out.flags (armed := x.armed) (left := x.left - 1) (dead := x.dead) (by have := H.out.lft; have := H0.out; omega) hm (ho.trans rfl), rfl, rfl, hm.mono (fun _ _ e => .inl e), fun _ e => .inl e, fun _ _ h => h⟩

theorem arm_left {w : World} {base : Nat} {x : DV} (h : x.At w base) (n : Int) (hn : n < 9223372036854775808) (b : Bool) (m : Int) (hb : b = decide (0 ≤ n)) (hm : m = max n 0) :
    ∃ x', Left w ((w.setCell ⟨x.p, 3, none⟩ (.bool b)).setCell ⟨x.p, 4, none⟩ (.int .i64 m)) base x x' (x.dk.arm n) := by
  subst hb; subst hm
  have hm : Mod (fun k => k = x.p) w ((w.setCell ⟨x.p, 3, none⟩ (.bool (decide (0 ≤ n)))).setCell ⟨x.p, 4, none⟩ (.int .i64 (max n 0))) := ((Mod.refl _ w).one _ _).one _ _
  have ho := heap_set (heap_set h.obj 3 (.bool (decide (0 ≤ n)))) 4 (.int .i64 (max n 0))
  exact ⟨_, h.flags (armed := decide (0 ≤ n)) (left := max n 0) (dead := x.dead) (by omega) hm (ho.trans rfl), rfl, rfl, hm.mono (fun _ _ e => .inl e), fun _ e => .inl e, fun _ _ h => h⟩

set_option maxRecDepth 100000 in
theorem arm_ok (w : World) (base : Nat) (x : DV) (h : x.At w base) (n : Int) (hn : n < 9223372036854775808) :
    Calls Try.prog 17 #[.pointer (some ⟨x.p, 0, none⟩), .int .i64 n] w fun e w' => (∃ v, e = .returned v) ∧ ∃ x', Left w w' base x x' (x.dk.arm n) := by
  have f3 := h.frozen 3
  have f4 := h.frozen 4
  have H := Lib.hid (arm_left h n hn)
  obtain ⟨c0, c1, c2, c3, c4, c5⟩ := h.cells
  clear h c0 c1 c2 c5
  by_cases hn0 : 0 ≤ n
  · have hd : decide (0 ≤ n) = true := by simpa using hn0
    have hmx : max n 0 = n := by omega
    have HF := Lib.hid (H.out true n hd.symm hmx.symm)
    clear H hmx
    go_enter Try.func17, Try.ntmps17
    go_wp2
    go_end0
    exact ⟨⟨_, rfl⟩, HF.out⟩
  · have hd : decide (0 ≤ n) = false := by simpa using hn0
    have hmx : max n 0 = 0 := by omega
    have HF := Lib.hid (H.out false 0 hd.symm hmx.symm)
    clear H hmx
    go_enter Try.func17, Try.ntmps17
    go_wp2
    go_end0
    exact ⟨⟨_, rfl⟩, HF.out⟩
end Go.Proofs.Ytfgngmoeedegiaa
