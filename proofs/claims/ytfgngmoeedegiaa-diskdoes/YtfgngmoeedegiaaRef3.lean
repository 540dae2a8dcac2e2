/-
  The document's own answer (bobbinref03): what its device is in memory; step, Arm, Read, Write.
-/
import Derived.Test.YtfgngmoeedegiaaLive
namespace Go.Proofs.Ytfgngmoeedegiaa
open Go Go.RowKit

theorem rowElem : Elem Try.prog 28 39 (.slice none 0 0) 24 := Elem.mk_ Try.underlying28 rfl (by kernel_rfl)
theorem waitElem : ElemN Try.prog 29 75 (.agg #[.int .i64 0, .slice none 0 0]) 2 32 :=
  ElemN.mk_ Try.underlying29 rfl (by decide) (by kernel_rfl)

structure RV where
  DA : Option Addr
  dc : Nat
  D : List Sct
  WA : Option Addr
  wc : Nat
  W : List (Nat × Sct)
  armed : Bool
  dead : Bool
  left : Int
def RV.row (r : RV) : Array Value := #[.slice r.DA r.D.length r.dc, .slice r.WA r.W.length r.wc, .bool r.armed, .bool r.dead, .int .i64 r.left]
def RV.v (r : RV) : Value := .agg r.row
def RV.dk (r : RV) : Dk := ⟨r.D.map Sct.xs, r.W.map (fun y => (y.1, y.2.xs)), r.armed, r.left, r.dead⟩
/-- What it reads lies in none of the blocks M. -/
structure RV.At (w : World) (M : Nat → Prop) (r : RV) : Prop where
  d : 0 < r.D.length → ∃ b o, r.DA = some ⟨b, o, none⟩ ∧ ¬ M b ∧ ∀ (j : Nat) (s : Sct), r.D[j]? = some s → w.cell? ⟨b, o + j, none⟩ = some s.v
  wt : 0 < r.W.length → ∃ b o, r.WA = some ⟨b, o, none⟩ ∧ ¬ M b ∧ ∀ (j : Nat) (y : Nat × Sct), r.W[j]? = some y → w.cell? ⟨b, o + j * 2, none⟩ = some (.int .i64 y.1) ∧ w.cell? ⟨b, o + j * 2 + 1, none⟩ = some y.2.v
  secs : ∀ s ∈ r.D, s.At w M
  wsecs : ∀ y ∈ r.W, y.1 < r.D.length ∧ y.2.At w M
  few : r.D.length ≤ 4096
  caps : r.D.length ≤ r.dc ∧ r.W.length ≤ r.wc
section
variable {w w' : World} {M M' : Nat → Prop} {r : RV}
theorem RV.At.mod (h : r.At w M) (hm : Mod M w w') : r.At w' M := by
  have k : ∀ (b j : Nat) (v : Value), ¬ M b → w.cell? ⟨b, j, none⟩ = some v → w'.cell? ⟨b, j, none⟩ = some v := fun b j v hb hv =>
    (World.cell?_of_block (hm.block b (World.block_lt_of_cell? w _ hv) hb)).trans hv
  refine ⟨fun hp => ?_, fun hp => ?_, fun s hs => (h.secs s hs).mod hm, fun y hy => ⟨(h.wsecs y hy).1, (h.wsecs y hy).2.mod hm⟩, h.few, h.caps⟩
  · obtain ⟨b, o, e, hb, hc⟩ := h.d hp
    exact ⟨b, o, e, hb, fun j s hs => k _ _ _ hb (hc j s hs)⟩
  · obtain ⟨b, o, e, hb, hc⟩ := h.wt hp
    exact ⟨b, o, e, hb, fun j y hy => ⟨k _ _ _ hb (hc j y hy).1, k _ _ _ hb (hc j y hy).2⟩⟩
theorem RV.At.keep (h : r.At w M) (hm : Mod (fun _ => False) w w') : r.At w' M := h.mod (hm.mono (fun _ _ h => h.elim))
theorem RV.At.avoid (h : r.At w M) (hM : ∀ k, k < w.heap.size → M' k → M k) : r.At w M' := by
  have nb : ∀ (b j : Nat) (v : Value), w.cell? ⟨b, j, none⟩ = some v → ¬ M b → ¬ M' b := fun b j v hv hb hb' => hb (hM b (World.block_lt_of_cell? w _ hv) hb')
  refine ⟨fun hp => ?_, fun hp => ?_, fun s hs => (h.secs s hs).avoid hM, fun y hy => ⟨(h.wsecs y hy).1, (h.wsecs y hy).2.avoid hM⟩, h.few, h.caps⟩
  · obtain ⟨b, o, e, hb, hc⟩ := h.d hp
    exact ⟨b, o, e, nb b _ _ (hc 0 _ (List.getElem?_eq_getElem hp)) hb, hc⟩
  · obtain ⟨b, o, e, hb, hc⟩ := h.wt hp
    exact ⟨b, o, e, nb b _ _ (hc 0 _ (List.getElem?_eq_getElem hp)).1 hb, hc⟩
/-- Flags are no memory. -/
theorem RV.At.flags (h : r.At w M) (armed dead : Bool) (left : Int) : ({ r with armed := armed, dead := dead, left := left } : RV).At w M := ⟨h.d, h.wt, h.secs, h.wsecs, h.few, h.caps⟩
theorem RV.dk_len (r : RV) : r.dk.dur.length = r.D.length := by simp [RV.dk]
end

/-- The two answers are one; where it is not armed, what is left does not count. -/
structure Alike (d r : Dk) : Prop where
  dur : d.dur = r.dur
  pend : d.pend = r.pend
  armed : d.armed = r.armed
  dead : d.dead = r.dead
  left : d.armed = true → d.left = r.left ∧ 0 ≤ d.left ∧ d.left < 9223372036854775808
theorem Alike.reach {d r : Dk} (h : Alike d r) (i : Int) : r.reach i = d.reach i := by unfold Dk.reach; rw [h.dead, h.dur]
theorem Alike.now {d r : Dk} (h : Alike d r) : r.now = d.now := by unfold Dk.now; rw [h.dur, h.pend]
theorem Alike.read {d r : Dk} (h : Alike d r) (i : Int) : r.read i = d.read i := by unfold Dk.read; rw [h.reach, h.now]

def RV.lives (r : RV) : Bool := !(r.armed && (r.left == 0))
def RV.step (r : RV) : RV := if r.lives then { r with left := wrap64 (r.left - 1) } else { r with dead := true }
theorem Alike.step {d : Dk} {r : RV} (h : Alike d r.dk) : (r.lives = decide (d.stepE = 0)) ∧ Alike d.stepD r.step.dk := by
  have ha : d.armed = r.armed := h.armed
  have hl : d.armed = true → d.left = r.left ∧ 0 ≤ d.left ∧ d.left < 9223372036854775808 := h.left
  have hdd : d.dead = r.dead := h.dead
  have hdur : d.dur = r.D.map Sct.xs := h.dur
  have hpend : d.pend = r.W.map (fun y => (y.1, y.2.xs)) := h.pend
  cases hr : r.armed with
  | false =>
    have e1 : d.stepE = 0 := by unfold Dk.stepE; rw [if_neg (by simp [ha, hr])]
    have e2 : d.stepD = d := by unfold Dk.stepD; rw [if_neg (by simp [ha, hr])]
    have e3 : r.lives = true := by simp [RV.lives, hr]
    refine ⟨by rw [e1, e3]; rfl, ?_⟩
    rw [e2]
    unfold RV.step
    rw [if_pos e3]
    exact ⟨hdur, hpend, ha, hdd, fun q => by rw [ha, hr] at q; cases q⟩
  | true =>
    have hl' := hl (by rw [ha, hr])
    by_cases h0 : d.left = 0
    · have e1 : d.stepE = 30 := by unfold Dk.stepE; rw [if_pos ⟨by rw [ha, hr], h0⟩]
      have e2 : d.stepD = { d with dead := true } := by unfold Dk.stepD; rw [if_pos (by rw [ha, hr]), if_pos h0]
      have e3 : r.lives = false := by simp [RV.lives, hr, ← hl'.1, h0]
      refine ⟨by rw [e1, e3]; rfl, ?_⟩
      rw [e2]
      unfold RV.step
      rw [if_neg (by rw [e3]; decide)]
      exact ⟨hdur, hpend, ha, rfl, fun _ => hl'⟩
    · have e1 : d.stepE = 0 := by unfold Dk.stepE; rw [if_neg (fun q => h0 q.2)]
      have e2 : d.stepD = { d with left := d.left - 1 } := by unfold Dk.stepD; rw [if_pos (by rw [ha, hr]), if_neg h0]
      have e3 : r.lives = true := by
        have : (r.left == 0) = false := by rw [← hl'.1]; simpa using h0
        simp [RV.lives, hr, this]
      refine ⟨by rw [e1, e3]; rfl, ?_⟩
      rw [e2]
      unfold RV.step
      rw [if_pos e3]
      refine ⟨hdur, hpend, ha, hdd, fun _ => ⟨?_, by simp only; omega, by simp only; omega⟩⟩
      show d.left - 1 = wrap64 (r.left - 1)
      rw [← hl'.1]
      unfold wrap64
      omega

/-- A device by value, its five fields. -/
theorem RV.v_eq (r : RV) : r.v = .agg #[.slice r.DA r.D.length r.dc, .slice r.WA r.W.length r.wc, .bool r.armed, .bool r.dead, .int .i64 r.left] := rfl

set_option maxRecDepth 100000 in
theorem refStep_ok (w : World) (r : RV) : Calls Try.prog 34 #[r.v] w fun e w' => e = .returned (.tuple #[r.step.v, .bool r.lives]) ∧ Mod (fun _ => False) w w' := by
  have dead : ∀ (hl : r.lives = false), r.step = { r with dead := true } := fun hl => by unfold RV.step; rw [if_neg (by rw [hl]; decide)]
  have live : ∀ (hl : r.lives = true), r.step = { r with left := wrap64 (r.left - 1) } := fun hl => by unfold RV.step; rw [if_pos hl]
  cases ha : r.armed with
  | false =>
    have hl : r.lives = true := by simp [RV.lives, ha]
    rw [hl, live hl, RV.v_eq, RV.v_eq]
    clear dead live
    dsimp only
    rw [ha]
    clear ha hl
    go_enter Try.func34, Try.ntmps34
    go_wp2
    refine bodyPost_ret (v := .tuple #[.agg #[.slice r.DA r.D.length r.dc, .slice r.WA r.W.length r.wc, .bool false, .bool r.dead, .int .i64 (wrap64 (r.left - 1))], .bool true]) (by simp [results, Try.results34, go_sem]) rfl ⟨rfl, ?_⟩
    exact ((Mod.refl _ w).alloc _).alloc _
  | true =>
    by_cases h0 : r.left = 0
    · have hl : r.lives = false := by simp [RV.lives, ha, h0]
      rw [hl, dead hl, RV.v_eq, RV.v_eq]
      clear dead live
      dsimp only
      rw [ha, h0]
      clear ha h0 hl
      go_enter Try.func34, Try.ntmps34
      go_wp2
      refine bodyPost_ret (v := .tuple #[.agg #[.slice r.DA r.D.length r.dc, .slice r.WA r.W.length r.wc, .bool true, .bool true, .int .i64 0], .bool false]) (by simp [results, Try.results34, go_sem]) rfl ⟨rfl, ?_⟩
      exact ((Mod.refl _ w).alloc _).alloc _
    · have hb : (r.left == 0) = false := by simpa using h0
      have hl : r.lives = true := by simp [RV.lives, ha, hb]
      rw [hl, live hl, RV.v_eq, RV.v_eq]
      clear dead live
      dsimp only
      rw [ha]
      clear ha hl h0
      go_enter Try.func34, Try.ntmps34
      go_wp2
      refine bodyPost_ret (v := .tuple #[.agg #[.slice r.DA r.D.length r.dc, .slice r.WA r.W.length r.wc, .bool true, .bool r.dead, .int .i64 (wrap64 (r.left - 1))], .bool true]) (by simp [results, Try.results34, go_sem]) rfl ⟨rfl, ?_⟩
      exact ((Mod.refl _ w).alloc _).alloc _

def RV.arm (r : RV) (n : Int) : RV := { r with armed := decide (0 ≤ n), left := n }
theorem Alike.arm {d : Dk} {r : RV} (h : Alike d r.dk) (n : Int) (hn : n < 9223372036854775808) : Alike (d.arm n) (r.arm n).dk := by
  refine ⟨h.dur, h.pend, rfl, h.dead, fun q => ?_⟩
  have : 0 ≤ n := by simpa [Dk.arm] using q
  show max n 0 = n ∧ 0 ≤ max n 0 ∧ max n 0 < _
  omega
set_option maxRecDepth 100000 in
theorem refArm_ok (w : World) (r : RV) (n : Int) : Calls Try.prog 18 #[r.v, .int .i64 n] w fun e w' => e = .returned (r.arm n).v ∧ Mod (fun _ => False) w w' := by
  rw [RV.v_eq, RV.v_eq]
  unfold RV.arm
  dsimp only
  go_enter Try.func18, Try.ntmps18
  go_wp2
  refine bodyPost_ret (v := .agg #[.slice r.DA r.D.length r.dc, .slice r.WA r.W.length r.wc, .bool (decide (0 ≤ n)), .bool r.dead, .int .i64 n]) (by simp [results, Try.results18, go_sem]) rfl ⟨rfl, ?_⟩
  exact ((Mod.refl _ w).alloc _).alloc _

/-! ### Read -/
theorem lay_last {α : Type} (i : Nat) : ∀ (W : List (Nat × α)) (D : List α) (k : Nat) (y : Nat × α), i < D.length → W[k]? = some y → y.1 = i → (∀ j z, k < j → W[j]? = some z → z.1 ≠ i) → (lay D W)[i]? = some y.2 := by
  intro W
  induction W with
  | nil => intro D k y _ h; simp at h
  | cons x W ih =>
    intro D k y hi h hy hn
    show (lay (D.set x.1 x.2) W)[i]? = _
    cases k with
    | zero =>
      simp at h
      subst h
      have hno : ∀ z ∈ W, z.1 ≠ i := by
        intro z hz
        obtain ⟨j, hj⟩ := List.getElem?_of_mem hz
        exact hn (j + 1) z (by omega) (by simpa using hj)
      have other : ∀ (W : List (Nat × α)) (D : List α), (∀ z ∈ W, z.1 ≠ i) → (lay D W)[i]? = D[i]? := by
        intro W
        induction W with
        | nil => intro D _; rfl
        | cons u W ihh =>
          intro D hh
          show (lay (D.set u.1 u.2) W)[i]? = _
          rw [ihh _ (fun z hz => hh z (List.mem_cons_of_mem _ hz)), List.getElem?_set_ne (hh u (List.mem_cons_self ..))]
      rw [other W _ hno, hy, List.getElem?_set_self hi]
    | succ k => exact ih _ k y (by simpa using hi) (by simpa using h) hy (fun j z hj hz => hn (j + 1) z (by omega) (by simpa using hz))
theorem lay_none {α : Type} (i : Nat) : ∀ (W : List (Nat × α)) (D : List α), (∀ (j : Nat) z, W[j]? = some z → z.1 ≠ i) → (lay D W)[i]? = D[i]? := by
  intro W
  induction W with
  | nil => intro D _; rfl
  | cons u W ih =>
    intro D h
    show (lay (D.set u.1 u.2) W)[i]? = _
    rw [ih _ (fun j z hz => h (j + 1) z (by simpa using hz)), List.getElem?_set_ne (h 0 u rfl)]
theorem RV.read_eq (r : RV) (i : Int) (s : Sct) (hr : r.dk.reach i = 0) (hs : (lay r.D r.W)[i.toNat]? = some s) : r.dk.read i = s.xs := by
  unfold Dk.read
  rw [if_pos hr]
  show (lay (r.D.map Sct.xs) (r.W.map fun y => (y.1, y.2.xs))).getD i.toNat [] = _
  rw [← lay_map, List.getD_eq_getElem?_getD, List.getElem?_map, hs]
  rfl

set_option maxRecDepth 100000 in
set_option maxHeartbeats 2000000 in
theorem refRead_ok (w : World) (M : Nat → Prop) (r : RV) (h : r.At w M) (hW : r.W.length ≤ 1000) (i : Int) :
    Calls Try.prog 39 #[r.v, .int .i64 i] w fun e w' => ∃ A n c, e = .returned (.tuple #[.slice A n c, .int .i64 (r.dk.reach i)]) ∧ Sl w' A n c (r.dk.read i) ∧ Mod (fun _ => False) w w' := by
  rw [RV.v_eq]
  cases hd : r.dead with
  | true =>
    have e1 : r.dk.reach i = 30 := by unfold Dk.reach; rw [if_pos (by simp [RV.dk, hd])]
    have e2 : r.dk.read i = [] := by unfold Dk.read; rw [if_neg (by rw [e1]; decide)]
    rw [e1, e2]
    clear e1 e2 h hd
    go_enter Try.func39, Try.ntmps39
    go_wp2
    go_ret2
    exact ⟨none, 0, 0, rfl, Sl.none_ _ _ _, (Mod.refl _ w).alloc _⟩
  | false =>
    by_cases hin : 0 ≤ i ∧ i < r.D.length
    · have e1 : r.dk.reach i = 0 := by unfold Dk.reach; rw [if_neg (by simp [RV.dk, hd]), if_pos (by rw [r.dk_len]; exact hin)]
      rw [e1]
      have hd0 : decide (i < 0) = false := by simp; omega
      have hd1 : decide ((r.D.length : Int) ≤ i) = false := by simp; omega
      have hi0 := hin.1
      have hi1 := hin.2
      have H := Lib.hid h
      have E1 := Lib.hid e1
      clear hd e1 hin h
      obtain ⟨wb, hwb⟩ : ∃ wb, wb = w.alloc (.cells #[.slice r.DA r.D.length r.dc, .slice r.WA r.W.length r.wc, .bool r.armed, .bool false, .int .i64 r.left] 31) := ⟨_, rfl⟩
      have hmb : Mod (fun _ => False) w wb := by rw [hwb]; exact (Mod.refl _ _).alloc _
      have hrow : wb.heap[w.heap.size]? = some (.cells #[.slice r.DA r.D.length r.dc, .slice r.WA r.W.length r.wc, .bool r.armed, .bool false, .int .i64 r.left] 31 (0, 0)) := by rw [hwb]; exact heap_alloc_new w _
      have b0 : wb.cell? ⟨w.heap.size, 0, none⟩ = some (.slice r.DA r.D.length r.dc) := by rw [cell_of_row _ _ _ _ _ _ hrow]; rfl
      have b1 : wb.cell? ⟨w.heap.size, 1, none⟩ = some (.slice r.WA r.W.length r.wc) := by rw [cell_of_row _ _ _ _ _ _ hrow]; rfl
      have Hb := Lib.hid (H.out.keep hmb)
      have Hmb := Lib.hid hmb
      have Hwb := Lib.hid hwb
      clear hwb hmb hrow
      go_enter Try.func39, Try.ntmps39
      go_wp2_with fail
      rw [← Hwb.out]
      have hfew := H.out.few
      obtain ⟨BB, hBB⟩ : ∃ BB, BB = w.heap.size := ⟨_, rfl⟩
      rw [← hBB] at b0 b1 ⊢
      clear hBB
      go_loopw [6] (fun k wr => ∃ q : Nat, q ≤ r.W.length ∧ k = .int .i64 ((q : Int) - 1) ∧ wr = wb ∧ ∀ j z, q ≤ j → r.W[j]? = some z → (z.1 : Int) ≠ i) (fun k _ => (intOf k + 1).toNat)
      case atStart => exact ⟨r.W.length, Nat.le_refl _, by go_num, rfl, fun j z hj hz => by have := (List.getElem?_eq_some_iff.1 hz).1; omega⟩
      case round =>
        obtain ⟨q, hq, rfl, rfl, hno⟩ := hrel
        have Hno := Lib.hid hno
        clear hno
        cases q with
        | zero =>
          obtain ⟨bD, oD, hDA, _, hDc⟩ := Hb.out.d (by omega)
          obtain ⟨s, hs⟩ : ∃ s, r.D[i.toNat]? = some s := ⟨_, List.getElem?_eq_getElem (by omega)⟩
          have hDs := hDc i.toNat s hs
          have hsat := Hb.out.secs s (List.mem_of_getElem? hs)
          have hlay : (lay r.D r.W)[i.toNat]? = some s := by rw [lay_none i.toNat r.W r.D (fun j z hz e => Hno.out j z (Nat.zero_le _) hz (by omega))]; exact hs
          have Hre := Lib.hid (r.read_eq i s E1.out hlay)
          have Hs := Lib.hid hsat.1
          have hDs' : wr.cell? ⟨bD, oD + i.toNat, none⟩ = some (.slice s.A 256 s.c) := hDs
          rw [hDA] at b0 ⊢
          clear hDA hDc hDs hsat hlay hs hd0 hd1
          go_wp2
          go_ret2
          exact ⟨s.A, 256, s.c, rfl, by rw [Hre.out]; exact Hs.out, Hmb.out⟩
        | succ q =>
          have hqq : (((q + 1 : Nat) : Int) - 1) = (q : Int) := by omega
          rw [hqq]
          obtain ⟨bW, oW, hWA, _, hWc⟩ := Hb.out.wt (by omega)
          obtain ⟨y, hy⟩ : ∃ y, r.W[q]? = some y := ⟨_, List.getElem?_eq_getElem (by omega)⟩
          obtain ⟨cy0, cy1⟩ := hWc q y hy
          have hyat := Hb.out.wsecs y (List.mem_of_getElem? hy)
          have cy1' : wr.cell? ⟨bW, oW + q * 2 + 1, none⟩ = some (.slice y.2.A 256 y.2.c) := cy1
          have Hy := Lib.hid hy
          rw [hWA] at b1 ⊢
          by_cases he : (y.1 : Int) = i
          · have hb : ((y.1 : Int) == i) = true := by simpa using he
            have hlay : (lay r.D r.W)[i.toNat]? = some y.2 := lay_last i.toNat r.W r.D q y (by omega) Hy.out (by omega) (fun j z hj hz e => Hno.out j z (by omega) hz (by omega))
            have Hre := Lib.hid (r.read_eq i y.2 E1.out hlay)
            have Hs := Lib.hid hyat.2.1
            clear hWA hWc hyat hlay hy hd0 hd1 he cy1 hqq
            go_wp2
            go_ret2
            exact ⟨y.2.A, 256, y.2.c, rfl, by rw [Hre.out]; exact Hs.out, Hmb.out⟩
          · have hb : ((y.1 : Int) == i) = false := by simpa using he
            have Hno2 : Hid (∀ j z, q ≤ j → r.W[j]? = some z → (z.1 : Int) ≠ i) := by
              intro j z hj hz
              by_cases hjq : j = q
              · subst hjq
                rw [Hy.out] at hz
                injection hz with hz
                subst hz
                exact he
              · exact Hno.out j z (by omega) hz
            clear hWc hyat hy hd0 hd1 he cy1 hqq
            go_wp2
            go_roundw
            case rel => exact ⟨q, by omega, rfl, trivial, Hno2.out⟩
            case measure => simp [intOf]
    · have e1 : r.dk.reach i = 3 := by unfold Dk.reach; rw [if_neg (by simp [RV.dk, hd]), if_neg (by rw [r.dk_len]; exact hin)]
      have e2 : r.dk.read i = [] := by unfold Dk.read; rw [if_neg (by rw [e1]; decide)]
      rw [e1, e2]
      clear e1 e2 h hd
      by_cases h0 : i < 0
      · have hd0 : decide (i < 0) = true := by simpa using h0
        clear hin h0
        go_enter Try.func39, Try.ntmps39
        go_wp2
        go_ret2
        exact ⟨none, 0, 0, rfl, Sl.none_ _ _ _, (Mod.refl _ w).alloc _⟩
      · have hd0 : decide (i < 0) = false := by simpa using h0
        have hd1 : decide ((r.D.length : Int) ≤ i) = true := by simp; omega
        clear hin h0
        go_enter Try.func39, Try.ntmps39
        go_wp2
        go_ret2
        exact ⟨none, 0, 0, rfl, Sl.none_ _ _ _, (Mod.refl _ w).alloc _⟩

/-! ### Write -/
theorem SrcN.waits {w : World} {A : Option Addr} {W : List (Nat × Sct)} (h : 0 < W.length → ∃ b o, A = some ⟨b, o, none⟩ ∧ ∀ (j : Nat) (y : Nat × Sct), W[j]? = some y → w.cell? ⟨b, o + j * 2, none⟩ = some (.int .i64 y.1) ∧ w.cell? ⟨b, o + j * 2 + 1, none⟩ = some y.2.v) : SrcN w A W.length 2 (pcells W) := by
  refine ⟨pcells_len W, fun u hu => ?_, fun hp => ?_⟩
  · simp only [pcells, List.mem_flatMap] at hu
    obtain ⟨y, _, hy⟩ := hu
    simp at hy
    rcases hy with rfl | rfl <;> rfl
  · obtain ⟨b, o, rfl, hc⟩ := h hp
    refine ⟨_, rfl, fun j u hu => ?_⟩
    have hj : j < W.length * 2 := by rw [← pcells_len]; exact (List.getElem?_eq_some_iff.1 hu).1
    have hadd : (⟨b, o, none⟩ : Addr).add j = ⟨b, o + j, none⟩ := by unfold Addr.add; split <;> simp_all
    rw [hadd]
    obtain ⟨y, hy⟩ : ∃ y, W[j / 2]? = some y := ⟨_, List.getElem?_eq_getElem (by omega)⟩
    obtain ⟨c0, c1⟩ := hc (j / 2) y hy
    obtain ⟨p0, p1⟩ := pcells_get W (j / 2) y hy
    have hr : j = j / 2 * 2 ∨ j = j / 2 * 2 + 1 := by omega
    rcases hr with e | e
    · rw [e] at hu ⊢; rw [p0] at hu; rw [c0, hu]
    · rw [e] at hu ⊢; rw [p1] at hu; rw [← Nat.add_assoc, c1, hu]
theorem OwN.waits {w : World} {base : Nat} {e : TypeId} {A : Option Addr} {c : Nat} {W : List (Nat × Sct)} (h : OwN w base e 2 A W.length c (pcells W)) :
    0 < W.length → ∃ b o, A = some ⟨b, o, none⟩ ∧ base ≤ b ∧ ∀ (j : Nat) (y : Nat × Sct), W[j]? = some y → w.cell? ⟨b, o + j * 2, none⟩ = some (.int .i64 y.1) ∧ w.cell? ⟨b, o + j * 2 + 1, none⟩ = some y.2.v := by
  intro hp
  obtain ⟨g, rfl, hc⟩ := h.cells hp
  refine ⟨g, 0, rfl, (h.lt g rfl).1, fun j y hy => ?_⟩
  have hj : j < W.length := (List.getElem?_eq_some_iff.1 hy).1
  obtain ⟨p0, p1⟩ := pcells_get W j y hy
  rw [Nat.zero_add]
  exact ⟨(hc _ (by omega)).trans p0, (hc _ (by omega)).trans p1⟩

theorem Alike.write {d : Dk} {r : RV} (h : Alike d r.dk) (i : Int) (ys : List UInt8) (hr : d.reach i = 0) (hy : ys.length = 256) (he : d.stepE = 0) (s : Sct) (hs : s.xs = ys) (A : Option Addr) (c : Nat) :
    Alike (d.write i ys) ({ r.step with WA := A, wc := c, W := r.W ++ [(i.toNat, s)] } : RV).dk := by
  have hst := h.step
  have e2 : d.write i ys = { d.stepD with pend := d.pend ++ [(i.toNat, ys)] } := by unfold Dk.write; rw [if_pos ⟨hr, hy⟩, if_pos he]
  rw [e2]
  refine ⟨hst.2.dur, ?_, hst.2.armed, hst.2.dead, hst.2.left⟩
  show d.pend ++ [(i.toNat, ys)] = (r.W ++ [(i.toNat, s)]).map _
  rw [h.pend, List.map_append, List.map_cons, List.map_nil, hs]
  rfl
theorem RV.step_D (r : RV) : r.step.D = r.D ∧ r.step.DA = r.DA ∧ r.step.dc = r.dc ∧ r.step.W = r.W ∧ r.step.WA = r.WA ∧ r.step.wc = r.wc := by unfold RV.step; split <;> exact ⟨rfl, rfl, rfl, rfl, rfl, rfl⟩
theorem RV.At.step {w : World} {M : Nat → Prop} {r : RV} (h : r.At w M) : r.step.At w M := by
  unfold RV.step
  split
  · exact h.flags _ _ _
  · exact h.flags _ _ _
end Go.Proofs.Ytfgngmoeedegiaa
