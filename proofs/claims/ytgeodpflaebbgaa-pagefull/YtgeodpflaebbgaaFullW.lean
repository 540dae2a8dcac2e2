/-
  PageFull: as many records of one size as have room together, and not one more.
-/
import Derived.Test.YtgeodpflaebbgaaLive5
namespace Go.Proofs.Ytgeodpflaebbgaa
open Go Go.RowKit

def noughts (s : Nat) : List UInt8 := List.replicate s 0
theorem noughts_len (s : Nat) : (noughts s).length = s := by simp [noughts]
def fullL (s : Nat) : Nat → List Rec
  | 0 => []
  | i + 1 => fullL s i ++ [((i : Int), noughts s)]
theorem fullL_len (s i : Nat) : (fullL s i).length = i := by
  induction i with
  | zero => rfl
  | succ i ih => simp [fullL, ih]
theorem fullL_used (s i : Nat) : usedL (fullL s i) = i * (4 + s) := by
  induction i with
  | zero => simp [fullL, usedL]
  | succ i ih => rw [fullL, usedL_append, ih]; simp only [usedL, noughts_len]; rw [Nat.add_mul]; omega
theorem fullL_keys (s i : Nat) : ∀ r ∈ fullL s i, r.1 < (i : Int) := by
  induction i with
  | zero => intro r hr; cases hr
  | succ i ih =>
    intro r hr
    rcases List.mem_append.1 hr with e | e
    · have := ih r e; omega
    · rw [List.mem_singleton] at e; subst e; simp only; omega
theorem fullL_set (s i : Nat) : mSet (i : Int) (noughts s) (fullL s i) = fullL s (i + 1) := mSet_last (fullL_keys s i)
theorem full_put (d : Int) (s i : Nat) (hs : s ≤ 32) (hi : (i + 1) * (4 + s) ≤ 240) : putP ⟨d, 0, fullL s i⟩ (i : Int) true (noughts s) = (0, ⟨d, 0, fullL s (i + 1)⟩) := by
  have h60 : i < 60 := by
    have : (i + 1) * 4 ≤ (i + 1) * (4 + s) := Nat.mul_le_mul_left _ (by omega)
    omega
  unfold putP
  rw [if_neg (by omega), if_neg (by simp), if_neg (by rw [noughts_len]; omega), fullL_set, if_neg (by rw [fullL_used]; omega)]
theorem full_full (d : Int) (s i : Nat) (hs : s ≤ 32) (h60 : i ≤ 60) (hi : 240 < (i + 1) * (4 + s)) : putP ⟨d, 0, fullL s i⟩ (i : Int) true (noughts s) = (4, ⟨d, 0, fullL s i⟩) := by
  unfold putP
  rw [if_neg (by omega), if_neg (by simp), if_neg (by rw [noughts_len]; omega), fullL_set, if_pos (by rw [fullL_used]; omega)]
theorem made_sl (w : World) (s : Nat) : Sl (w.alloc (.cells (madeCells #[.int .u8 0] s) 5)) (some ⟨w.heap.size, 0, none⟩) s s (noughts s) := by
  have e : madeCells #[Value.int .u8 0] s = ((noughts s).map bv).toArray := by
    have : (noughts s).map bv = List.replicate s (Value.int .u8 0) := by simp [noughts, bv]
    rw [this, ← toList_madeCells_one]
  rw [e]
  have := Sl.lit_ (noughts s) (heap_alloc_new w (.cells ((noughts s).map bv).toArray 5))
  rw [noughts_len] at this
  exact this

set_option maxRecDepth 100000 in
set_option maxHeartbeats 2000000 in
theorem full_walk (d z : Int) (w : World) : Calls Try.prog 8 #[.int .i64 d, .int .i64 z] w fun e w' => e = .returned (.bool true) ∧ Below w.heap.size w w' := by
  by_cases hok : 0 ≤ d ∧ d ≤ 65535 ∧ 0 ≤ z ∧ z ≤ 32
  · obtain ⟨d0, d1, z0, z1⟩ := hok
    obtain ⟨s, rfl⟩ := Int.eq_ofNat_of_zero_le z0
    have hs32 : s ≤ 32 := by omega
    have e1 : decide (d < 0) = false := by simpa using d0
    have e2 : decide (65535 < d) = false := by simpa using d1
    have e3 : decide ((32 : Int) < (s : Int)) = false := by rw [decide_eq_false_iff_not]; omega
    have hmk := fun W => run_makeBytes s (by omega) W
    go_enter Try.func8, Try.ntmps8
    go_wp2_with fail
    refine (awake_ok _).mono ?_
    rintro e w1 ⟨rfl, hm1⟩
    have Hn := Lib.hid (lv_new w w1 hm1 d d0 d1)
    clear hm1
    go_wp2_with fail
    refine Hn.out.mono ?_
    rintro e w2 ⟨q, rfl, h2, _⟩
    have H2 := Lib.hid h2
    clear h2
    obtain ⟨N, hN⟩ : ∃ N : Nat, 240 / (4 + s) = N := ⟨_, rfl⟩
    have hNi : (240 : Int) / (4 + (s : Int)) = (N : Int) := by
      rw [← hN, Int.natCast_ediv]
      rfl
    have hN60 : N ≤ 60 := by
      rw [← hN]
      exact Nat.le_trans (Nat.div_le_div_left (show 4 ≤ 4 + s by omega) (by omega)) (Nat.le_refl _)
    have Hfit : Hid (∀ i, i < N → (i + 1) * (4 + s) ≤ 240) := fun i hi => by
      have h1 := (Nat.le_div_iff_mul_le (k := 4 + s) (x := i + 1) (y := 240) (by omega)).1 (by omega)
      exact h1
    have Hfull : Hid (240 < (N + 1) * (4 + s)) := by
      show _ < _
      have h1 := Nat.lt_succ_self (240 / (4 + s))
      have h2 := (Nat.div_lt_iff_lt_mul (k := 4 + s) (x := 240) (y := N + 1) (by omega)).1 (by omega)
      exact h2
    clear hN
    go_wp2_with fail
    rw [hNi]
    clear hNi
    go_loopw [6, 9] (fun p i wr => ∃ (j q' : Nat), j ≤ N ∧ i = .int .i64 j ∧ p = .slice (some ⟨q', 0, none⟩) 248 248 ∧ Lv w wr q' ⟨d, 0, fullL s j⟩) (fun _ i _ => N - (intOf i).toNat)
    case atStart => exact ⟨0, q, by omega, rfl, rfl, H2.out⟩
    case round =>
      obtain ⟨j, q', hj, rfl, rfl, hL⟩ := hrel
      have ha : Mod (fun _ => False) wr (wr.alloc (.cells (madeCells #[.int .u8 0] s) 5)) := (Mod.refl _ wr).alloc _
      have Hp := Lib.hid (lv_put (hL.keep ha) (j : Int) true (made_sl wr s))
      have HL := Lib.hid hL
      clear hL ha
      by_cases hlt : j < N
      · rw [full_put d s j hs32 (Hfit.out j hlt)] at Hp
        go_wp2_with fail
        refine Hp.out.mono ?_
        rintro e w4 hans
        obtain ⟨q4, rfl, h4, _⟩ := hans.ok rfl
        have H4 := Lib.hid h4
        clear hans h4
        go_wp2
        go_roundw
        case rel => exact ⟨j + 1, q4, by omega, by go_num, rfl, H4.out⟩
        case measure => simp [intOf]; omega
      · obtain rfl : j = N := by omega
        rw [full_full d s j hs32 hN60 Hfull.out] at Hp
        go_wp2_with fail
        refine Hp.out.mono ?_
        rintro e w4 hans
        obtain ⟨rfl, hm4⟩ := hans.bad (by simp)
        have hm5 := ((Mod.refl (fun _ => False) wr).alloc (.cells (madeCells #[.int .u8 0] s) 5)).trans hm4 (fun _ _ h => h)
        have H4 := Lib.hid (HL.out.keep hm5)
        have ha := lv_all H4.out
        rw [fullL_len] at ha
        have Ha := Lib.hid ha
        clear hans hm4 hm5 ha
        go_wp2_with fail
        refine Ha.out.mono ?_
        rintro e w5 ⟨A5, c5, L5, rfl, hk⟩
        have H5 := Lib.hid (H4.out.keep hk.old)
        have Hmay := Lib.hid (lv_may H5.out)
        clear hk
        go_wp2_with fail
        refine Hmay.out.mono ?_
        rintro e w6 ⟨rfl, hm6⟩
        have Hm6 := Lib.hid (H5.out.old.trans hm6 (fun _ _ h => h))
        clear hm6
        go_wp2
        go_ret
        exact ⟨rfl, Hm6.out.below (Nat.le_refl _) (fun _ _ => id)⟩
  · have Haw := Lib.hid (awake_ok w)
    by_cases e1 : d < 0
    · have e1' : decide (d < 0) = true := by simpa using e1
      clear hok
      go_enter Try.func8, Try.ntmps8
      go_wp2_with fail
      refine Haw.out.mono ?_
      rintro e w1 ⟨rfl, hm1⟩
      have Hm1 := Lib.hid hm1
      clear hm1
      go_wp2
      go_ret
      exact ⟨rfl, Hm1.out.below (Nat.le_refl _) (fun _ _ => id)⟩
    have e1' : decide (d < 0) = false := by simpa using e1
    by_cases e2 : 65535 < d
    · have e2' : decide (65535 < d) = true := by simpa using e2
      clear hok
      go_enter Try.func8, Try.ntmps8
      go_wp2_with fail
      refine Haw.out.mono ?_
      rintro e w1 ⟨rfl, hm1⟩
      have Hm1 := Lib.hid hm1
      clear hm1
      go_wp2
      go_ret
      exact ⟨rfl, Hm1.out.below (Nat.le_refl _) (fun _ _ => id)⟩
    have e2' : decide (65535 < d) = false := by simpa using e2
    by_cases e3 : z < 0
    · have e3' : decide (z < 0) = true := by simpa using e3
      clear hok
      go_enter Try.func8, Try.ntmps8
      go_wp2_with fail
      refine Haw.out.mono ?_
      rintro e w1 ⟨rfl, hm1⟩
      have Hm1 := Lib.hid hm1
      clear hm1
      go_wp2
      go_ret
      exact ⟨rfl, Hm1.out.below (Nat.le_refl _) (fun _ _ => id)⟩
    have e3' : decide (z < 0) = false := by simpa using e3
    have e4' : decide (32 < z) = true := by rw [decide_eq_true_eq]; omega
    clear hok
    go_enter Try.func8, Try.ntmps8
    go_wp2_with fail
    refine Haw.out.mono ?_
    rintro e w1 ⟨rfl, hm1⟩
    have Hm1 := Lib.hid hm1
    clear hm1
    go_wp2
    go_ret
    exact ⟨rfl, Hm1.out.below (Nat.le_refl _) (fun _ _ => id)⟩
end Go.Proofs.Ytgeodpflaebbgaa
