/-
  bobbinref12: has, one, Clash.
-/
import Derived.Test.YtpkjafadhnecfaaKBit
namespace Go.Proofs.Ytpkjafadhnecfaa
open Go Go.RowKit

theorem has_fin (b c : Bool) (h : b = c) : Ending.returned (.bool b) = .returned (.bool c) := by rw [h]

set_option maxRecDepth 100000 in
set_option maxHeartbeats 1600000 in
theorem has_1 (w : World) (a : Int) (h : I64 a) :
    Calls Try.prog 34 #[.int .i64 a, .int .i64 1] w fun e w' => e = .returned (.bool ((m4 a).testBit 0)) ∧ w' = w := by
  obtain ⟨h1, h2⟩ := pos_ge h
  obtain ⟨N, hN⟩ := Int.eq_ofNat_of_zero_le h1
  have hb := bitk N 0 (by omega)
  rw [← hN, pos_m4] at hb
  have Hb := Lib.hid hb
  clear hb h1
  unfold pos at hN h2
  unfold I64 at h
  by_cases ha : a < 0
  · rw [if_pos ha] at hN h2
    have HN := Lib.hid hN
    clear hN
    go_enter Try.func34, Try.ntmps34
    go_wp2
    refine wp_loop_rounds 2 ?_
    rw [rounds_succ]
    go_wp2
    go_ret
    refine ⟨has_fin _ _ ?_, rfl⟩
    rw [← Hb.out]
    have hN := HN.out
    rw [Bool.eq_iff_iff, beq_iff_eq, decide_eq_true_eq]
    omega
  · rw [if_neg ha] at hN h2
    have HN := Lib.hid hN
    clear hN
    go_enter Try.func34, Try.ntmps34
    go_wp2
    refine wp_loop_rounds 2 ?_
    rw [rounds_succ]
    go_wp2
    go_ret
    refine ⟨has_fin _ _ ?_, rfl⟩
    rw [← Hb.out]
    have hN := HN.out
    rw [Bool.eq_iff_iff, beq_iff_eq, decide_eq_true_eq]
    omega

set_option maxRecDepth 100000 in
set_option maxHeartbeats 1600000 in
theorem has_2 (w : World) (a : Int) (h : I64 a) :
    Calls Try.prog 34 #[.int .i64 a, .int .i64 2] w fun e w' => e = .returned (.bool ((m4 a).testBit 1)) ∧ w' = w := by
  obtain ⟨h1, h2⟩ := pos_ge h
  obtain ⟨N, hN⟩ := Int.eq_ofNat_of_zero_le h1
  have hb := bitk N 1 (by omega)
  rw [← hN, pos_m4] at hb
  have Hb := Lib.hid hb
  clear hb h1
  unfold pos at hN h2
  unfold I64 at h
  by_cases ha : a < 0
  · rw [if_pos ha] at hN h2
    have HN := Lib.hid hN
    clear hN
    go_enter Try.func34, Try.ntmps34
    go_wp2
    refine wp_loop_rounds 3 ?_
    rw [rounds_succ]
    go_wp2
    rw [rounds_succ]
    go_wp2
    go_ret
    refine ⟨has_fin _ _ ?_, rfl⟩
    rw [← Hb.out]
    have hN := HN.out
    rw [Bool.eq_iff_iff, beq_iff_eq, decide_eq_true_eq]
    omega
  · rw [if_neg ha] at hN h2
    have HN := Lib.hid hN
    clear hN
    go_enter Try.func34, Try.ntmps34
    go_wp2
    refine wp_loop_rounds 3 ?_
    rw [rounds_succ]
    go_wp2
    rw [rounds_succ]
    go_wp2
    go_ret
    refine ⟨has_fin _ _ ?_, rfl⟩
    rw [← Hb.out]
    have hN := HN.out
    rw [Bool.eq_iff_iff, beq_iff_eq, decide_eq_true_eq]
    omega

set_option maxRecDepth 100000 in
set_option maxHeartbeats 1600000 in
theorem has_4 (w : World) (a : Int) (h : I64 a) :
    Calls Try.prog 34 #[.int .i64 a, .int .i64 4] w fun e w' => e = .returned (.bool ((m4 a).testBit 2)) ∧ w' = w := by
  obtain ⟨h1, h2⟩ := pos_ge h
  obtain ⟨N, hN⟩ := Int.eq_ofNat_of_zero_le h1
  have hb := bitk N 2 (by omega)
  rw [← hN, pos_m4] at hb
  have Hb := Lib.hid hb
  clear hb h1
  unfold pos at hN h2
  unfold I64 at h
  by_cases ha : a < 0
  · rw [if_pos ha] at hN h2
    have HN := Lib.hid hN
    clear hN
    go_enter Try.func34, Try.ntmps34
    go_wp2
    refine wp_loop_rounds 4 ?_
    rw [rounds_succ]
    go_wp2
    rw [rounds_succ]
    go_wp2
    rw [rounds_succ]
    go_wp2
    go_ret
    refine ⟨has_fin _ _ ?_, rfl⟩
    rw [← Hb.out]
    have hN := HN.out
    rw [Bool.eq_iff_iff, beq_iff_eq, decide_eq_true_eq]
    omega
  · rw [if_neg ha] at hN h2
    have HN := Lib.hid hN
    clear hN
    go_enter Try.func34, Try.ntmps34
    go_wp2
    refine wp_loop_rounds 4 ?_
    rw [rounds_succ]
    go_wp2
    rw [rounds_succ]
    go_wp2
    rw [rounds_succ]
    go_wp2
    go_ret
    refine ⟨has_fin _ _ ?_, rfl⟩
    rw [← Hb.out]
    have hN := HN.out
    rw [Bool.eq_iff_iff, beq_iff_eq, decide_eq_true_eq]
    omega

set_option maxRecDepth 100000 in
set_option maxHeartbeats 1600000 in
theorem has_8 (w : World) (a : Int) (h : I64 a) :
    Calls Try.prog 34 #[.int .i64 a, .int .i64 8] w fun e w' => e = .returned (.bool ((m4 a).testBit 3)) ∧ w' = w := by
  obtain ⟨h1, h2⟩ := pos_ge h
  obtain ⟨N, hN⟩ := Int.eq_ofNat_of_zero_le h1
  have hb := bitk N 3 (by omega)
  rw [← hN, pos_m4] at hb
  have Hb := Lib.hid hb
  clear hb h1
  unfold pos at hN h2
  unfold I64 at h
  by_cases ha : a < 0
  · rw [if_pos ha] at hN h2
    have HN := Lib.hid hN
    clear hN
    go_enter Try.func34, Try.ntmps34
    go_wp2
    refine wp_loop_rounds 5 ?_
    rw [rounds_succ]
    go_wp2
    rw [rounds_succ]
    go_wp2
    rw [rounds_succ]
    go_wp2
    rw [rounds_succ]
    go_wp2
    go_ret
    refine ⟨has_fin _ _ ?_, rfl⟩
    rw [← Hb.out]
    have hN := HN.out
    rw [Bool.eq_iff_iff, beq_iff_eq, decide_eq_true_eq]
    omega
  · rw [if_neg ha] at hN h2
    have HN := Lib.hid hN
    clear hN
    go_enter Try.func34, Try.ntmps34
    go_wp2
    refine wp_loop_rounds 5 ?_
    rw [rounds_succ]
    go_wp2
    rw [rounds_succ]
    go_wp2
    rw [rounds_succ]
    go_wp2
    rw [rounds_succ]
    go_wp2
    go_ret
    refine ⟨has_fin _ _ ?_, rfl⟩
    rw [← Hb.out]
    have hN := HN.out
    rw [Bool.eq_iff_iff, beq_iff_eq, decide_eq_true_eq]
    omega

set_option maxRecDepth 100000 in
set_option maxHeartbeats 1600000 in
theorem one_ok (w : World) (a b : Int) (ha : I64 a) (hb : I64 b) :
    Calls Try.prog 42 #[.int .i64 a, .int .i64 b] w fun e w' => e = .returned (.bool (exB a b)) ∧ w' = w := by
  have A2 := Lib.hid (has_2 w a ha)
  have A4 := Lib.hid (has_4 w a ha)
  have B1 := Lib.hid (has_1 w b hb)
  have B2 := Lib.hid (has_2 w b hb)
  have B8 := Lib.hid (has_8 w b hb)
  have hv : exB a b = (((m4 a).testBit 1 && ((m4 b).testBit 0 || (m4 b).testBit 1)) || ((m4 a).testBit 2 && (m4 b).testBit 3)) := rfl
  rw [hv]
  clear hv ha hb
  generalize (m4 a).testBit 1 = a2 at *
  generalize (m4 a).testBit 2 = a4 at *
  generalize (m4 b).testBit 0 = b1 at *
  generalize (m4 b).testBit 1 = b2 at *
  generalize (m4 b).testBit 3 = b8 at *
  cases a2 with
  | false =>
    cases a4 with
    | false =>
      go_enter Try.func42, Try.ntmps42
      go_wp2_with fail
      refine A2.out.mono ?_
      rintro e w' ⟨rfl, rfl⟩
      go_wp2_with fail
      refine A4.out.mono ?_
      rintro e w' ⟨rfl, rfl⟩
      go_wp2
      go_ret
      exact ⟨rfl, rfl⟩
    | true =>
      go_enter Try.func42, Try.ntmps42
      go_wp2_with fail
      refine A2.out.mono ?_
      rintro e w' ⟨rfl, rfl⟩
      go_wp2_with fail
      refine A4.out.mono ?_
      rintro e w' ⟨rfl, rfl⟩
      go_wp2_with fail
      refine B8.out.mono ?_
      rintro e w' ⟨rfl, rfl⟩
      go_wp2
      go_ret
      exact ⟨rfl, rfl⟩
  | true =>
    cases b1 with
    | true =>
      go_enter Try.func42, Try.ntmps42
      go_wp2_with fail
      refine A2.out.mono ?_
      rintro e w' ⟨rfl, rfl⟩
      go_wp2_with fail
      refine B1.out.mono ?_
      rintro e w' ⟨rfl, rfl⟩
      go_wp2
      go_ret
      exact ⟨rfl, rfl⟩
    | false =>
      cases b2 with
      | true =>
        go_enter Try.func42, Try.ntmps42
        go_wp2_with fail
        refine A2.out.mono ?_
        rintro e w' ⟨rfl, rfl⟩
        go_wp2_with fail
        refine B1.out.mono ?_
        rintro e w' ⟨rfl, rfl⟩
        go_wp2_with fail
        refine B2.out.mono ?_
        rintro e w' ⟨rfl, rfl⟩
        go_wp2
        go_ret
        exact ⟨rfl, rfl⟩
      | false =>
        cases a4 with
        | false =>
          go_enter Try.func42, Try.ntmps42
          go_wp2_with fail
          refine A2.out.mono ?_
          rintro e w' ⟨rfl, rfl⟩
          go_wp2_with fail
          refine B1.out.mono ?_
          rintro e w' ⟨rfl, rfl⟩
          go_wp2_with fail
          refine B2.out.mono ?_
          rintro e w' ⟨rfl, rfl⟩
          go_wp2_with fail
          refine A4.out.mono ?_
          rintro e w' ⟨rfl, rfl⟩
          go_wp2
          go_ret
          exact ⟨rfl, rfl⟩
        | true =>
          go_enter Try.func42, Try.ntmps42
          go_wp2_with fail
          refine A2.out.mono ?_
          rintro e w' ⟨rfl, rfl⟩
          go_wp2_with fail
          refine B1.out.mono ?_
          rintro e w' ⟨rfl, rfl⟩
          go_wp2_with fail
          refine B2.out.mono ?_
          rintro e w' ⟨rfl, rfl⟩
          go_wp2_with fail
          refine A4.out.mono ?_
          rintro e w' ⟨rfl, rfl⟩
          go_wp2_with fail
          refine B8.out.mono ?_
          rintro e w' ⟨rfl, rfl⟩
          go_wp2
          go_ret
          exact ⟨rfl, rfl⟩

set_option maxRecDepth 100000 in
theorem rclash_ok (w : World) (a b : Int) (ha : I64 a) (hb : I64 b) :
    Calls Try.prog 24 #[.int .i64 a, .int .i64 b] w fun e w' => e = .returned (.bool (clB a b)) ∧ w' = w := by
  have h1 := Lib.hid (one_ok w a b ha hb)
  have h2 := Lib.hid (one_ok w b a hb ha)
  have hv : clB a b = (exB a b || exB b a) := rfl
  rw [hv]
  clear hv ha hb
  generalize exB a b = p at *
  generalize exB b a = q at *
  cases p with
  | true =>
    go_enter Try.func24, Try.ntmps24
    go_wp2_with fail
    refine h1.out.mono ?_
    rintro e w' ⟨rfl, rfl⟩
    go_wp2_with fail
    refine h2.out.mono ?_
    rintro e w' ⟨rfl, rfl⟩
    go_wp2
    go_ret
    exact ⟨rfl, rfl⟩
  | false =>
    go_enter Try.func24, Try.ntmps24
    go_wp2_with fail
    refine h1.out.mono ?_
    rintro e w' ⟨rfl, rfl⟩
    go_wp2_with fail
    refine h2.out.mono ?_
    rintro e w' ⟨rfl, rfl⟩
    go_wp2
    go_ret
    exact ⟨rfl, rfl⟩
end Go.Proofs.Ytpkjafadhnecfaa
