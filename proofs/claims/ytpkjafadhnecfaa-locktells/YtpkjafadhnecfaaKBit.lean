/-
  Package lock: excludes, Clash; bobbinref12: has, one, Clash.
-/
import Derived.Test.YtpkjafadhnecfaaTMem
import Derived.Test.YtpkjafadhnecfaaKMath2
import Derived.BigQuiet
namespace Go.Proofs.Ytpkjafadhnecfaa
open Go Go.RowKit

theorem hdElem : ElemN Try.prog 22 37 (.agg #[.int .i64 0, .int .i64 0, .int .i64 0]) 3 24 := ElemN.mk_ Try.underlying22 rfl (by decide) (by kernel_rfl)
theorem intElem : Elem Try.prog 25 3 (.int .i64 0) 8 := Elem.mk_ Try.underlying25 rfl (by kernel_rfl)

set_option maxRecDepth 100000 in
set_option maxHeartbeats 1600000 in
theorem excludes_ok (w : World) (a b : Int) :
    Calls Try.prog 41 #[.int .i64 a, .int .i64 b] w fun e w' => e = .returned (.bool (exB a b)) ∧ w' = w := by
  have t1 := tst2 a
  have t2 := tst3 b
  have t3 := tst4 a
  have t4 := tst8 b
  have hv : exB a b = (((m4 a).testBit 1 && ((m4 b).testBit 0 || (m4 b).testBit 1)) || ((m4 a).testBit 2 && (m4 b).testBit 3)) := rfl
  rw [hv]
  clear hv
  generalize (m4 a).testBit 1 = p at *
  generalize ((m4 b).testBit 0 || (m4 b).testBit 1) = q at *
  generalize (m4 a).testBit 2 = r at *
  generalize (m4 b).testBit 3 = s at *
  cases p with
  | false =>
    cases r with
    | false =>
      go_enter Try.func41, Try.ntmps41
      go_wp2
      go_ret
      exact ⟨rfl, rfl⟩
    | true =>
      go_enter Try.func41, Try.ntmps41
      go_wp2
      go_ret
      exact ⟨rfl, rfl⟩
  | true =>
    cases q with
    | true =>
      go_enter Try.func41, Try.ntmps41
      go_wp2
      go_ret
      exact ⟨rfl, rfl⟩
    | false =>
      cases r with
      | false =>
        go_enter Try.func41, Try.ntmps41
        go_wp2
        go_ret
        exact ⟨rfl, rfl⟩
      | true =>
        go_enter Try.func41, Try.ntmps41
        go_wp2
        go_ret
        exact ⟨rfl, rfl⟩

set_option maxRecDepth 100000 in
theorem clash_ok (w : World) (a b : Int) :
    Calls Try.prog 23 #[.int .i64 a, .int .i64 b] w fun e w' => e = .returned (.bool (clB a b)) ∧ w' = w := by
  have h1 := fun w => excludes_ok w a b
  have h2 := fun w => excludes_ok w b a
  have hv : clB a b = (exB a b || exB b a) := rfl
  rw [hv]
  clear hv
  generalize exB a b = p at *
  generalize exB b a = q at *
  cases p with
  | true =>
    go_enter Try.func23, Try.ntmps23
    go_wp2_with (go_at_call 41; refine (h1 _).mono ?_; rintro e w' ⟨rfl, rfl⟩)
    go_ret
    exact ⟨rfl, rfl⟩
  | false =>
    go_enter Try.func23, Try.ntmps23
    go_wp2_with fail
    refine (h1 _).mono ?_
    rintro e w' ⟨rfl, rfl⟩
    go_wp2_with fail
    refine (h2 _).mono ?_
    rintro e w' ⟨rfl, rfl⟩
    go_wp2
    go_ret
    exact ⟨rfl, rfl⟩

/-! ### The document's side -/
/-- A number of 64 bits. -/
def I64 (n : Int) : Prop := -9223372036854775808 ≤ n ∧ n ≤ 9223372036854775807
/-- The number without its sign. -/
def pos (a : Int) : Int := if a < 0 then a + 9223372036854775808 else a
theorem pos_m4 (a : Int) : m4 (pos a) = m4 a := by unfold pos m4; split <;> omega
theorem pos_ge {a : Int} (h : I64 a) : 0 ≤ pos a ∧ pos a ≤ 9223372036854775807 := by unfold pos; unfold I64 at h; split <;> omega
theorem bit0 (n : Nat) : decide ((n : Int) % 2 = 1) = (m4 (n : Int)).testBit 0 := by
  rw [Nat.testBit_zero]; unfold m4; congr 1; rw [eq_iff_iff]; omega
theorem bitk (n i : Nat) (hi : i < 4) : decide (((n / 2 ^ i : Nat) : Int) % 2 = 1) = (m4 (n : Int)).testBit i := by
  rw [Nat.testBit_eq_decide_div_mod_eq]
  congr 1
  rw [eq_iff_iff]
  unfold m4
  rcases (by omega : i = 0 ∨ i = 1 ∨ i = 2 ∨ i = 3) with rfl | rfl | rfl | rfl <;> simp <;> omega

end Go.Proofs.Ytpkjafadhnecfaa
