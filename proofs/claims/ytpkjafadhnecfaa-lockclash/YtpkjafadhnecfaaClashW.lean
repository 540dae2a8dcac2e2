/-
  LockClash: any two modes clash, or not, as the document says; it does not matter which one is first.
-/
import Derived.Test.YtpkjafadhnecfaaKAw
import Derived.Test.YtpkjafadhnecfaaKHas
namespace Go.Proofs.Ytpkjafadhnecfaa
open Go Go.RowKit

set_option maxRecDepth 100000 in
set_option maxHeartbeats 1600000 in
theorem clash_walk (W : World) (a b : Int) (ha : I64 a) (hb : I64 b) :
    Calls Try.prog 4 #[.int .i64 a, .int .i64 b] W fun e w' => e = .returned (.bool true) ∧ Below W.heap.size W w' := by
  have C1 := Lib.hid (fun V => clash_ok V a b)
  have C2 := Lib.hid (fun V => clash_ok V b a)
  have R1 := Lib.hid (fun V => rclash_ok V a b ha hb)
  rw [clB_comm b a] at C2
  clear ha hb
  generalize clB a b = v at *
  have hv : (v == v) = true := by simp
  go_enter Try.func4, Try.ntmps4
  go_wp2_with fail
  refine (awake_ok _).mono ?_
  rintro e w1 ⟨rfl, hm1⟩
  have HM := Lib.hid hm1
  clear hm1
  go_wp2_with fail
  refine (C1.out _).mono ?_
  rintro e w2 ⟨rfl, h'⟩; subst w2
  go_wp2_with fail
  refine (R1.out _).mono ?_
  rintro e w2 ⟨rfl, h'⟩; subst w2
  go_wp2_with fail
  refine (C1.out _).mono ?_
  rintro e w2 ⟨rfl, h'⟩; subst w2
  go_wp2_with fail
  refine (C2.out _).mono ?_
  rintro e w2 ⟨rfl, h'⟩; subst w2
  go_wp2
  go_ret
  exact ⟨rfl, HM.out.below (Nat.le_refl _) (fun _ _ => id)⟩
end Go.Proofs.Ytpkjafadhnecfaa
