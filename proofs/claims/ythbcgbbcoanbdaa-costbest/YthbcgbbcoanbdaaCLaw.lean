/-
  bobbinlaw11.awake, light.
-/
import Derived.Test.YthbcgbbcoanbdaaCVic
namespace Go.Proofs.Ythbcgbbcoanbdaa
open Go Go.RowKit

/-! ### The chapter's example -/
def awC : Tb := ⟨[⟨0, 0, 0⟩, ⟨1, 0, 0⟩, ⟨1, 1, 0⟩, ⟨1, 3, 0⟩], [⟨2, 4, 2⟩, ⟨2, 4, 0⟩], 4, 10⟩
def awV (b : Nat) : TV := ⟨some ⟨b + 1 + 1, 0, none⟩, 4, 4, some ⟨b, 0, none⟩, 2, 2, awC⟩
theorem awC_facts : (gaN awC 0 = 27 ∧ gaD awC 0 = 5 ∧ gnB awC 0 = true) ∧ (gaN awC 1 = 11 ∧ gaD awC 1 = 7 ∧ gnB awC 1 = true) ∧ (vcT awC).v = 0 ∧ (vcT awC).f = true := by decide +kernel

set_option maxRecDepth 100000 in
set_option maxHeartbeats 3200000 in
theorem cawake_ok (w : World) : Calls Try.prog 14 #[] w fun e w' => e = .returned (.bool true) ∧ Mod (fun _ => False) w w' := by
  obtain ⟨⟨F0, F1, F2⟩, ⟨F3, F4, F5⟩, F6, F7⟩ := awC_facts
  obtain ⟨v1, hv1⟩ : ∃ v1, ((w.alloc (.cells #[.int .i64 2, .int .i64 4, .int .i64 2, .int .i64 2, .int .i64 4, .int .i64 0] 45)).alloc (.cells #[.slice (some ⟨w.heap.size + 1 + 1, 0, none⟩) 4 4, .slice (some ⟨w.heap.size, 0, none⟩) 2 2, .int .i64 4, .int .i64 10] 27)).alloc (.cells #[.int .i64 0, .int .i64 0, .int .i64 0, .int .i64 1, .int .i64 0, .int .i64 0, .int .i64 1, .int .i64 1, .int .i64 0, .int .i64 1, .int .i64 3, .int .i64 0] 34) = v1 := ⟨_, rfl⟩
  have hm1 : Mod (fun _ => False) w v1 := by rw [← hv1]; exact (((Mod.refl _ w).alloc _).alloc _).alloc _
  have r0 : v1.heap[w.heap.size]? = some (.cells #[.int .i64 2, .int .i64 4, .int .i64 2, .int .i64 2, .int .i64 4, .int .i64 0] 45 (0, 0)) := by
    rw [← hv1]
    have h := heap_alloc_new w (.cells #[.int .i64 2, .int .i64 4, .int .i64 2, .int .i64 2, .int .i64 4, .int .i64 0] 45)
    exact (((Mod.refl (fun _ => False) (w.alloc (.cells #[.int .i64 2, .int .i64 4, .int .i64 2, .int .i64 2, .int .i64 4, .int .i64 0] 45))).alloc (.cells #[.slice (some ⟨w.heap.size + 1 + 1, 0, none⟩) 4 4, .slice (some ⟨w.heap.size, 0, none⟩) 2 2, .int .i64 4, .int .i64 10] 27)).alloc (.cells #[.int .i64 0, .int .i64 0, .int .i64 0, .int .i64 1, .int .i64 0, .int .i64 0, .int .i64 1, .int .i64 1, .int .i64 0, .int .i64 1, .int .i64 3, .int .i64 0] 34)).block _ (by simp) id |>.trans h
  have r1 : TBx v1 (w.heap.size + 1) (awV w.heap.size) := by
    rw [← hv1]
    have h := TBx.new (w.alloc (.cells #[.int .i64 2, .int .i64 4, .int .i64 2, .int .i64 2, .int .i64 4, .int .i64 0] 45)) (awV w.heap.size)
    rw [World.size_alloc] at h
    exact h.keep ((Mod.refl _ _).alloc _)
  have r2 : v1.heap[w.heap.size + 1 + 1]? = some (.cells #[.int .i64 0, .int .i64 0, .int .i64 0, .int .i64 1, .int .i64 0, .int .i64 0, .int .i64 1, .int .i64 1, .int .i64 0, .int .i64 1, .int .i64 3, .int .i64 0] 34 (0, 0)) := by
    rw [← hv1]
    have h := heap_alloc_new ((w.alloc (.cells #[.int .i64 2, .int .i64 4, .int .i64 2, .int .i64 2, .int .i64 4, .int .i64 0] 45)).alloc (.cells #[.slice (some ⟨w.heap.size + 1 + 1, 0, none⟩) 4 4, .slice (some ⟨w.heap.size, 0, none⟩) 2 2, .int .i64 4, .int .i64 10] 27)) (.cells #[.int .i64 0, .int .i64 0, .int .i64 0, .int .i64 1, .int .i64 0, .int .i64 0, .int .i64 1, .int .i64 1, .int .i64 0, .int .i64 1, .int .i64 3, .int .i64 0] 34)
    rw [World.size_alloc, World.size_alloc] at h
    exact h
  have hat : (awV w.heap.size).At v1 := by
    refine ⟨⟨rfl, Nat.le_refl _, fun _ => ⟨_, 0, rfl, fun j hj => ?_⟩⟩, ⟨rfl, Nat.le_refl _, fun _ => ⟨_, 0, rfl, fun j hj => ?_⟩⟩⟩
    · have hj4 : j = 0 ∨ j = 1 ∨ j = 2 ∨ j = 3 := by have : j < 4 := hj; omega
      rcases hj4 with rfl | rfl | rfl | rfl <;> exact ⟨by rw [cell_of_row _ _ _ _ _ _ r2]; rfl, by rw [cell_of_row _ _ _ _ _ _ r2]; rfl, by rw [cell_of_row _ _ _ _ _ _ r2]; rfl⟩
    · have hj2 : j = 0 ∨ j = 1 := by have : j < 2 := hj; omega
      rcases hj2 with rfl | rfl <;> exact ⟨by rw [cell_of_row _ _ _ _ _ _ r0]; rfl, by rw [cell_of_row _ _ _ _ _ _ r0]; rfl, by rw [cell_of_row _ _ _ _ _ _ r0]; rfl⟩
  have HM1 := Lib.hid hm1
  have HB1 := Lib.hid r1
  have HA1 := Lib.hid hat
  have G0 : Hid (∀ V, (awV w.heap.size).At V → Calls Try.prog 16 #[.agg #[.slice (some ⟨w.heap.size + 1 + 1, 0, none⟩) 4 4, .slice (some ⟨w.heap.size, 0, none⟩) 2 2, .int .i64 4, .int .i64 10], .int .i64 0] V fun e w' => e = .returned (.tuple #[.int .i64 27, .int .i64 5, .bool true]) ∧ Mod (fun _ => False) V w') := fun V hV => by
    have := gain_ok V (awV w.heap.size) hV (show 4 ≤ 1000 by decide) (show 2 ≤ 1000 by decide) 0
    rw [show (awV w.heap.size).t = awC from rfl, F0, F1, F2] at this
    exact this
  have G1 : Hid (∀ V, (awV w.heap.size).At V → Calls Try.prog 16 #[.agg #[.slice (some ⟨w.heap.size + 1 + 1, 0, none⟩) 4 4, .slice (some ⟨w.heap.size, 0, none⟩) 2 2, .int .i64 4, .int .i64 10], .int .i64 1] V fun e w' => e = .returned (.tuple #[.int .i64 11, .int .i64 7, .bool true]) ∧ Mod (fun _ => False) V w') := fun V hV => by
    have := gain_ok V (awV w.heap.size) hV (show 4 ≤ 1000 by decide) (show 2 ≤ 1000 by decide) 1
    rw [show (awV w.heap.size).t = awC from rfl, F3, F4, F5] at this
    exact this
  have GV : Hid (∀ V, (awV w.heap.size).At V → Calls Try.prog 18 #[.agg #[.slice (some ⟨w.heap.size + 1 + 1, 0, none⟩) 4 4, .slice (some ⟨w.heap.size, 0, none⟩) 2 2, .int .i64 4, .int .i64 10]] V fun e w' => e = .returned (.tuple #[.int .i64 0, .bool true]) ∧ Mod (fun _ => False) V w') := fun V hV => by
    have := victim_ok V (awV w.heap.size) hV (show 4 ≤ 1000 by decide) (show 2 ≤ 1000 by decide)
    rw [show (awV w.heap.size).t = awC from rfl, F6, F7] at this
    exact this
  have HC : Hid (∀ V, TBx V (w.heap.size + 1) (awV w.heap.size) → V.cell? ⟨w.heap.size + 1, 0, none⟩ = some (.slice (some ⟨w.heap.size + 1 + 1, 0, none⟩) 4 4) ∧ V.cell? ⟨w.heap.size + 1, 1, none⟩ = some (.slice (some ⟨w.heap.size, 0, none⟩) 2 2) ∧ V.cell? ⟨w.heap.size + 1, 2, none⟩ = some (.int .i64 4) ∧ V.cell? ⟨w.heap.size + 1, 3, none⟩ = some (.int .i64 10)) := fun V hV => hV.cells
  obtain ⟨c0, c1, c2, c3⟩ := HC.out _ r1
  clear r0 r1 r2 hat hm1 F0 F1 F2 F3 F4 F5 F6 F7
  go_enter Try.func14, Try.ntmps14
  go_wp2_with fail
  clear hv1 c0 c1 c2 c3
  refine (G0.out _ HA1.out).mono ?_
  rintro e v2 ⟨rfl, hm⟩
  have HB2 := Lib.hid (HB1.out.keep hm)
  have HA2 := Lib.hid (HA1.out.keep hm)
  have HM2 := Lib.hid (HM1.out.trans hm (fun _ _ h => h))
  clear hm
  obtain ⟨c0, c1, c2, c3⟩ := HC.out _ HB2.out
  go_wp2_with fail
  refine (G1.out _ HA2.out).mono ?_
  rintro e v3 ⟨rfl, hm⟩
  have HB3 := Lib.hid (HB2.out.keep hm)
  have HA3 := Lib.hid (HA2.out.keep hm)
  have HM3 := Lib.hid (HM2.out.trans hm (fun _ _ h => h))
  clear hm c0 c1 c2 c3
  obtain ⟨c0, c1, c2, c3⟩ := HC.out _ HB3.out
  go_wp2_with fail
  refine (GV.out _ HA3.out).mono ?_
  rintro e v4 ⟨rfl, hm⟩
  have HM4 := Lib.hid (HM3.out.trans hm (fun _ _ h => h))
  clear hm c0 c1 c2 c3
  go_wp2
  go_ret
  exact ⟨rfl, HM4.out⟩

set_option maxRecDepth 100000 in
theorem clight_ok (w : World) (x : TV) :
    Calls Try.prog 15 #[.agg #[.slice x.P x.n x.c, .slice x.S x.m x.d, .int .i64 x.t.sl, .int .i64 x.t.nw]] w fun e w' => e = .returned (.bool (decide (x.n ≤ 40) && decide (x.m ≤ 40))) ∧ Mod (fun _ => False) w w' := by
  have HM : Hid (Mod (fun _ => False) w (w.alloc (.cells #[.slice x.P x.n x.c, .slice x.S x.m x.d, .int .i64 x.t.sl, .int .i64 x.t.nw] 27))) := (Mod.refl _ w).alloc _
  by_cases h : x.n ≤ 40
  · have hi : (x.n : Int) ≤ 40 := by omega
    by_cases h2 : x.m ≤ 40
    · have hi2 : (x.m : Int) ≤ 40 := by omega
      go_enter Try.func15, Try.ntmps15
      go_wp2
      go_ret
      exact ⟨by simp [h, h2], HM.out⟩
    · have hi2 : decide ((x.m : Int) ≤ 40) = false := by rw [decide_eq_false_iff_not]; omega
      go_enter Try.func15, Try.ntmps15
      go_wp2
      go_ret
      exact ⟨by simp [h2], HM.out⟩
  · have hi : decide ((x.n : Int) ≤ 40) = false := by rw [decide_eq_false_iff_not]; omega
    go_enter Try.func15, Try.ntmps15
    go_wp2
    go_ret
    exact ⟨by simp [h], HM.out⟩
end Go.Proofs.Ythbcgbbcoanbdaa
