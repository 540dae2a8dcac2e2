/-
  What a call of the statement FrameBack does: it answers true, and turns nothing that was there.
-/
import Derived.Test.YtfejmaffgbbkeaaFMath
namespace Go.Proofs.Ytfejmaffgbbkeaa
open Go Go.RowKit

theorem pad_at (xs : List UInt8) (m j : Nat) (hm : xs.length = m) (hj : j < 248) : (xs ++ zeros (248 - m)).getD j 0 = if j < m then xs.getD j 0 else 0 := by
  by_cases h : j < m
  · rw [if_pos h, List.getD_eq_getElem?_getD, List.getElem?_append_left (by omega), List.getD_eq_getElem?_getD]
  · rw [if_neg h, List.getD_eq_getElem?_getD, List.getElem?_append_right (by omega)]
    rw [zeros, List.getElem?_replicate, if_pos (by omega)]
    rfl

set_option maxRecDepth 100000 in
set_option maxHeartbeats 3200000 in
theorem back_walk (a : Int) (A : Option Addr) (m c : Nat) (xs : List UInt8) (w : World) (h : Sl w A m c xs) :
    Calls Try.prog 5 #[.int .i64 a, .slice A m c] w fun e w' => e = .returned (.bool true) ∧ Below w.heap.size w w' := by
  go_enter Try.func5, Try.ntmps5
  go_wp2_with fail
  refine (awake_ok _).mono ?_
  rintro e w1 ⟨rfl, hm1⟩
  have h1 : Sl w1 A m c xs := h.mod hm1 (fun _ _ _ => id)
  clear h
  by_cases c1 : 248 < m
  · have dc1 : decide ((248 : Int) < m) = true := by simp; omega
    go_wp2
    go_ret
    exact ⟨rfl, hm1.below (Nat.le_refl _) (fun _ _ => id)⟩
  have dc1 : decide ((248 : Int) < m) = false := by simp; omega
  by_cases c2 : a < 0
  · have dc2 : decide (a < 0) = true := by simp; omega
    go_wp2
    go_ret
    exact ⟨rfl, hm1.below (Nat.le_refl _) (fun _ _ => id)⟩
  have dc2 : decide (a < 0) = false := by simp; omega
  by_cases c3 : 4294967295 < a
  · have dc3 : decide (4294967295 < a) = true := by simp; omega
    go_wp2
    go_ret
    exact ⟨rfl, hm1.below (Nat.le_refl _) (fun _ _ => id)⟩
  have dc3 : decide (4294967295 < a) = false := by simp; omega
  have a0 : 0 ≤ a := by omega
  have a1 : a ≤ 4294967295 := by omega
  have hm : m ≤ 248 := by omega
  have HL := Lib.hid h1.len
  clear c1 c2 c3
  have hlx : xs.length ≤ 248 := by rw [HL.out]; exact hm
  go_wp2_with fail
  refine (seal_ok _ a _ _ _ _ h1 a0 a1 hm).mono ?_
  rintro e w2 ⟨g2, rfl, hs2⟩
  have h2 : Sl w2 A m c xs := h1.mod hs2.2.2 (fun _ _ _ => id)
  have x2 := hs2.sl (secOf_len a xs hlx)
  have hM2 := hm1.trans hs2.2.2 (fun _ _ h => h)
  clear h1 hm1 hs2
  go_wp2_with fail
  refine (open_ok _ _ _ _ x2 (by rw [sec_take, sec_drop a xs hlx])).mono ?_
  rintro e w3 ⟨g3, rfl, hr⟩
  rw [sec_take, unle_le4 a a0 a1]
  rw [sec_mid a xs hlx, HL.out] at hr
  have h3 : Sl w3 A m c xs := h2.mod hr.2.2 (fun _ _ _ => id)
  have hM3 := hM2.trans hr.2.2 (fun _ _ h => h)
  have hcell : ∀ j, j < 248 → w3.cell? ⟨g3, j, none⟩ = some (bv (if j < m then xs.getD j 0 else 0)) := by
    intro j hj
    have e := pad_at xs m j HL.out hj
    have hl : (xs ++ zeros (248 - m)).length = 248 := by simp only [List.length_append, zeros_len, HL.out]; omega
    refine at_of_block hr.2.1 j _ ?_
    rw [← e, List.getD_eq_getElem?_getD, List.getElem?_eq_getElem (by omega)]
    rfl
  have Hcell := Lib.hid hcell
  clear h2 x2 hM2 hr hcell
  go_wp2
  go_loopw [11] (fun i wr => ∃ j q : Nat, j ≤ 248 ∧ i = .int .i64 j ∧ wr = w3.drewN q) (fun i _ => 248 - (intOf i).toNat)
  case atStart => exact ⟨0, 0, by omega, rfl, rfl⟩
  case round =>
    obtain ⟨j, q, hj, rfl, rfl⟩ := hrel
    by_cases hlt : j < 248
    · have hc0 := Hcell.out j hlt
      have hlt' : (j : Int) < 248 := by omega
      by_cases hjm : j < m
      · rw [if_pos hjm] at hc0
        obtain ⟨b, o, rfl, hcx⟩ := h3.2.2 (by omega)
        have hx := hcx j hjm
        have hjm' : (j : Int) < m := by omega
        have djm : decide ((j : Int) < m) = true := by simpa using hjm
        have djg : decide (m ≤ j) = false := by simp; omega
        generalize xs.getD j 0 = z at *
        clear hcx
        go_wp2
        go_quiet (fail)
        go_wp2
        go_roundw
        case rel => exact ⟨j + 1, _, by omega, by go_num, rfl⟩
        case measure => simp [intOf]; omega
      · rw [if_neg hjm] at hc0
        have hc0 : w3.cell? ⟨g3, j, none⟩ = some (.int .u8 0) := hc0
        have djm : decide (j < m) = false := by simp; omega
        have djg : decide (m ≤ j) = true := by simp; omega
        have djm' : decide ((j : Int) < m) = false := by simp; omega
        go_wp2
        go_quiet (fail)
        go_wp2
        go_roundw
        case rel => exact ⟨j + 1, _, by omega, by go_num, rfl⟩
        case measure => simp [intOf]; omega
    · obtain rfl : j = 248 := by omega
      go_wp2
      go_ret
      exact ⟨rfl, (hM3.drewN q).below (Nat.le_refl _) (fun _ _ => id)⟩
end Go.Proofs.Ytfejmaffgbbkeaa
