/-
  What a call of the statement BytKeeps does: it answers true, and turns nothing that was there.
-/
import Derived.Test.YtllpiegdjaafnaaAwake
namespace Go.Proofs.Ytllpiegdjaafnaa
open Go Go.RowKit

theorem widthOk_eq {k : Int} (h : widthOk k = false) : (k == 1) = false ∧ (k == 2) = false ∧ (k == 4) = false := by
  simp only [widthOk, Bool.or_eq_false_iff, decide_eq_false_iff_not] at h
  simp only [beq_eq_false_iff_ne]
  exact ⟨h.1.1, h.1.2, h.2⟩

set_option maxRecDepth 100000 in
set_option maxHeartbeats 1600000 in
theorem keeps_walk (A : Option Addr) (n c : Nat) (xs : List UInt8) (k : Int) (w : World) (h : Sl w A n c xs) (hn : n ≤ 140737488355328) :
    Calls Try.prog 8 #[.slice A n c, .int .i64 k] w fun e w' => e = .returned (.bool true) ∧ Below w.heap.size w w' := by
  go_enter Try.func8, Try.ntmps8
  go_wp2_with fail
  refine (awake_ok _).mono ?_
  rintro e w1 ⟨rfl, hm1⟩
  have h1 : Sl w1 A n c xs := h.mod hm1 (fun _ _ _ => id)
  have hM1 : Mod (fun k => w.heap.size ≤ k) w w1 := hm1.mono (fun _ _ h => h.elim)
  have hs1 := hM1.size
  clear hm1
  go_wp2_with fail
  refine (newReader_ok _ _ _ _ _ h1 hn).mono ?_
  rintro e w2 ⟨rfl, hr2, hz2, hm2⟩
  have hM2 : Mod (fun k => w.heap.size ≤ k) w w2 := hM1.trans hm2 (fun _ _ h => h.elim)
  have hs2 : w.heap.size < w1.heap.size + 1 := by omega
  have hMs := hM2.size
  clear hz2 hm2 hM1
  by_cases hbig : 600 < n
  · have hb' : (600 : Int) < n := by omega
    go_wp2
    go_ret
    exact ⟨rfl, hM2.below (Nat.le_refl _) (fun _ h => by omega)⟩
  · have hb' : ¬ (600 : Int) < n := by omega
    generalize w1.heap.size + 1 = g at *
    have hcm : n ≤ maxLen := by unfold maxLen; omega
    go_wp2
    go_loopw [7] (fun i wr => ∃ (j m d : Nat) (B : Option Addr) (ys : List UInt8), i = .int .i64 j ∧ Rd wr g B m d ys ∧ j + m ≤ 600 ∧ d ≤ maxLen ∧ Mod (fun k => w.heap.size ≤ k) w wr) (fun i _ => 700 - (intOf i).toNat)
    case atStart => exact ⟨0, n, n, _, xs, rfl, hr2, by omega, hcm, hM2⟩
    case round =>
      obtain ⟨j, m, d, B, ys, rfl, hr, hjm, hd, hM⟩ := hrel
      have hMs' := hM.size
      by_cases hk : widthOk k = false
      · obtain ⟨k1, k2, k4⟩ := widthOk_ne hk
        go_wp2_with (first
          | (go_at_call 22; refine (left_ok _ _ _ _ _ _ hr).mono ?_; rintro e w' ⟨rfl, rfl⟩)
          | (go_at_call 20; refine (get_arg _ _ _ hk).mono ?_; rintro e w' ⟨rfl, rfl⟩))
        go_ret
        exact ⟨rfl, hM.below (Nat.le_refl _) (fun _ h => by omega)⟩
      · have hk' : widthOk k = true := by simpa using hk
        have hk3 := widthOk_cases hk'
        by_cases hlt : (m : Int) < k
        · have Hk' := Lib.hid hk'
          clear hk hk'
          rcases hk3 with rfl | rfl | rfl
          all_goals
            go_wp2_with (first
              | (go_at_call 22; refine (left_ok _ _ _ _ _ _ hr).mono ?_; rintro e w' ⟨rfl, rfl⟩)
              | (go_at_call 20; refine (get_short _ _ _ _ _ _ hr _ Hk'.out hlt).mono ?_; rintro e w' ⟨rfl, rfl⟩))
            go_ret
            exact ⟨rfl, hM.below (Nat.le_refl _) (fun _ h => by omega)⟩
        · go_wp2_with fail
          refine (left_ok _ _ _ _ _ _ hr).mono ?_
          rintro e w' ⟨rfl, rfl⟩
          go_wp2_with fail
          refine (get_ok _ _ _ _ _ _ hr hd _ hk' (by omega)).mono ?_
          rintro e w' ⟨rfl, B', hr', hB', hm', hz'⟩
          have hM' : Mod (fun k => w.heap.size ≤ k) w w' := hM.trans hm' (fun i _ e => by omega)
          have hkn : 1 ≤ k.toNat ∧ k.toNat ≤ m := by omega
          have hcast : ((m - k.toNat : Nat) : Int) = (m : Int) - k := by omega
          have Hcast := Lib.hid hcast
          generalize (unle (List.take k.toNat ys) : Int) = u at *
          clear hm' hz' hB' hk hcast
          go_wp2_with fail
          refine (left_ok _ _ _ _ _ _ hr').mono ?_
          rintro e w'' ⟨rfl, rfl⟩
          rw [Hcast.out]
          have hk4 : k ≤ 4 ∧ 1 ≤ k := by omega
          obtain ⟨hk4, hk5⟩ := hk4
          clear hk3
          go_wp2
          go_roundw
          case rel => exact ⟨j + 1, m - k.toNat, d - k.toNat, B', _, by go_num, hr', by omega, by omega, hM'⟩
          case measure => simp [intOf]; omega
end Go.Proofs.Ytllpiegdjaafnaa
