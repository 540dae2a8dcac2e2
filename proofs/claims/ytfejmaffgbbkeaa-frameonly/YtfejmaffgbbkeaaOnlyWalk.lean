/-
  What a call of the statement FrameOnly does: it answers true, and turns nothing that was there.
-/
import Derived.Test.YtfejmaffgbbkeaaFMath
namespace Go.Proofs.Ytfejmaffgbbkeaa
open Go Go.RowKit

set_option maxRecDepth 100000 in
set_option maxHeartbeats 1600000 in
theorem only_walk (A : Option Addr) (n c : Nat) (xs : List UInt8) (w : World) (h : Sl w A n c xs) :
    Calls Try.prog 8 #[.slice A n c] w fun e w' => e = .returned (.bool true) ∧ Below w.heap.size w w' := by
  go_enter Try.func8, Try.ntmps8
  go_wp2_with fail
  refine (awake_ok _).mono ?_
  rintro e w1 ⟨rfl, hm1⟩
  have h1 : Sl w1 A n c xs := h.mod hm1 (fun _ _ _ => id)
  clear h
  by_cases hbig : 600 < n
  · have hb' : decide ((600 : Int) < n) = true := by simp; omega
    go_wp2
    go_ret
    exact ⟨rfl, hm1.below (Nat.le_refl _) (fun _ _ => id)⟩
  have hb' : decide ((600 : Int) < n) = false := by simp; omega
  have Hn : Hid (n ≤ 600) := by show _ ≤ _; omega
  clear hbig
  by_cases h256 : n = 256
  · subst h256
    by_cases heq : xs.take 4 = xs.drop 252
    · have Heq := Lib.hid heq
      have HL := Lib.hid h1.len
      clear heq
      go_wp2_with fail
      refine (open_ok _ _ _ _ h1 Heq.out).mono ?_
      rintro e w2 ⟨g, rfl, hr⟩
      have h2 : Sl w2 A 256 c xs := h1.mod hr.2.2 (fun _ _ _ => id)
      have hr2 := hr.sl (room_len HL.out)
      have hM2 := hm1.trans hr.2.2 (fun _ _ h => h)
      clear h1 hm1 hr
      have hu : unle (xs.take 4) < 4294967296 := unle_len4 _ (by rw [List.length_take, HL.out]; rfl)
      have Hs := Lib.hid (sec_only xs HL.out Heq.out)
      generalize unle (xs.take 4) = u at *
      generalize (xs.drop 4).take 248 = R at *
      go_wp2_with fail
      refine (seal_ok _ _ _ _ _ _ hr2 (by omega) (by omega) (by omega)).mono ?_
      rintro e w3 ⟨g3, rfl, hs3⟩
      have h3 : Sl w3 A 256 c xs := h2.mod hs3.2.2 (fun _ _ _ => id)
      have hM3 := hM2.trans hs3.2.2 (fun _ _ h => h)
      rw [Hs.out] at hs3
      have s3 := hs3.sl HL.out
      clear h2 hr2 hM2 hs3
      go_wp2_with fail
      refine (same_ok _ _ _ _ _ _ _ _ _ h3 s3 (by omega) (by omega)).mono ?_
      rintro e w4 ⟨rfl, q, rfl⟩
      rw [eqB_self]
      have hM4 := hM3.drewN q
      clear h3 s3 hM3
      go_wp2
      go_ret
      exact ⟨rfl, hM4.below (Nat.le_refl _) (fun _ _ => id)⟩
    · have Heq := Lib.hid heq
      clear heq
      go_wp2_with fail
      refine (open_torn _ _ _ _ h1 Heq.out).mono ?_
      rintro e w2 ⟨rfl, hm2⟩
      have hM2 := hm1.trans hm2 (fun _ _ h => h)
      clear h1 hm1 hm2
      go_wp2
      go_ret
      exact ⟨rfl, hM2.below (Nat.le_refl _) (fun _ _ => id)⟩
  · have hne : ((n : Int) == 256) = false := by simp; omega
    go_wp2_with fail
    refine (open_arg _ _ _ _ h256).mono ?_
    rintro e w2 ⟨rfl, rfl⟩
    clear h1 h256
    go_wp2
    go_ret
    exact ⟨rfl, hm1.below (Nat.le_refl _) (fun _ _ => id)⟩
end Go.Proofs.Ytfejmaffgbbkeaa
