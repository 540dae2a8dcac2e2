/-
  What a call of the statement FrameOpens does: it answers true, and turns nothing that was there.
-/
import Derived.Test.YtfejmaffgbbkeaaRefOpen
namespace Go.Proofs.Ytfejmaffgbbkeaa
open Go Go.RowKit

set_option maxRecDepth 100000 in
set_option maxHeartbeats 1600000 in
theorem opens_walk (A B : Option Addr) (n c m d : Nat) (xs ys : List UInt8) (k : Int) (w : World) (h : Sl w A n c xs) (hy : Sl w B m d ys) (hc : c ≤ maxLen) (hn : n ≤ 140737488355328) (hm : m ≤ 140737488355328) :
    Calls Try.prog 4 #[.slice A n c, .slice B m d, .int .i64 k] w fun e w' => e = .returned (.bool true) ∧ Below w.heap.size w w' := by
  go_enter Try.func4, Try.ntmps4
  go_wp2_with fail
  refine (awake_ok _).mono ?_
  rintro e w1 ⟨rfl, hm1⟩
  have h1 : Sl w1 A n c xs := h.mod hm1 (fun _ _ _ => id)
  have y1 : Sl w1 B m d ys := hy.mod hm1 (fun _ _ _ => id)
  have Hc := Lib.hid hc
  clear h hy hc
  by_cases hbig : 2000 < n
  · have hb' : decide ((2000 : Int) < n) = true := by simp; omega
    go_wp2
    go_ret
    exact ⟨rfl, hm1.below (Nat.le_refl _) (fun _ _ => id)⟩
  by_cases hbig2 : 2000 < m
  · have hb' : decide ((2000 : Int) < n) = false := by simp; omega
    have hb2 : decide ((2000 : Int) < m) = true := by simp; omega
    go_wp2
    go_ret
    exact ⟨rfl, hm1.below (Nat.le_refl _) (fun _ _ => id)⟩
  · have hb' : decide ((2000 : Int) < n) = false := by simp; omega
    have hb2 : decide ((2000 : Int) < m) = false := by simp; omega
    clear hbig hbig2 hn hm
    go_wp2_with fail
    refine (open_any _ _ _ _ _ h1).mono ?_
    rintro e w2 ⟨A2, k2, c2, rfl, hk2, hs2, hm2⟩
    have h2 : Sl w2 A n c xs := h1.mod hm2 (fun _ _ _ => id)
    have y2 : Sl w2 B m d ys := y1.mod hm2 (fun _ _ _ => id)
    have hM2 := hm1.trans hm2 (fun _ _ h => h)
    clear h1 y1 hm1 hm2
    go_wp2_with fail
    refine (refOpen_any _ _ _ _ _ h2 Hc.out).mono ?_
    rintro e w3 ⟨A3, k3, c3, rfl, hk3, hs3, hm3⟩
    have h3 : Sl w3 A n c xs := h2.mod hm3 (fun _ _ _ => id)
    have y3 : Sl w3 B m d ys := y2.mod hm3 (fun _ _ _ => id)
    have s3 := hs2.mod hm3 (fun _ _ _ => id)
    have hM3 := hM2.trans hm3 (fun _ _ h => h)
    clear h2 y2 hM2 hm3 hs2
    go_wp2_with fail
    refine (part_any _ _ _ _ _ _ _ k _ _ h3 y3).mono ?_
    rintro e w4 ⟨A4, k4, c4, rfl, hk4, hs4, hm4⟩
    have h4 : Sl w4 A n c xs := h3.mod hm4 (fun _ _ _ => id)
    have y4 : Sl w4 B m d ys := y3.mod hm4 (fun _ _ _ => id)
    have s4 := s3.mod hm4 (fun _ _ _ => id)
    have t4 := hs3.mod hm4 (fun _ _ _ => id)
    have hM4 := hM3.trans hm4 (fun _ _ h => h)
    clear h3 y3 s3 hs3 hM3 hm4
    go_wp2_with fail
    refine (refPart_any _ _ _ _ _ _ _ k _ _ h4 y4).mono ?_
    rintro e w5 ⟨A5, k5, c5, rfl, hk5, hs5, hm5⟩
    have s5 := s4.mod hm5 (fun _ _ _ => id)
    have t5 := t4.mod hm5 (fun _ _ _ => id)
    have u5 := hs4.mod hm5 (fun _ _ _ => id)
    have hM5 := hM4.trans hm5 (fun _ _ h => h)
    clear h4 y4 s4 t4 hs4 hM4 hm5
    go_wp2_with fail
    refine (same_ok _ _ _ _ _ _ _ _ _ s5 t5 (by omega) (by omega)).mono ?_
    rintro e w6 ⟨rfl, q, rfl⟩
    rw [eqB_self]
    have hM6 := hM5.drewN q
    have u6 := u5.drewN q
    have v6 := hs5.drewN q
    generalize w5.drewN q = w6 at *
    clear s5 t5 u5 hs5 hM5
    go_wp2_with fail
    refine (same_ok _ _ _ _ _ _ _ _ _ u6 v6 (by omega) (by omega)).mono ?_
    rintro e w7 ⟨rfl, q, rfl⟩
    rw [eqB_self]
    have hM7 := hM6.drewN q
    clear u6 v6 hM6
    go_wp2
    go_ret
    exact ⟨rfl, hM7.below (Nat.le_refl _) (fun _ _ => id)⟩
end Go.Proofs.Ytfejmaffgbbkeaa
