/-
  What a call of the statement FrameParts does: it answers true, and turns nothing that was there.
-/
import Derived.Test.YtfejmaffgbbkeaaFMath
namespace Go.Proofs.Ytfejmaffgbbkeaa
open Go Go.RowKit

theorem part_okI (w : World) (A B : Option Addr) (c d : Nat) (xs ys : List UInt8) (hx : Sl w A 256 c xs) (hy : Sl w B 256 d ys) (k : Int) (h0 : 0 ≤ k) (hk : k ≤ 256) :
    Calls Try.prog 16 #[.slice A 256 c, .slice B 256 d, .int .i64 k] w fun e w' => ∃ g, e = .returned (.tuple #[.slice (some ⟨g, 0, none⟩) 256 256, .int .i64 0]) ∧ Sec w w' g (partOf xs ys k.toNat) := by
  obtain ⟨j, rfl⟩ := Int.eq_ofNat_of_zero_le h0
  exact part_ok w A B c d xs ys hx hy j (by omega)

set_option maxRecDepth 100000 in
set_option maxHeartbeats 3200000 in
theorem parts_a (A B : Option Addr) (c d : Nat) (xs ys : List UInt8) (a b : Int) (w : World) (h : Sl w A 256 c xs) (hy : Sl w B 256 d ys) (a0 : 0 ≤ a) (b0 : 0 ≤ b) (a1 : a ≤ 256) (b1 : b ≤ 256) (dab : decide (a < b) = false) (hmax : max a b = a) :
    Calls Try.prog 7 #[.slice A 256 c, .slice B 256 d, .int .i64 a, .int .i64 b] w fun e w' => e = .returned (.bool true) ∧ Below w.heap.size w w' := by
  have d1 : decide (a < 0) = false := by simp; omega
  have d2 : decide (b < 0) = false := by simp; omega
  have d3 : decide (256 < a) = false := by simp; omega
  have d4 : decide (256 < b) = false := by simp; omega
  have HX := Lib.hid h.len
  have HY := Lib.hid hy.len
  have Hmax := Lib.hid hmax
  clear hmax
  go_enter Try.func7, Try.ntmps7
  go_wp2_with fail
  refine (awake_ok _).mono ?_
  rintro e w1 ⟨rfl, hm1⟩
  have h1 : Sl w1 A 256 c xs := h.mod hm1 (fun _ _ _ => id)
  have y1 : Sl w1 B 256 d ys := hy.mod hm1 (fun _ _ _ => id)
  clear h hy
  go_wp2_with fail
  refine (part_okI _ _ _ _ _ _ _ h1 y1 a a0 a1).mono ?_
  rintro e w2 ⟨g2, rfl, hs2⟩
  have h2 : Sl w2 A 256 c xs := h1.mod hs2.2.2 (fun _ _ _ => id)
  have y2 : Sl w2 B 256 d ys := y1.mod hs2.2.2 (fun _ _ _ => id)
  have x2 := hs2.sl (partOf_len xs ys a.toNat HX.out HY.out (by omega))
  have hM2 := hm1.trans hs2.2.2 (fun _ _ h => h)
  clear h1 y1 hm1 hs2
  go_wp2_with fail
  refine (part_okI _ _ _ _ _ _ _ x2 y2 b b0 b1).mono ?_
  rintro e w3 ⟨g3, rfl, hs3⟩
  have h3 : Sl w3 A 256 c xs := h2.mod hs3.2.2 (fun _ _ _ => id)
  have y3 : Sl w3 B 256 d ys := y2.mod hs3.2.2 (fun _ _ _ => id)
  have x3 := hs3.sl (partOf_len _ ys b.toNat x2.len HY.out (by omega))
  have hM3 := hM2.trans hs3.2.2 (fun _ _ h => h)
  have hmm : a.toNat = max a.toNat b.toNat := by have := Hmax.out; omega
  rw [part_part xs ys a.toNat b.toNat a.toNat HX.out HY.out (by omega) (by omega) hmm] at x3
  clear h2 y2 x2 hM2 hs3 hmm
  go_wp2_with fail
  refine (part_okI _ _ _ _ _ _ _ h3 y3 a a0 a1).mono ?_
  rintro e w4 ⟨g4, rfl, hs4⟩
  have h4 : Sl w4 A 256 c xs := h3.mod hs4.2.2 (fun _ _ _ => id)
  have y4 : Sl w4 B 256 d ys := y3.mod hs4.2.2 (fun _ _ _ => id)
  have x4 := x3.mod hs4.2.2 (fun _ _ _ => id)
  have z4 := hs4.sl (partOf_len _ ys a.toNat HX.out HY.out (by omega))
  have hM4 := hM3.trans hs4.2.2 (fun _ _ h => h)
  clear h3 y3 x3 hM3 hs4
  go_wp2_with fail
  refine (part_ok _ _ _ _ _ _ _ h4 y4 0 (by omega)).mono ?_
  rintro e w5 ⟨g5, rfl, hs5⟩
  rw [part_zero] at hs5
  have h5 : Sl w5 A 256 c xs := h4.mod hs5.2.2 (fun _ _ _ => id)
  have y5 : Sl w5 B 256 d ys := y4.mod hs5.2.2 (fun _ _ _ => id)
  have x5 := x4.mod hs5.2.2 (fun _ _ _ => id)
  have z5 := z4.mod hs5.2.2 (fun _ _ _ => id)
  have n5 := hs5.sl HX.out
  have hM5 := hM4.trans hs5.2.2 (fun _ _ h => h)
  clear h4 y4 x4 z4 hM4 hs5
  go_wp2_with fail
  refine (part_ok _ _ _ _ _ _ _ h5 y5 256 (by omega)).mono ?_
  rintro e w6 ⟨g6, rfl, hs6⟩
  rw [part_all _ _ HX.out HY.out] at hs6
  have h6 : Sl w6 A 256 c xs := h5.mod hs6.2.2 (fun _ _ _ => id)
  have y6 : Sl w6 B 256 d ys := y5.mod hs6.2.2 (fun _ _ _ => id)
  have x6 := x5.mod hs6.2.2 (fun _ _ _ => id)
  have z6 := z5.mod hs6.2.2 (fun _ _ _ => id)
  have n6 := n5.mod hs6.2.2 (fun _ _ _ => id)
  have l6 := hs6.sl HY.out
  have hM6 := hM5.trans hs6.2.2 (fun _ _ h => h)
  clear h5 y5 x5 z5 n5 hM5 hs6
  go_wp2_with fail
  refine (same_ok _ _ _ _ _ _ _ _ _ x6 z6 (by omega) (by omega)).mono ?_
  rintro e w7 ⟨rfl, q, rfl⟩
  rw [eqB_self]
  have hM7 := hM6.drewN q
  have h7 := h6.drewN q
  have y7 := y6.drewN q
  have n7 := n6.drewN q
  have l7 := l6.drewN q
  generalize w6.drewN q = w7 at *
  clear h6 y6 x6 z6 n6 l6 hM6
  go_wp2_with fail
  refine (same_ok _ _ _ _ _ _ _ _ _ n7 h7 (by omega) (by omega)).mono ?_
  rintro e w8 ⟨rfl, q, rfl⟩
  rw [eqB_self]
  have hM8 := hM7.drewN q
  have y8 := y7.drewN q
  have l8 := l7.drewN q
  generalize w7.drewN q = w8 at *
  clear h7 y7 n7 l7 hM7
  go_wp2_with fail
  refine (same_ok _ _ _ _ _ _ _ _ _ l8 y8 (by omega) (by omega)).mono ?_
  rintro e w9 ⟨rfl, q, rfl⟩
  rw [eqB_self]
  have hM9 := hM8.drewN q
  clear y8 l8 hM8
  go_wp2
  go_ret
  exact ⟨rfl, hM9.below (Nat.le_refl _) (fun _ _ => id)⟩

set_option maxRecDepth 100000 in
set_option maxHeartbeats 3200000 in
theorem parts_b (A B : Option Addr) (c d : Nat) (xs ys : List UInt8) (a b : Int) (w : World) (h : Sl w A 256 c xs) (hy : Sl w B 256 d ys) (a0 : 0 ≤ a) (b0 : 0 ≤ b) (a1 : a ≤ 256) (b1 : b ≤ 256) (dab : decide (a < b) = true) (hmax : max a b = b) :
    Calls Try.prog 7 #[.slice A 256 c, .slice B 256 d, .int .i64 a, .int .i64 b] w fun e w' => e = .returned (.bool true) ∧ Below w.heap.size w w' := by
  have d1 : decide (a < 0) = false := by simp; omega
  have d2 : decide (b < 0) = false := by simp; omega
  have d3 : decide (256 < a) = false := by simp; omega
  have d4 : decide (256 < b) = false := by simp; omega
  have HX := Lib.hid h.len
  have HY := Lib.hid hy.len
  have Hmax := Lib.hid hmax
  clear hmax
  go_enter Try.func7, Try.ntmps7
  go_wp2_with fail
  refine (awake_ok _).mono ?_
  rintro e w1 ⟨rfl, hm1⟩
  have h1 : Sl w1 A 256 c xs := h.mod hm1 (fun _ _ _ => id)
  have y1 : Sl w1 B 256 d ys := hy.mod hm1 (fun _ _ _ => id)
  clear h hy
  go_wp2_with fail
  refine (part_okI _ _ _ _ _ _ _ h1 y1 a a0 a1).mono ?_
  rintro e w2 ⟨g2, rfl, hs2⟩
  have h2 : Sl w2 A 256 c xs := h1.mod hs2.2.2 (fun _ _ _ => id)
  have y2 : Sl w2 B 256 d ys := y1.mod hs2.2.2 (fun _ _ _ => id)
  have x2 := hs2.sl (partOf_len xs ys a.toNat HX.out HY.out (by omega))
  have hM2 := hm1.trans hs2.2.2 (fun _ _ h => h)
  clear h1 y1 hm1 hs2
  go_wp2_with fail
  refine (part_okI _ _ _ _ _ _ _ x2 y2 b b0 b1).mono ?_
  rintro e w3 ⟨g3, rfl, hs3⟩
  have h3 : Sl w3 A 256 c xs := h2.mod hs3.2.2 (fun _ _ _ => id)
  have y3 : Sl w3 B 256 d ys := y2.mod hs3.2.2 (fun _ _ _ => id)
  have x3 := hs3.sl (partOf_len _ ys b.toNat x2.len HY.out (by omega))
  have hM3 := hM2.trans hs3.2.2 (fun _ _ h => h)
  have hmm : b.toNat = max a.toNat b.toNat := by have := Hmax.out; omega
  rw [part_part xs ys a.toNat b.toNat b.toNat HX.out HY.out (by omega) (by omega) hmm] at x3
  clear h2 y2 x2 hM2 hs3 hmm
  go_wp2_with fail
  refine (part_okI _ _ _ _ _ _ _ h3 y3 b b0 b1).mono ?_
  rintro e w4 ⟨g4, rfl, hs4⟩
  have h4 : Sl w4 A 256 c xs := h3.mod hs4.2.2 (fun _ _ _ => id)
  have y4 : Sl w4 B 256 d ys := y3.mod hs4.2.2 (fun _ _ _ => id)
  have x4 := x3.mod hs4.2.2 (fun _ _ _ => id)
  have z4 := hs4.sl (partOf_len _ ys b.toNat HX.out HY.out (by omega))
  have hM4 := hM3.trans hs4.2.2 (fun _ _ h => h)
  clear h3 y3 x3 hM3 hs4
  go_wp2_with fail
  refine (part_ok _ _ _ _ _ _ _ h4 y4 0 (by omega)).mono ?_
  rintro e w5 ⟨g5, rfl, hs5⟩
  rw [part_zero] at hs5
  have h5 : Sl w5 A 256 c xs := h4.mod hs5.2.2 (fun _ _ _ => id)
  have y5 : Sl w5 B 256 d ys := y4.mod hs5.2.2 (fun _ _ _ => id)
  have x5 := x4.mod hs5.2.2 (fun _ _ _ => id)
  have z5 := z4.mod hs5.2.2 (fun _ _ _ => id)
  have n5 := hs5.sl HX.out
  have hM5 := hM4.trans hs5.2.2 (fun _ _ h => h)
  clear h4 y4 x4 z4 hM4 hs5
  go_wp2_with fail
  refine (part_ok _ _ _ _ _ _ _ h5 y5 256 (by omega)).mono ?_
  rintro e w6 ⟨g6, rfl, hs6⟩
  rw [part_all _ _ HX.out HY.out] at hs6
  have h6 : Sl w6 A 256 c xs := h5.mod hs6.2.2 (fun _ _ _ => id)
  have y6 : Sl w6 B 256 d ys := y5.mod hs6.2.2 (fun _ _ _ => id)
  have x6 := x5.mod hs6.2.2 (fun _ _ _ => id)
  have z6 := z5.mod hs6.2.2 (fun _ _ _ => id)
  have n6 := n5.mod hs6.2.2 (fun _ _ _ => id)
  have l6 := hs6.sl HY.out
  have hM6 := hM5.trans hs6.2.2 (fun _ _ h => h)
  clear h5 y5 x5 z5 n5 hM5 hs6
  go_wp2_with fail
  refine (same_ok _ _ _ _ _ _ _ _ _ x6 z6 (by omega) (by omega)).mono ?_
  rintro e w7 ⟨rfl, q, rfl⟩
  rw [eqB_self]
  have hM7 := hM6.drewN q
  have h7 := h6.drewN q
  have y7 := y6.drewN q
  have n7 := n6.drewN q
  have l7 := l6.drewN q
  generalize w6.drewN q = w7 at *
  clear h6 y6 x6 z6 n6 l6 hM6
  go_wp2_with fail
  refine (same_ok _ _ _ _ _ _ _ _ _ n7 h7 (by omega) (by omega)).mono ?_
  rintro e w8 ⟨rfl, q, rfl⟩
  rw [eqB_self]
  have hM8 := hM7.drewN q
  have y8 := y7.drewN q
  have l8 := l7.drewN q
  generalize w7.drewN q = w8 at *
  clear h7 y7 n7 l7 hM7
  go_wp2_with fail
  refine (same_ok _ _ _ _ _ _ _ _ _ l8 y8 (by omega) (by omega)).mono ?_
  rintro e w9 ⟨rfl, q, rfl⟩
  rw [eqB_self]
  have hM9 := hM8.drewN q
  clear y8 l8 hM8
  go_wp2
  go_ret
  exact ⟨rfl, hM9.below (Nat.le_refl _) (fun _ _ => id)⟩

set_option maxRecDepth 100000 in
set_option maxHeartbeats 1600000 in
theorem parts_not (A B : Option Addr) (n c m d : Nat) (a b : Int) (w : World) (v1 v2 v3 v4 v5 v6 : Bool) (e1 : ((n : Int) != 256) = v1) (e2 : ((m : Int) != 256) = v2) (e3 : decide (a < 0) = v3) (e4 : decide (b < 0) = v4)
    (e5 : decide (256 < a) = v5) (e6 : decide (256 < b) = v6) (h : (v1 || v2 || v3 || v4 || v5 || v6) = true) :
    Calls Try.prog 7 #[.slice A n c, .slice B m d, .int .i64 a, .int .i64 b] w fun e w' => e = .returned (.bool true) ∧ Below w.heap.size w w' := by
  go_enter Try.func7, Try.ntmps7
  go_wp2_with fail
  refine (awake_ok _).mono ?_
  rintro e w1 ⟨rfl, hm1⟩
  cases v1 <;> cases v2 <;> cases v3 <;> cases v4 <;> cases v5 <;> cases v6 <;> first | (exact absurd h (by decide)) | skip
  all_goals
    clear h
    go_wp2
    go_ret
    exact ⟨rfl, hm1.below (Nat.le_refl _) (fun _ _ => id)⟩

theorem parts_walk (A B : Option Addr) (n c m d : Nat) (xs ys : List UInt8) (a b : Int) (w : World) (h : Sl w A n c xs) (hy : Sl w B m d ys) :
    Calls Try.prog 7 #[.slice A n c, .slice B m d, .int .i64 a, .int .i64 b] w fun e w' => e = .returned (.bool true) ∧ Below w.heap.size w w' := by
  by_cases hb : n = 256 ∧ m = 256 ∧ 0 ≤ a ∧ 0 ≤ b ∧ a ≤ 256 ∧ b ≤ 256
  · obtain ⟨rfl, rfl, a0, b0, a1, b1⟩ := hb
    by_cases hab : a < b
    · exact parts_b A B c d xs ys a b w h hy a0 b0 a1 b1 (by simpa using hab) (by omega)
    · exact parts_a A B c d xs ys a b w h hy a0 b0 a1 b1 (by simpa using hab) (by omega)
  · refine parts_not A B n c m d a b w _ _ _ _ _ _ rfl rfl rfl rfl rfl rfl ?_
    simp only [Bool.or_eq_true, bne_iff_ne, decide_eq_true_eq]
    omega
end Go.Proofs.Ytfejmaffgbbkeaa
