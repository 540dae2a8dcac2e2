/-
  What a call of the statement FrameTorn does: it answers true, and turns nothing that was there.
-/
import Derived.Test.YtfejmaffgbbkeaaFMath
namespace Go.Proofs.Ytfejmaffgbbkeaa
open Go Go.RowKit

theorem part_okI (w : World) (A B : Option Addr) (c d : Nat) (xs ys : List UInt8) (hx : Sl w A 256 c xs) (hy : Sl w B 256 d ys) (k : Int) (h0 : 0 ≤ k) (hk : k ≤ 256) :
    Calls Try.prog 16 #[.slice A 256 c, .slice B 256 d, .int .i64 k] w fun e w' => ∃ g, e = .returned (.tuple #[.slice (some ⟨g, 0, none⟩) 256 256, .int .i64 0]) ∧ Sec w w' g (partOf xs ys k.toNat) := by
  obtain ⟨j, rfl⟩ := Int.eq_ofNat_of_zero_le h0
  exact part_ok w A B c d xs ys hx hy j (by omega)

set_option maxRecDepth 100000 in
set_option maxHeartbeats 3200000 in
theorem torn_walk (a : Int) (A : Option Addr) (m c' : Nat) (xs : List UInt8) (c : Int) (B : Option Addr) (n d' : Nat) (ys : List UInt8) (k : Int) (w : World) (h : Sl w A m c' xs) (hy : Sl w B n d' ys) :
    Calls Try.prog 6 #[.int .i64 a, .slice A m c', .int .i64 c, .slice B n d', .int .i64 k] w fun e w' => e = .returned (.bool true) ∧ Below w.heap.size w w' := by
  go_enter Try.func6, Try.ntmps6
  go_wp2_with fail
  refine (awake_ok _).mono ?_
  rintro e w1 ⟨rfl, hm1⟩
  have h1 : Sl w1 A m c' xs := h.mod hm1 (fun _ _ _ => id)
  have y1 : Sl w1 B n d' ys := hy.mod hm1 (fun _ _ _ => id)
  clear h hy
  by_cases c1 : 248 < m
  · have dc1 : decide ((248 : Int) < m) = true := by simp; omega
    go_wp2
    go_ret
    exact ⟨rfl, hm1.below (Nat.le_refl _) (fun _ _ => id)⟩
  have dc1 : decide ((248 : Int) < m) = false := by simp; omega
  by_cases c2 : 248 < n
  · have dc2 : decide ((248 : Int) < n) = true := by simp; omega
    go_wp2
    go_ret
    exact ⟨rfl, hm1.below (Nat.le_refl _) (fun _ _ => id)⟩
  have dc2 : decide ((248 : Int) < n) = false := by simp; omega
  by_cases c3 : a < 0
  · have dc3 : decide (a < 0) = true := by simp; omega
    go_wp2
    go_ret
    exact ⟨rfl, hm1.below (Nat.le_refl _) (fun _ _ => id)⟩
  have dc3 : decide (a < 0) = false := by simp; omega
  by_cases c4 : c < 0
  · have dc4 : decide (c < 0) = true := by simp; omega
    go_wp2
    go_ret
    exact ⟨rfl, hm1.below (Nat.le_refl _) (fun _ _ => id)⟩
  have dc4 : decide (c < 0) = false := by simp; omega
  by_cases c5 : 4294967295 < a
  · have dc5 : decide (4294967295 < a) = true := by simp; omega
    go_wp2
    go_ret
    exact ⟨rfl, hm1.below (Nat.le_refl _) (fun _ _ => id)⟩
  have dc5 : decide (4294967295 < a) = false := by simp; omega
  by_cases c6 : 4294967295 < c
  · have dc6 : decide (4294967295 < c) = true := by simp; omega
    go_wp2
    go_ret
    exact ⟨rfl, hm1.below (Nat.le_refl _) (fun _ _ => id)⟩
  have dc6 : decide (4294967295 < c) = false := by simp; omega
  by_cases c7 : a = c
  · have dc7 : (a == c) = true := by simp; omega
    go_wp2
    go_ret
    exact ⟨rfl, hm1.below (Nat.le_refl _) (fun _ _ => id)⟩
  have dc7 : (a == c) = false := by simp; omega
  by_cases c8 : k < 0
  · have dc8 : decide (k < 0) = true := by simp; omega
    go_wp2
    go_ret
    exact ⟨rfl, hm1.below (Nat.le_refl _) (fun _ _ => id)⟩
  have dc8 : decide (k < 0) = false := by simp; omega
  by_cases c9 : 256 < k
  · have dc9 : decide (256 < k) = true := by simp; omega
    go_wp2
    go_ret
    exact ⟨rfl, hm1.below (Nat.le_refl _) (fun _ _ => id)⟩
  have dc9 : decide (256 < k) = false := by simp; omega
  have a0 : 0 ≤ a := by omega
  have b0 : 0 ≤ c := by omega
  have a1 : a ≤ 4294967295 := by omega
  have b1 : c ≤ 4294967295 := by omega
  have hm : m ≤ 248 := by omega
  have hn : n ≤ 248 := by omega
  have k0 : 0 ≤ k := by omega
  have k1 : k ≤ 256 := by omega
  have Hne := Lib.hid c7
  have HX := Lib.hid h1.len
  have HY := Lib.hid y1.len
  clear c1 c2 c3 c4 c5 c6 c7 c8 c9
  have hlx : xs.length ≤ 248 := by rw [HX.out]; exact hm
  have hly : ys.length ≤ 248 := by rw [HY.out]; exact hn
  go_wp2_with fail
  refine (seal_ok _ a _ _ _ _ h1 a0 a1 hm).mono ?_
  rintro e w2 ⟨g2, rfl, hs2⟩
  have y2 : Sl w2 B n d' ys := y1.mod hs2.2.2 (fun _ _ _ => id)
  have o2 := hs2.sl (secOf_len a xs hlx)
  have hM2 := hm1.trans hs2.2.2 (fun _ _ h => h)
  clear h1 y1 hm1 hs2
  go_wp2_with fail
  refine (seal_ok _ c _ _ _ _ y2 b0 b1 hn).mono ?_
  rintro e w3 ⟨g3, rfl, hs3⟩
  have o3 := o2.mod hs3.2.2 (fun _ _ _ => id)
  have n3 := hs3.sl (secOf_len c ys hly)
  have hM3 := hM2.trans hs3.2.2 (fun _ _ h => h)
  clear y2 o2 hM2 hs3
  go_wp2_with fail
  refine (part_okI _ _ _ _ _ _ _ o3 n3 k k0 k1).mono ?_
  rintro e w4 ⟨g4, rfl, hs4⟩
  have o4 := o3.mod hs4.2.2 (fun _ _ _ => id)
  have n4 := n3.mod hs4.2.2 (fun _ _ _ => id)
  have HPl := Lib.hid (partOf_len _ _ k.toNat o3.len n3.len (by omega))
  have p4 := hs4.sl HPl.out
  have hM4 := hM3.trans hs4.2.2 (fun _ _ h => h)
  clear o3 n3 hM3 hs4
  have Htorn := Lib.hid (torn_or a c xs ys k.toNat hlx hly (by omega) (fun e => Hne.out (le4_inj a0 a1 b0 b1 e)))
  have Hta := Lib.hid (sec_take a xs)
  have Htc := Lib.hid (sec_take c ys)
  have Hua := Lib.hid (unle_le4 a a0 a1)
  have Huc := Lib.hid (unle_le4 c b0 b1)
  generalize partOf (secOf a xs) (secOf c ys) k.toNat = P at *
  generalize secOf a xs = O at *
  generalize secOf c ys = N at *
  by_cases hp : P.take 4 = P.drop 252
  · have Hor := Lib.hid (Htorn.out hp)
    have Hp := Lib.hid hp
    clear Htorn hp
    go_wp2_with fail
    refine (open_ok _ _ _ _ p4 Hp.out).mono ?_
    rintro e w5 ⟨g5, rfl, hr⟩
    have o5 := o4.mod hr.2.2 (fun _ _ _ => id)
    have n5 := n4.mod hr.2.2 (fun _ _ _ => id)
    have p5 := p4.mod hr.2.2 (fun _ _ _ => id)
    have hM5 := hM4.trans hr.2.2 (fun _ _ h => h)
    clear o4 n4 p4 hM4 hr
    go_wp2_with fail
    refine (same_ok _ _ _ _ _ _ _ _ _ p5 o5 (by omega) (by omega)).mono ?_
    rintro e w6 ⟨rfl, q, rfl⟩
    have hM6 := hM5.drewN q
    have p6 := p5.drewN q
    have n6 := n5.drewN q
    generalize w5.drewN q = w6 at *
    clear hM5 p5 n5 o5
    go_wp2_with fail
    refine (same_ok _ _ _ _ _ _ _ _ _ p6 n6 (by omega) (by omega)).mono ?_
    rintro e w7 ⟨rfl, q, rfl⟩
    have hM7 := hM6.drewN q
    generalize w6.drewN q = w7 at *
    clear hM6 p6 n6
    rcases Hor.out with hO | hN
    · have hst : (unle (P.take 4) : Int) = a := by rw [hO, Hta.out, Hua.out]
      have hq : eqB P O = true := by rw [hO]; exact eqB_self _
      rw [hst, hq]
      clear hst hq hO Hor
      go_wp2
      go_ret
      exact ⟨rfl, hM7.below (Nat.le_refl _) (fun _ _ => id)⟩
    · have hst : (unle (P.take 4) : Int) = c := by rw [hN, Htc.out, Huc.out]
      have hq : eqB P N = true := by rw [hN]; exact eqB_self _
      have hca : (c == a) = false := by have := Hne.out; simp; omega
      rw [hst, hq]
      generalize eqB P O = v at *
      clear hst hq hN Hor
      cases v
      · go_wp2
        go_ret
        exact ⟨rfl, hM7.below (Nat.le_refl _) (fun _ _ => id)⟩
      · go_wp2
        go_ret
        exact ⟨rfl, hM7.below (Nat.le_refl _) (fun _ _ => id)⟩
  · have Hp := Lib.hid hp
    clear Htorn hp
    go_wp2_with fail
    refine (open_torn _ _ _ _ p4 Hp.out).mono ?_
    rintro e w5 ⟨rfl, hm5⟩
    have hM5 := hM4.trans hm5 (fun _ _ h => h)
    clear o4 n4 p4 hM4 hm5
    go_wp2
    go_ret
    exact ⟨rfl, hM5.below (Nat.le_refl _) (fun _ _ => id)⟩
end Go.Proofs.Ytfejmaffgbbkeaa
