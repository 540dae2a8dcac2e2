/-
  MasterWrites: any master is written as, or has the error, that the document says, and is durable.
-/
import Derived.Test.YtkigpicjhklioaaQMl
import Derived.Test.YtkigpicjhklioaaQRs
namespace Go.Proofs.Ytkigpicjhklioaa
open Go Go.RowKit

theorem crash_fresh (D : List (List UInt8)) (f : Nat → Nat) : (Dk.fresh D).crash f = Dk.fresh D := rfl
theorem rep_set (n : Nat) (i : Nat) (hi : i < n) (ys : List UInt8) : ((List.replicate n (fill 0)).set i ys).getD i [] = ys := by
  rw [List.getD_eq_getElem?_getD, List.getElem?_set_self (by simpa using hi)]
  rfl

set_option maxRecDepth 100000 in
set_option maxHeartbeats 1600000 in
theorem writes_walk (n : Int) (m : Ms) (W : World) :
    Calls Try.prog 3 #[.int .i64 n, .agg #[.int .i64 m.no, .int .i64 m.ep, .int .i64 m.st, .int .i64 m.ck]] W fun e w' => e = .returned (.bool true) ∧ Below W.heap.size W w' := by
  have hm2 : Mod (fun _ => False) W (W.alloc (.cells #[.int .i64 m.no, .int .i64 m.ep, .int .i64 m.st, .int .i64 m.ck] 23)) := (Mod.refl _ W).alloc _
  have Hb2 := Lib.hid (InB.new W m)
  have Hm2 := Lib.hid hm2
  clear hm2
  go_enter Try.func3, Try.ntmps3
  go_wp2_with fail
  refine (awake_ok _).mono ?_
  rintro e w3 ⟨rfl, hm3⟩
  have M3 := Lib.hid (Hm2.out.trans hm3 (fun _ _ h => h))
  have H3 := Lib.hid (Hb2.out.keep hm3)
  generalize hz : W.heap.size = z at *
  have Hz := Lib.hid hz
  clear hz hm3 Hb2 Hm2
  by_cases hn0 : 0 ≤ n
  rotate_left
  · have hd : decide (n < 0) = true := by rw [decide_eq_true_eq]; omega
    clear hn0
    go_wp2
    go_ret
    exact ⟨rfl, M3.out.below (Nat.le_refl _) (fun _ _ => id)⟩
  by_cases hn1 : n ≤ 5
  rotate_left
  · go_wp2
    go_ret
    exact ⟨rfl, M3.out.below (Nat.le_refl _) (fun _ _ => id)⟩
  obtain ⟨y, hy⟩ : ∃ y, mayM m = y := ⟨_, rfl⟩
  have Hy := Lib.hid hy
  clear hy
  by_cases hnz : n = 0
  · subst hnz
    obtain ⟨b0, b1, b2, b3⟩ := H3.out.bm
    go_wp2_with fail
    refine (mwrite_nil w3 m).mono ?_
    rintro e w4 ⟨rfl, hm4⟩
    have H4 := Lib.hid (H3.out.keep hm4)
    have M4 := Lib.hid (M3.out.trans hm4 (fun _ _ h => h))
    clear b0 b1 b2 b3 hm4
    have Hrm := Lib.hid (refMay_ok w4 m)
    obtain ⟨b0, b1, b2, b3⟩ := H4.out.bm
    rw [Hy.out] at Hrm
    go_wp2_with fail
    refine Hrm.out.mono ?_
    rintro e w5 ⟨rfl, hm5⟩
    have H5 := Lib.hid (H4.out.keep hm5)
    have M5 := Lib.hid (M4.out.trans hm5 (fun _ _ h => h))
    have Hpm := Lib.hid (may_ok w5 m)
    rw [Hy.out] at Hpm
    clear b0 b1 b2 b3 hm5 Hrm
    obtain ⟨b0, b1, b2, b3⟩ := H5.out.bm
    go_wp2_with fail
    refine Hpm.out.mono ?_
    rintro e w6 ⟨rfl, hm6⟩
    have H6 := Lib.hid (H5.out.keep hm6)
    have M6 := Lib.hid (M5.out.trans hm6 (fun _ _ h => h))
    clear b0 b1 b2 b3 hm6 Hpm
    rcases y with _ | _
    · go_wp2_with fail
      refine (nil_waits w6).mono ?_
      rintro e wz ⟨rfl, hwz⟩
      subst hwz
      go_wp2
      go_ret
      exact ⟨rfl, M6.out.below (Nat.le_refl _) (fun _ _ => id)⟩
    · go_wp2_with fail
      refine (nil_waits w6).mono ?_
      rintro e wz ⟨rfl, hwz⟩
      subst hwz
      go_wp2
      go_ret
      exact ⟨rfl, M6.out.below (Nat.le_refl _) (fun _ _ => id)⟩
  have hpos : 1 ≤ n := by omega
  have hgt : decide (0 < n) = true := by rw [decide_eq_true_eq]; omega
  clear hnz
  have Hnew := Lib.hid (lm_new w3 w3 (Mod.refl _ w3) n hpos (by omega))
  go_wp2_with fail
  refine Hnew.out.mono ?_
  rintro e w4 ⟨x, rfl, hd4, hm4⟩
  have H4 := Lib.hid (H3.out.keep hm4)
  have M4 := Lib.hid (M3.out.trans hm4 (fun _ _ h => h))
  have Hd4 := Lib.hid hd4
  clear hm4 hd4 Hnew
  obtain ⟨b0, b1, b2, b3⟩ := H4.out.bm
  have hlen : (List.replicate n.toNat (fill 0)).length = n.toNat := List.length_replicate
  by_cases hyes : y = true ∧ 2 ≤ n
  rotate_left
  · have Hno := Lib.hid (mwrite_no w3 w4 x _ Hd4.out m (fun h => hyes ⟨by rw [← Hy.out]; exact h.1, by have h2 : 2 ≤ (List.replicate n.toNat (fill 0)).length := h.2; rw [hlen] at h2; omega⟩))
    have Hyes := Lib.hid hyes
    clear hyes hlen
    go_wp2_with fail
    refine Hno.out.mono ?_
    rintro e w5 ⟨rfl, hm5⟩
    have T5 := Lib.hid hm5
    have H5 := Lib.hid (H4.out.keep hm5)
    have M5 := Lib.hid (M4.out.trans hm5 (fun _ _ h => h))
    have Hd : Hid (∀ U, Mod (fun _ => False) w4 U → Dev w3 U x (Dk.fresh (List.replicate n.toNat (fill 0)))) := fun U hU => Hd4.out.keep hU
    clear b0 b1 b2 b3 hm5 Hno
    have Hrm := Lib.hid (refMay_ok w5 m)
    obtain ⟨b0, b1, b2, b3⟩ := H5.out.bm
    rw [Hy.out] at Hrm
    go_wp2_with fail
    refine Hrm.out.mono ?_
    rintro e w6 ⟨rfl, hm6⟩
    have T6 := Lib.hid (T5.out.trans hm6 (fun _ _ h => h))
    have H6 := Lib.hid (H5.out.keep hm6)
    have M6 := Lib.hid (M5.out.trans hm6 (fun _ _ h => h))
    have Hpm := Lib.hid (may_ok w6 m)
    rw [Hy.out] at Hpm
    clear b0 b1 b2 b3 hm6 Hrm
    obtain ⟨b0, b1, b2, b3⟩ := H6.out.bm
    go_wp2_with fail
    refine Hpm.out.mono ?_
    rintro e w7 ⟨rfl, hm7⟩
    have T7 := Lib.hid (T6.out.trans hm7 (fun _ _ h => h))
    have H7 := Lib.hid (H6.out.keep hm7)
    have M7 := Lib.hid (M6.out.trans hm7 (fun _ _ h => h))
    clear b0 b1 b2 b3 hm7 Hpm
    rcases y with _ | _
    · have Hwt := Lib.hid (dev_waits w3 w7 x _ (Hd.out w7 T7.out))
      go_wp2_with fail
      refine Hwt.out.mono ?_
      rintro e wz ⟨rfl, hwz⟩
      subst hwz
      have hz0 : (((Dk.fresh (List.replicate n.toNat (fill 0))).pend.length : Nat) : Int) = 0 := rfl
      rw [hz0]
      go_wp2
      go_ret
      exact ⟨rfl, M7.out.below (Nat.le_refl _) (fun _ _ => id)⟩
    · have hlt : decide (n < 2) = true := by
        rw [decide_eq_true_eq]
        have h2 : ¬ 2 ≤ n := fun h => Hyes.out ⟨rfl, h⟩
        omega
      have Hwt := Lib.hid (dev_waits w3 w7 x _ (Hd.out w7 T7.out))
      go_wp2_with fail
      refine Hwt.out.mono ?_
      rintro e wz ⟨rfl, hwz⟩
      subst hwz
      have hz0 : (((Dk.fresh (List.replicate n.toNat (fill 0))).pend.length : Nat) : Int) = 0 := rfl
      rw [hz0]
      go_wp2
      go_ret
      exact ⟨rfl, M7.out.below (Nat.le_refl _) (fun _ _ => id)⟩
  obtain ⟨rfl, h2n⟩ := hyes
  have hm := (mayM_iff m).1 Hy.out
  have Hm := Lib.hid hm
  have hwr := lm_write w3 w4 x _ Hd4.out (by rw [hlen]; omega) m hm
  have Hwr := Lib.hid hwr
  clear hm hwr hlen
  go_wp2_with fail
  refine Hwr.out.mono ?_
  rintro e w5 ⟨rfl, x5, hx5, hd5, hm5⟩
  have H5 := Lib.hid (H4.out.dev Hd4.out hm5)
  have M5 : Hid (Mod (fun _ => False) W w5) := M3.out.trans hd5.old (fun _ _ h => h)
  have Hd5 := Lib.hid hd5
  rw [← hx5]
  clear b0 b1 b2 b3 hm5 hd5 hx5 Hwr
  have Hrm := Lib.hid (refMay_ok w5 m)
  obtain ⟨b0, b1, b2, b3⟩ := H5.out.bm
  rw [Hy.out] at Hrm
  go_wp2_with fail
  refine Hrm.out.mono ?_
  rintro e w6 ⟨rfl, hm6⟩
  have Hd6 := Lib.hid (Hd5.out.keep hm6)
  have H6 := Lib.hid (H5.out.keep hm6)
  have M6 := Lib.hid (M5.out.trans hm6 (fun _ _ h => h))
  have Hpm := Lib.hid (may_ok w6 m)
  rw [Hy.out] at Hpm
  clear b0 b1 b2 b3 hm6 Hrm
  obtain ⟨b0, b1, b2, b3⟩ := H6.out.bm
  go_wp2_with fail
  refine Hpm.out.mono ?_
  rintro e w7 ⟨rfl, hm7⟩
  have Hd7 := Lib.hid (Hd6.out.keep hm7)
  have H7 := Lib.hid (H6.out.keep hm7)
  have M7 := Lib.hid (M6.out.trans hm7 (fun _ _ h => h))
  clear b0 b1 b2 b3 hm7 Hpm
  have h2n' : decide (n < 2) = false := by rw [decide_eq_false_iff_not]; omega
  obtain ⟨b0, b1, b2, b3⟩ := H7.out.bm
  go_wp2_with fail
  have Hi := Lib.hid (mod2 m.no)
  have Hlen : Hid (((List.replicate n.toNat (fill 0)).set (m.no % 2).toNat (secM m)).length = n.toNat) := by show _ = _; rw [List.length_set, List.length_replicate]
  have Hrep : Hid (((List.replicate n.toNat (fill 0)).set (m.no % 2).toNat (secM m)).getD (m.no % 2).toNat [] = secM m) := rep_set _ _ (by have := Hi.out; omega) _
  generalize hD : (List.replicate n.toNat (fill 0)).set (m.no % 2).toNat (secM m) = D at *
  clear hD
  have h0m : 0 ≤ m.no := by have := Hm.out.n1; omega
  have Hdr : Hid (Mod (fun _ => False) w7 w7.drew) := (Mod.refl _ w7).drew
  have Hcr : Hid (∀ U, Mod (fun _ => False) w7 U → Calls Try.prog 15 #[.pointer (some ⟨x5.p, 0, none⟩), .agg #[.slice none 0 0, .int .i64 (-1), .int .i64 0]] U fun e w' => ∃ x', e = .returned (.pointer (some ⟨x'.p, 0, none⟩)) ∧ Dev w3 w' x' (Dk.fresh D) ∧ Mod (fun _ => False) w7 w') := by
    intro U hU
    refine (dev_crash w3 U x5 _ (Hd7.out.keep hU) (Nat.zero_le _) none 0 0 [] (-1) 0 (Bl.nil U) (by omega)).mono ?_
    rintro e w' ⟨x', rfl, hd, hm⟩
    exact ⟨x', rfl, hd, hU.trans hm (fun _ _ h => h)⟩
  have Hrd : Hid (∀ U x' (i : Int), i = m.no % 2 → Dev w3 U x' (Dk.fresh D) → Mod (fun _ => False) w7 U → Calls Try.prog 16 #[.pointer (some ⟨x'.p, 0, none⟩), .int .i64 i] U fun e w' => ∃ A c, e = .returned (.tuple #[.slice A 256 c, .int .i64 0]) ∧ Sl w' A 256 c (secM m) ∧ Mod (fun _ => False) w7 w') := by
    intro U x' i hi hd hU
    subst hi
    have hl : 2 ≤ D.length := by rw [Hlen.out]; omega
    refine (dev_read w3 U x' _ hd (m.no % 2)).mono ?_
    rintro e w' ⟨A, k, c, rfl, hf⟩
    rw [fresh_read hl _ Hi.out.1 Hi.out.2, Hrep.out] at hf
    have hs := hf.sl
    have hk : k = 256 := by rw [← hs.len, secM_len]
    subst hk
    exact ⟨A, c, by rw [fresh_reach hl _ Hi.out.1 Hi.out.2], hs, hU.trans hf.2 (fun _ _ h => h)⟩
  have Hc : Hid (∀ U, Mod (fun _ => False) w7 U → U.cell? ⟨z, 0, none⟩ = some (.int .i64 m.no)) := fun U hU => (H7.out.keep hU).bm.b0
  clear b1 b2 b3
  go_region_held3 (fun U => U.cell? ⟨z, 0, none⟩ = some (.int .i64 m.no)) (first | exact b0 | exact Hc.out _ hm8 | exact Hc.out _ hm9) (first | (go_at_call 15; refine (Hcr.out _ Hdr.out).mono ?_; rintro e w8 ⟨x8, rfl, hd8, hm8⟩) | (go_at_call 16; refine (Hrd.out _ _ _ (Int.tmod_eq_emod_of_nonneg h0m) hd8 hm8).mono ?_; rintro e w9 ⟨A9, c9, rfl, hs9, hm9⟩))
  have H9 := Lib.hid (H7.out.keep hm9)
  have M9 := Lib.hid (M7.out.trans hm9 (fun _ _ h => h))
  have Hs9 := Lib.hid hs9
  have Hse := Lib.hid (refSector_ok w9 m Hm.out)
  clear b0 hd8 hm8 hm9 hs9 Hcr Hrd Hc
  obtain ⟨b0, b1, b2, b3⟩ := H9.out.bm
  go_wp2_with fail
  refine Hse.out.mono ?_
  rintro e wA ⟨AA, cA, rfl, hG⟩
  have Hsm := Lib.hid (same_ok wA _ _ _ _ _ _ _ _ (Hs9.out.mod hG.2 (fun _ _ _ => id)) hG.1 (by omega) (by omega))
  have MA := Lib.hid (M9.out.trans hG.2 (fun _ _ h => h))
  rw [eqB_self] at Hsm
  clear b0 b1 b2 b3 hG Hse Hs9
  go_wp2_with fail
  refine Hsm.out.mono ?_
  rintro e wB ⟨rfl, q, hwB⟩
  have MB : Hid (Mod (fun _ => False) W wB) := by show Mod _ _ _; rw [hwB]; exact MA.out.drewN q
  clear hwB Hsm
  go_wp2
  go_ret
  exact ⟨rfl, MB.out.below (Nat.le_refl _) (fun _ _ => id)⟩
end Go.Proofs.Ytkigpicjhklioaa
