/-
  LockDrops: what is granted and then dropped is as if it had only been dropped; of others nothing is dropped.
-/
import Derived.Test.YtpkjafadhnecfaaKAw
namespace Go.Proofs.Ytpkjafadhnecfaa
open Go Go.RowKit

set_option maxRecDepth 100000 in
set_option maxHeartbeats 6400000 in
theorem drops_walk (W : World) (A0 : Option Addr) (n c0 : Nat) (l : List Tr) (h : Tl W A0 n c0 l) (tx res mode other : Int) :
    Calls Try.prog 9 #[.slice A0 n c0, .int .i64 tx, .int .i64 res, .int .i64 mode, .int .i64 other] W fun e w' => e = .returned (.bool true) ∧ Below W.heap.size W w' := by
  by_cases hbig : 100 < n
  · have hgt : decide ((100 : Int) < (n : Int)) = true := by rw [decide_eq_true_eq]; omega
    clear hbig
    go_enter Try.func9, Try.ntmps9
    go_wp2_with fail
    refine (awake_ok _).mono ?_
    rintro e w1 ⟨rfl, hm1⟩
    have HM1 := Lib.hid hm1
    clear hm1
    go_wp2
    go_ret
    exact ⟨rfl, HM1.out.below (Nat.le_refl _) (fun _ _ => id)⟩
  have hn : n ≤ 1000 := by omega
  have hgt : decide ((100 : Int) < (n : Int)) = false := by rw [decide_eq_false_iff_not]; omega
  have hn100 : n ≤ 100 := by omega
  clear hbig
  have HX := Lib.hid h
  have Hll : Hid (l.length = n) := h.len
  have G := Lib.hid (fun V (hV : Tl V A0 n c0 l) => grant_ok V A0 n c0 l hV hn tx res mode)
  have DR := Lib.hid (fun V A c k (t : List Tr) (hV : Tl V A k c t) (hk : k ≤ 1000) => drop_ok V A k c t hV hk tx)
  have HO := Lib.hid (fun V A c k (t : List Tr) (hV : Tl V A k c t) (hk : k ≤ 1000) => holds_ok V A k c t hV hk other res)
  have Hfl : Hid ((l.filter (drF tx)).length ≤ 1000) := by
    show _ ≤ _
    have := List.length_filter_le (drF tx) l
    have := Hll.out
    omega
  have Hgl : Hid ((grL l tx res mode).length ≤ 1000) := by
    show _ ≤ _
    have := grL_len l tx res mode
    have := Hll.out
    omega
  have Hoth : Hid (tx ≠ other → hld (l.filter (drF tx)) other res = hld l other res) := fun hne => hld_drop_other l hne
  have Hgd : Hid (grE l tx res mode = 0 → (grL l tx res mode).filter (drF tx) = l.filter (drF tx)) := fun he => by
    show _ = _
    rw [(grE_zero he).2.2]
    exact grt_drop l tx res mode
  unfold GrAns at G
  unfold FdAns at DR
  clear h
  generalize grL l tx res mode = gl at *
  generalize hE : grE l tx res mode = er at *
  clear hE
  by_cases hto : tx = other
  · have hd : (tx == other) = true := by simpa using hto
    clear hto Hoth
    by_cases he : er = 0
    · subst he
      have Hge := Lib.hid (Hgd.out rfl)
      clear Hgd
      go_enter Try.func9, Try.ntmps9
      go_wp2_with fail
      refine (awake_ok _).mono ?_
      rintro e w1 ⟨rfl, hm1⟩
      have HM1 := Lib.hid hm1
      clear hm1
      have HX1 := Lib.hid (HX.out.keep HM1.out)
      go_wp2_with fail
      refine (G.out _ HX1.out).mono ?_
      rintro e w2 ⟨A, cA, rfl, hA, hm2⟩
      have HA := Lib.hid hA.tl
      have HX2 := Lib.hid (HX1.out.keep hm2)
      have HM2 := Lib.hid (HM1.out.trans hm2 (fun _ _ h => h))
      clear hA hm2 G HX1 HM1
      have D2 := Lib.hid (DR.out _ _ _ _ _ HX2.out hn)
      go_wp2_with fail
      refine D2.out.mono ?_
      rintro e w3 ⟨B, cB, rfl, hB, hm3⟩
      have HB := Lib.hid hB.tl
      have HA3 := Lib.hid (HA.out.keep hm3)
      have HX3 := Lib.hid (HX2.out.keep hm3)
      have HM3 := Lib.hid (HM2.out.trans hm3 (fun _ _ h => h))
      clear hB hm3 D2 HX2 HM2 HA
      have D3 := Lib.hid (DR.out _ _ _ _ _ HA3.out Hgl.out)
      rw [Hge.out] at D3
      go_wp2_with fail
      refine D3.out.mono ?_
      rintro e w4 ⟨C, cC, rfl, hC, hm4⟩
      have HC := Lib.hid hC.tl
      have HB4 := Lib.hid (HB.out.keep hm4)
      have HX4 := Lib.hid (HX3.out.keep hm4)
      have HM4 := Lib.hid (HM3.out.trans hm4 (fun _ _ h => h))
      clear hC hm4 D3 HX3 HM3 HB HA3
      go_wp2_with fail
      refine (same_ok _ _ _ _ _ _ _ HC.out HB4.out Hfl.out).mono ?_
      rintro e w5 ⟨rfl, hm5⟩
      have HB5 := Lib.hid (HB4.out.keep hm5)
      have HX5 := Lib.hid (HX4.out.keep hm5)
      have HM5 := Lib.hid (HM4.out.trans hm5 (fun _ _ h => h))
      clear hm5 HX4 HM4 HB4 HC
      go_wp2
      go_ret
      exact ⟨rfl, HM5.out.below (Nat.le_refl _) (fun _ _ => id)⟩
    · have hde : (er == 0) = false := by simpa using he
      clear he
      go_enter Try.func9, Try.ntmps9
      go_wp2_with fail
      refine (awake_ok _).mono ?_
      rintro e w1 ⟨rfl, hm1⟩
      have HM1 := Lib.hid hm1
      clear hm1
      have HX1 := Lib.hid (HX.out.keep HM1.out)
      go_wp2_with fail
      refine (G.out _ HX1.out).mono ?_
      rintro e w2 ⟨A, cA, rfl, hA, hm2⟩
      have HA := Lib.hid hA.tl
      have HX2 := Lib.hid (HX1.out.keep hm2)
      have HM2 := Lib.hid (HM1.out.trans hm2 (fun _ _ h => h))
      clear hA hm2 G HX1 HM1
      have D2 := Lib.hid (DR.out _ _ _ _ _ HX2.out hn)
      go_wp2_with fail
      refine D2.out.mono ?_
      rintro e w3 ⟨B, cB, rfl, hB, hm3⟩
      have HB := Lib.hid hB.tl
      have HA3 := Lib.hid (HA.out.keep hm3)
      have HX3 := Lib.hid (HX2.out.keep hm3)
      have HM3 := Lib.hid (HM2.out.trans hm3 (fun _ _ h => h))
      clear hB hm3 D2 HX2 HM2 HA
      go_wp2
      go_ret
      exact ⟨rfl, HM3.out.below (Nat.le_refl _) (fun _ _ => id)⟩
  · have hd : (tx == other) = false := by simpa using hto
    by_cases he : er = 0
    · subst he
      have Hge := Lib.hid (Hgd.out rfl)
      clear Hgd
      go_enter Try.func9, Try.ntmps9
      go_wp2_with fail
      refine (awake_ok _).mono ?_
      rintro e w1 ⟨rfl, hm1⟩
      have HM1 := Lib.hid hm1
      clear hm1
      have HX1 := Lib.hid (HX.out.keep HM1.out)
      go_wp2_with fail
      refine (G.out _ HX1.out).mono ?_
      rintro e w2 ⟨A, cA, rfl, hA, hm2⟩
      have HA := Lib.hid hA.tl
      have HX2 := Lib.hid (HX1.out.keep hm2)
      have HM2 := Lib.hid (HM1.out.trans hm2 (fun _ _ h => h))
      clear hA hm2 G HX1 HM1
      have D2 := Lib.hid (DR.out _ _ _ _ _ HX2.out hn)
      go_wp2_with fail
      refine D2.out.mono ?_
      rintro e w3 ⟨B, cB, rfl, hB, hm3⟩
      have HB := Lib.hid hB.tl
      have HA3 := Lib.hid (HA.out.keep hm3)
      have HX3 := Lib.hid (HX2.out.keep hm3)
      have HM3 := Lib.hid (HM2.out.trans hm3 (fun _ _ h => h))
      clear hB hm3 D2 HX2 HM2 HA
      have D3 := Lib.hid (DR.out _ _ _ _ _ HA3.out Hgl.out)
      rw [Hge.out] at D3
      go_wp2_with fail
      refine D3.out.mono ?_
      rintro e w4 ⟨C, cC, rfl, hC, hm4⟩
      have HC := Lib.hid hC.tl
      have HB4 := Lib.hid (HB.out.keep hm4)
      have HX4 := Lib.hid (HX3.out.keep hm4)
      have HM4 := Lib.hid (HM3.out.trans hm4 (fun _ _ h => h))
      clear hC hm4 D3 HX3 HM3 HB HA3
      go_wp2_with fail
      refine (same_ok _ _ _ _ _ _ _ HC.out HB4.out Hfl.out).mono ?_
      rintro e w5 ⟨rfl, hm5⟩
      have HB5 := Lib.hid (HB4.out.keep hm5)
      have HX5 := Lib.hid (HX4.out.keep hm5)
      have HM5 := Lib.hid (HM4.out.trans hm5 (fun _ _ h => h))
      clear hm5 HX4 HM4 HB4 HC
      have H1 := Lib.hid (HO.out _ _ _ _ _ HB5.out Hfl.out)
      rw [Hoth.out hto] at H1
      have H2 := Lib.hid (fun V (hV : Tl V A0 n c0 l) => HO.out V _ _ _ l hV hn)
      generalize hld l other res = q at *
      have hq : (((q : Nat) : Int) == ((q : Nat) : Int)) = true := by simp
      go_wp2_with fail
      refine H1.out.mono ?_
      rintro e w8 ⟨rfl, hm8⟩
      have HX8 := Lib.hid (HX5.out.keep hm8)
      have HM8 := Lib.hid (HM5.out.trans hm8 (fun _ _ h => h))
      clear hm8 H1
      go_wp2_with fail
      refine (H2.out _ HX8.out).mono ?_
      rintro e w9 ⟨rfl, hm9⟩
      have HM9 := Lib.hid (HM8.out.trans hm9 (fun _ _ h => h))
      clear hm9 H2
      go_wp2
      go_ret
      exact ⟨rfl, HM9.out.below (Nat.le_refl _) (fun _ _ => id)⟩
    · have hde : (er == 0) = false := by simpa using he
      clear he
      go_enter Try.func9, Try.ntmps9
      go_wp2_with fail
      refine (awake_ok _).mono ?_
      rintro e w1 ⟨rfl, hm1⟩
      have HM1 := Lib.hid hm1
      clear hm1
      have HX1 := Lib.hid (HX.out.keep HM1.out)
      go_wp2_with fail
      refine (G.out _ HX1.out).mono ?_
      rintro e w2 ⟨A, cA, rfl, hA, hm2⟩
      have HA := Lib.hid hA.tl
      have HX2 := Lib.hid (HX1.out.keep hm2)
      have HM2 := Lib.hid (HM1.out.trans hm2 (fun _ _ h => h))
      clear hA hm2 G HX1 HM1
      have D2 := Lib.hid (DR.out _ _ _ _ _ HX2.out hn)
      go_wp2_with fail
      refine D2.out.mono ?_
      rintro e w3 ⟨B, cB, rfl, hB, hm3⟩
      have HB := Lib.hid hB.tl
      have HA3 := Lib.hid (HA.out.keep hm3)
      have HX3 := Lib.hid (HX2.out.keep hm3)
      have HM3 := Lib.hid (HM2.out.trans hm3 (fun _ _ h => h))
      clear hB hm3 D2 HX2 HM2 HA
      have H1 := Lib.hid (HO.out _ _ _ _ _ HB.out Hfl.out)
      rw [Hoth.out hto] at H1
      have H2 := Lib.hid (fun V (hV : Tl V A0 n c0 l) => HO.out V _ _ _ l hV hn)
      generalize hld l other res = q at *
      have hq : (((q : Nat) : Int) == ((q : Nat) : Int)) = true := by simp
      go_wp2_with fail
      refine H1.out.mono ?_
      rintro e w8 ⟨rfl, hm8⟩
      have HX8 := Lib.hid (HX3.out.keep hm8)
      have HM8 := Lib.hid (HM3.out.trans hm8 (fun _ _ h => h))
      clear hm8 H1
      go_wp2_with fail
      refine (H2.out _ HX8.out).mono ?_
      rintro e w9 ⟨rfl, hm9⟩
      have HM9 := Lib.hid (HM8.out.trans hm9 (fun _ _ h => h))
      clear hm9 H2
      go_wp2
      go_ret
      exact ⟨rfl, HM9.out.below (Nat.le_refl _) (fun _ _ => id)⟩
end Go.Proofs.Ytpkjafadhnecfaa
