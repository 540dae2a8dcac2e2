/-
  LockOnce: who was granted a lock holds it, and is granted it once more; who has dropped all blocks nobody.
-/
import Derived.Test.YtpkjafadhnecfaaKAw
namespace Go.Proofs.Ytpkjafadhnecfaa
open Go Go.RowKit

theorem or_and_self (a b : Nat) : (a ||| b) &&& b = b := by
  apply Nat.eq_of_testBit_eq
  intro i
  rw [Nat.testBit_and, Nat.testBit_or]
  cases a.testBit i <;> cases b.testBit i <;> rfl
theorem grL_zero {l : List Tr} {tx res mode : Int} (h : grE l tx res mode ≠ 0) : grL l tx res mode = [] := by unfold grL; rw [if_neg h]
theorem gr_twice {l : List Tr} {tx res mode : Int} (h : grE l tx res mode = 0) : grE (grL l tx res mode) tx res mode = 0 ∧ grL (grL l tx res mode) tx res mode = grL l tx res mode := by
  obtain ⟨ho, hb, hl⟩ := grE_zero h
  rw [hl]
  have := grE_yes (l := grt l tx res mode) ho (by rw [blks_grt]; exact hb)
  exact ⟨this.1, this.2.trans (grt_again l tx res mode)⟩
theorem holds_mode {l : List Tr} {tx res mode : Int} (h : grE l tx res mode = 0) : bits .and .i64 ((hld (grL l tx res mode) tx res : Nat) : Int) mode = mode := by
  obtain ⟨ho, _, hl⟩ := grE_zero h
  have hm := (okA_iff.1 ho).2.2
  have e : mode = ((m4 mode : Nat) : Int) := by unfold m4; omega
  rw [hl, hld_grt]
  conv => lhs; rw [e]
  rw [m4_nat _ (m4_lt mode), i64_and_nat _ _ (m4_lt mode), m4_nat _ (or_lt16 (hld_lt l tx res) (m4_lt mode)), or_and_self]
  exact e.symm
theorem none_blocks {l : List Tr} {tx other res mode : Int} : ∀ t ∈ blks (l.filter (drF tx)) other res mode, t ≠ tx := by
  intro t ht
  obtain ⟨x, hx, rfl, _⟩ := mem_blks.1 ht
  exact drF_iff.1 (List.mem_filter.1 hx).2

set_option maxRecDepth 100000 in
set_option maxHeartbeats 6400000 in
theorem once_walk (W : World) (A0 : Option Addr) (n c0 : Nat) (l : List Tr) (h : Tl W A0 n c0 l) (tx res mode other : Int) :
    Calls Try.prog 6 #[.slice A0 n c0, .int .i64 tx, .int .i64 res, .int .i64 mode, .int .i64 other] W fun e w' => e = .returned (.bool true) ∧ Below W.heap.size W w' := by
  by_cases hbig : 100 < n
  · have hgt : decide ((100 : Int) < (n : Int)) = true := by rw [decide_eq_true_eq]; omega
    clear hbig
    go_enter Try.func6, Try.ntmps6
    go_wp2_with fail
    refine (awake_ok _).mono ?_
    rintro e w1 ⟨rfl, hm1⟩
    have HM1 := Lib.hid hm1
    clear hm1
    go_wp2
    go_ret
    exact ⟨rfl, HM1.out.below (Nat.le_refl _) (fun _ _ => id)⟩
  have hn : n ≤ 1000 := by omega
  have hgt : decide ((100 : Int) < (n : Int)) = false := by rw [decide_eq_false_iff_not]; omega
  have hn100 : n ≤ 100 := by omega
  clear hbig
  have HX := Lib.hid h
  have Hll : Hid (l.length = n) := h.len
  have G := Lib.hid (fun V (hV : Tl V A0 n c0 l) => grant_ok V A0 n c0 l hV hn tx res mode)
  unfold GrAns at G
  clear h
  by_cases hE : grE l tx res mode = 0
  · obtain ⟨t1, t2⟩ := gr_twice hE
    have Hhm := Lib.hid (holds_mode hE)
    have Hgl : Hid ((grL l tx res mode).length ≤ 1000) := by
      show _ ≤ _
      have := grL_len l tx res mode
      have := Hll.out
      omega
    rw [hE] at G
    generalize grL l tx res mode = gl at *
    obtain ⟨k, hk⟩ : ∃ k, gl.length = k := ⟨_, rfl⟩
    rw [hk] at G Hgl
    have G2 := Lib.hid (fun V A c (hV : Tl V A k c gl) => grant_ok V A k c gl hV Hgl.out tx res mode)
    rw [t1, t2] at G2
    unfold GrAns at G2
    rw [hk] at G2
    have DR := Lib.hid (fun V A c (hV : Tl V A k c gl) => drop_ok V A k c gl hV Hgl.out tx)
    unfold FdAns at DR
    have HH := Lib.hid (fun V A c (hV : Tl V A k c gl) => holds_ok V A k c gl hV Hgl.out tx res)
    have Hfl : Hid ((gl.filter (drF tx)).length ≤ 1000) := by
      show _ ≤ _
      have := List.length_filter_le (drF tx) gl
      have := Hgl.out
      omega
    have BL := Lib.hid (fun V A c (hV : Tl V A (gl.filter (drF tx)).length c (gl.filter (drF tx))) => blockers_ok V A _ c _ hV Hfl.out other res mode)
    unfold BkAns at BL
    have HD := Lib.hid (fun V A c (hV : Tl V A (gl.filter (drF tx)).length c (gl.filter (drF tx))) => holds_ok V A _ c _ hV Hfl.out tx res)
    rw [hld_drop_own gl tx res] at HD
    have Hnb := Lib.hid (none_blocks (l := gl) (tx := tx) (other := other) (res := res) (mode := mode))
    have Hbl : Hid ((blks (gl.filter (drF tx)) other res mode).length ≤ 1000) := by
      show _ ≤ _
      have := blks_len (gl.filter (drF tx)) other res mode
      have := Hfl.out
      omega
    generalize blks (gl.filter (drF tx)) other res mode = bs at *
    generalize hld gl tx res = hh at *
    generalize gl.filter (drF tx) = fs at *
    have hmd : (mode == mode) = true := by simp
    have hhm := Hhm.out
    have hbl := Hbl.out
    clear hk t1 t2 hE Hhm
    go_enter Try.func6, Try.ntmps6
    go_wp2_with fail
    refine (awake_ok _).mono ?_
    rintro e w1 ⟨rfl, hm1⟩
    have HM1 := Lib.hid hm1
    clear hm1
    have HX1 := Lib.hid (HX.out.keep HM1.out)
    go_wp2_with fail
    refine (G.out _ HX1.out).mono ?_
    rintro e w2 ⟨A, cA, rfl, hA, hm2⟩
    have HA := Lib.hid hA.tl
    have HM2 := Lib.hid (HM1.out.trans hm2 (fun _ _ h => h))
    clear hA hm2 G HX1 HM1 HX
    go_wp2_with fail
    refine (G2.out _ _ _ HA.out).mono ?_
    rintro e w3 ⟨B, cB, rfl, hB, hm3⟩
    have HB := Lib.hid hB.tl
    have HA3 := Lib.hid (HA.out.keep hm3)
    have HM3 := Lib.hid (HM2.out.trans hm3 (fun _ _ h => h))
    clear hB hm3 G2 HA HM2
    go_wp2_with fail
    refine (same_ok _ _ _ _ _ _ _ HA3.out HB.out Hgl.out).mono ?_
    rintro e w4 ⟨rfl, hm4⟩
    have HA4 := Lib.hid (HA3.out.keep hm4)
    have HM4 := Lib.hid (HM3.out.trans hm4 (fun _ _ h => h))
    clear hm4 HA3 HM3 HB
    go_wp2_with fail
    refine (DR.out _ _ _ HA4.out).mono ?_
    rintro e w5 ⟨C, cC, rfl, hC, hm5⟩
    have HC := Lib.hid hC.tl
    have HA5 := Lib.hid (HA4.out.keep hm5)
    have HM5 := Lib.hid (HM4.out.trans hm5 (fun _ _ h => h))
    clear hC hm5 HA4 HM4
    go_wp2_with fail
    refine (BL.out _ _ _ HC.out).mono ?_
    rintro e w6 ⟨E, cE, rfl, hEb, hm6⟩
    have HE := Lib.hid hEb.il
    have HA6 := Lib.hid (HA5.out.keep hm6)
    have HM6 := Lib.hid (HM5.out.trans hm6 (fun _ _ h => h))
    clear hEb hm6 HA5 HM5 HC BL
    go_wp2
    go_loopw [18] (fun i wr => ∃ j : Nat, j ≤ bs.length ∧ i = .int .i64 j ∧ Mod (fun _ => False) w6 wr) (fun i _ => bs.length - (intOf i).toNat)
    case atStart => exact ⟨0, Nat.zero_le _, rfl, Mod.refl _ _⟩
    case round =>
      obtain ⟨j, hj, rfl, hr⟩ := hrel
      have Hr := Lib.hid hr
      clear hr
      by_cases hlt : j < bs.length
      · obtain ⟨b, o, hS, hc⟩ := (HE.out.keep Hr.out).2.2 (by omega)
        rw [hS]
        have s0 := hc j hlt
        have hne : (bs.getD j 0 == tx) = false := by
          have e : bs.getD j 0 = bs[j] := by simp [hlt]
          rw [e]
          have := Hnb.out bs[j] (List.getElem_mem hlt)
          simpa using this
        generalize bs.getD j 0 = s at *
        clear hc hS
        go_wp2
        go_roundw
        case rel => exact ⟨j + 1, by omega, by go_num, Hr.out⟩
        case measure => simp [intOf]; omega
      · obtain rfl : j = bs.length := by omega
        have HA7 := Lib.hid (HA6.out.keep Hr.out)
        have HM7 := Lib.hid (HM6.out.trans Hr.out (fun _ _ h => h))
        clear HA6 HM6 Hr
        go_wp2_with fail
        refine (HH.out _ _ _ HA7.out).mono ?_
        rintro e w8 ⟨rfl, hm8⟩
        have HA8 := Lib.hid (HA7.out.keep hm8)
        have HM8 := Lib.hid (HM7.out.trans hm8 (fun _ _ h => h))
        clear hm8 HA7 HM7 HH
        go_wp2_with fail
        refine (DR.out _ _ _ HA8.out).mono ?_
        rintro e w9 ⟨F, cF, rfl, hF, hm9⟩
        have HF := Lib.hid hF.tl
        have HM9 := Lib.hid (HM8.out.trans hm9 (fun _ _ h => h))
        clear hF hm9 HA8 HM8 DR
        go_wp2_with fail
        refine (HD.out _ _ _ HF.out).mono ?_
        rintro e w10 ⟨rfl, hm10⟩
        have HM10 := Lib.hid (HM9.out.trans hm10 (fun _ _ h => h))
        clear hm10 HM9 HD
        go_wp2
        go_ret
        exact ⟨rfl, HM10.out.below (Nat.le_refl _) (fun _ _ => id)⟩
  · have Hgn := Lib.hid (grL_zero hE)
    have hde : (grE l tx res mode != 0) = true := by simpa using hE
    rw [Hgn.out] at G
    generalize grE l tx res mode = er at *
    clear hE Hgn
    go_enter Try.func6, Try.ntmps6
    go_wp2_with fail
    refine (awake_ok _).mono ?_
    rintro e w1 ⟨rfl, hm1⟩
    have HM1 := Lib.hid hm1
    clear hm1
    have HX1 := Lib.hid (HX.out.keep HM1.out)
    go_wp2_with fail
    refine (G.out _ HX1.out).mono ?_
    rintro e w2 ⟨A, cA, rfl, hA, hm2⟩
    have HM2 := Lib.hid (HM1.out.trans hm2 (fun _ _ h => h))
    clear hA hm2 G HX1 HM1 HX
    go_wp2
    go_ret
    exact ⟨rfl, HM2.out.below (Nat.le_refl _) (fun _ _ => id)⟩
end Go.Proofs.Ytpkjafadhnecfaa
