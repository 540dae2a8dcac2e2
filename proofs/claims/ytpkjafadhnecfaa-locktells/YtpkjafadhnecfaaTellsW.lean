/-
  LockTells: of any locks any that is asked for is blocked, granted, held and dropped as the document says.
-/
import Derived.Test.YtpkjafadhnecfaaKAw
import Derived.Test.YtpkjafadhnecfaaKRefG
namespace Go.Proofs.Ytpkjafadhnecfaa
open Go Go.RowKit

theorem rgrant_ok (w : World) (A0 : Option Addr) (n c0 : Nat) (l : List Tr) (h : Tl w A0 n c0 l) (hn : n ≤ 1000) (ht : ∀ x ∈ l, T64 x) (tx res mode : Int) (hmode : I64 mode) :
    Calls Try.prog 15 #[.slice A0 n c0, .int .i64 tx, .int .i64 res, .int .i64 mode] w fun e w' => GrAns w w' (grL l tx res mode) (grE l tx res mode) e := by
  cases ho : okA tx res mode with
  | false =>
    rw [(grE_arg ho).1, (grE_arg ho).2]
    exact rgrant_arg w A0 n c0 tx res mode ho
  | true =>
    by_cases hb : blks l tx res mode = []
    · rw [(grE_yes ho hb).1, (grE_yes ho hb).2]
      exact rgrant_yes w A0 n c0 l h hn ht tx res mode hmode ho hb
    · rw [(grE_state ho hb).1, (grE_state ho hb).2]
      exact rgrant_state w A0 n c0 l h hn ht tx res mode hmode ho hb

set_option maxRecDepth 100000 in
set_option maxHeartbeats 6400000 in
theorem tells_walk (W : World) (A0 : Option Addr) (n c0 : Nat) (l : List Tr) (h : Tl W A0 n c0 l) (ht : ∀ x ∈ l, T64 x) (tx res mode : Int) (hmode : I64 mode) :
    Calls Try.prog 3 #[.slice A0 n c0, .int .i64 tx, .int .i64 res, .int .i64 mode] W fun e w' => e = .returned (.bool true) ∧ Below W.heap.size W w' := by
  by_cases hbig : 100 < n
  · have hgt : decide ((100 : Int) < (n : Int)) = true := by rw [decide_eq_true_eq]; omega
    clear hbig
    go_enter Try.func3, Try.ntmps3
    go_wp2_with fail
    refine (awake_ok _).mono ?_
    rintro e w1 ⟨rfl, hm1⟩
    have HM1 := Lib.hid hm1
    clear hm1
    go_wp2
    go_ret
    exact ⟨rfl, HM1.out.below (Nat.le_refl _) (fun _ _ => id)⟩
  have hn : n ≤ 1000 := by omega
  have hgt : decide ((100 : Int) < (n : Int)) = false := by rw [decide_eq_false_iff_not]; omega
  have hn100 : n ≤ 100 := by omega
  clear hbig
  have HX := Lib.hid h
  have Hll : Hid (l.length = n) := h.len
  have B1 := Lib.hid (fun V (hV : Tl V A0 n c0 l) => blockers_ok V A0 n c0 l hV hn tx res mode)
  have B2 := Lib.hid (fun V (hV : Tl V A0 n c0 l) => rblockers_ok V A0 n c0 l hV hn ht tx res mode hmode)
  have G1 := Lib.hid (fun V (hV : Tl V A0 n c0 l) => grant_ok V A0 n c0 l hV hn tx res mode)
  have G2 := Lib.hid (fun V (hV : Tl V A0 n c0 l) => rgrant_ok V A0 n c0 l hV hn ht tx res mode hmode)
  have D1 := Lib.hid (fun V (hV : Tl V A0 n c0 l) => drop_ok V A0 n c0 l hV hn tx)
  have D2 := Lib.hid (fun V (hV : Tl V A0 n c0 l) => rdrop_ok V A0 n c0 l hV hn tx)
  have H1 := Lib.hid (fun V (hV : Tl V A0 n c0 l) => holds_ok V A0 n c0 l hV hn tx res)
  have H2 := Lib.hid (fun V (hV : Tl V A0 n c0 l) => rholds_ok V A0 n c0 l hV hn ht tx res)
  have S1 := Lib.hid (fun V (hV : Tl V A0 n c0 l) => safe_ok V A0 n c0 l hV hn)
  have S2 := Lib.hid (fun V (hV : Tl V A0 n c0 l) => rsafe_ok V A0 n c0 l hV hn ht)
  have Hb : Hid ((blks l tx res mode).length ≤ 1000) := by
    show _ ≤ _
    have := blks_len l tx res mode
    have := Hll.out
    omega
  have Hg : Hid ((grL l tx res mode).length ≤ 1000) := by
    show _ ≤ _
    have := grL_len l tx res mode
    have := Hll.out
    omega
  have Hd : Hid ((l.filter (drF tx)).length ≤ 1000) := by
    show _ ≤ _
    have := List.length_filter_le (drF tx) l
    have := Hll.out
    omega
  unfold BkAns at B1 B2
  unfold GrAns at G1 G2
  unfold FdAns at D1 D2
  clear h ht hmode
  generalize blks l tx res mode = bs at *
  generalize grL l tx res mode = gs at *
  generalize grE l tx res mode = er at *
  generalize l.filter (drF tx) = ds at *
  generalize hld l tx res = hh at *
  generalize sfB l = sf at *
  have q1 : (er == er) = true := by simp
  have q2 : (((hh : Nat) : Int) == ((hh : Nat) : Int)) = true := by simp
  have q3 : (sf == sf) = true := by simp
  go_enter Try.func3, Try.ntmps3
  go_wp2_with fail
  refine (awake_ok _).mono ?_
  rintro e w1 ⟨rfl, hm1⟩
  have HM1 := Lib.hid hm1
  clear hm1
  have HX1 := Lib.hid (HX.out.keep HM1.out)
  clear HX
  go_wp2_with fail
  refine (B1.out _ HX1.out).mono ?_
  rintro e w2 ⟨A, cA, rfl, hA, hm2⟩
  have HA2 := Lib.hid hA.il
  have HX2 := Lib.hid (HX1.out.keep hm2)
  have HM2 := Lib.hid (HM1.out.trans hm2 (fun _ _ h => h))
  clear hm2 HM1 HX1
  clear hA
  go_wp2_with fail
  refine (B2.out _ HX2.out).mono ?_
  rintro e w3 ⟨B, cB, rfl, hB, hm3⟩
  have HB3 := Lib.hid hB.il
  have HX3 := Lib.hid (HX2.out.keep hm3)
  have HA3 := Lib.hid (HA2.out.keep hm3)
  have HM3 := Lib.hid (HM2.out.trans hm3 (fun _ _ h => h))
  clear hm3 HM2 HX2 HA2
  clear hB
  go_wp2_with fail
  refine (ints_ok _ _ _ _ _ _ _ HA3.out HB3.out Hb.out).mono ?_
  rintro e w4 ⟨rfl, hm4⟩
  have HX4 := Lib.hid (HX3.out.keep hm4)
  have HM4 := Lib.hid (HM3.out.trans hm4 (fun _ _ h => h))
  clear hm4 HM3 HX3
  clear HA3 HB3
  go_wp2_with fail
  refine (G1.out _ HX4.out).mono ?_
  rintro e w5 ⟨C, cC, rfl, hC, hm5⟩
  have HA5 := Lib.hid hC.tl
  have HX5 := Lib.hid (HX4.out.keep hm5)
  have HM5 := Lib.hid (HM4.out.trans hm5 (fun _ _ h => h))
  clear hm5 HM4 HX4
  clear hC
  go_wp2_with fail
  refine (G2.out _ HX5.out).mono ?_
  rintro e w6 ⟨E, cE, rfl, hE, hm6⟩
  have HB6 := Lib.hid hE.tl
  have HX6 := Lib.hid (HX5.out.keep hm6)
  have HA6 := Lib.hid (HA5.out.keep hm6)
  have HM6 := Lib.hid (HM5.out.trans hm6 (fun _ _ h => h))
  clear hm6 HM5 HX5 HA5
  clear hE
  go_wp2_with fail
  refine (same_ok _ _ _ _ _ _ _ HA6.out HB6.out Hg.out).mono ?_
  rintro e w7 ⟨rfl, hm7⟩
  have HX7 := Lib.hid (HX6.out.keep hm7)
  have HM7 := Lib.hid (HM6.out.trans hm7 (fun _ _ h => h))
  clear hm7 HM6 HX6
  clear HA6 HB6
  go_wp2_with fail
  refine (D1.out _ HX7.out).mono ?_
  rintro e w8 ⟨F, cF, rfl, hF, hm8⟩
  have HA8 := Lib.hid hF.tl
  have HX8 := Lib.hid (HX7.out.keep hm8)
  have HM8 := Lib.hid (HM7.out.trans hm8 (fun _ _ h => h))
  clear hm8 HM7 HX7
  clear hF
  go_wp2_with fail
  refine (D2.out _ HX8.out).mono ?_
  rintro e w9 ⟨G, cG, rfl, hG, hm9⟩
  have HB9 := Lib.hid hG.tl
  have HX9 := Lib.hid (HX8.out.keep hm9)
  have HA9 := Lib.hid (HA8.out.keep hm9)
  have HM9 := Lib.hid (HM8.out.trans hm9 (fun _ _ h => h))
  clear hm9 HM8 HX8 HA8
  clear hG
  go_wp2_with fail
  refine (same_ok _ _ _ _ _ _ _ HA9.out HB9.out Hd.out).mono ?_
  rintro e w10 ⟨rfl, hm10⟩
  have HX10 := Lib.hid (HX9.out.keep hm10)
  have HM10 := Lib.hid (HM9.out.trans hm10 (fun _ _ h => h))
  clear hm10 HM9 HX9
  clear HA9 HB9
  go_wp2_with fail
  refine (H1.out _ HX10.out).mono ?_
  rintro e w11 ⟨rfl, hm11⟩
  have HX11 := Lib.hid (HX10.out.keep hm11)
  have HM11 := Lib.hid (HM10.out.trans hm11 (fun _ _ h => h))
  clear hm11 HM10 HX10
  go_wp2_with fail
  refine (H2.out _ HX11.out).mono ?_
  rintro e w12 ⟨rfl, hm12⟩
  have HX12 := Lib.hid (HX11.out.keep hm12)
  have HM12 := Lib.hid (HM11.out.trans hm12 (fun _ _ h => h))
  clear hm12 HM11 HX11
  go_wp2_with fail
  refine (S1.out _ HX12.out).mono ?_
  rintro e w13 ⟨rfl, hm13⟩
  have HX13 := Lib.hid (HX12.out.keep hm13)
  have HM13 := Lib.hid (HM12.out.trans hm13 (fun _ _ h => h))
  clear hm13 HM12 HX12
  go_wp2_with fail
  refine (S2.out _ HX13.out).mono ?_
  rintro e w14 ⟨rfl, hm14⟩
  have HM14 := Lib.hid (HM13.out.trans hm14 (fun _ _ h => h))
  clear hm14 HM13 
  go_wp2
  go_ret
  exact ⟨rfl, HM14.out.below (Nat.le_refl _) (fun _ _ => id)⟩
end Go.Proofs.Ytpkjafadhnecfaa
