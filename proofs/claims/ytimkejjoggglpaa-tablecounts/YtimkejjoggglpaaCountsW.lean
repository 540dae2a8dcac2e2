/-
  TableCounts: the live images of all segments together are the pages that are somewhere.
-/
import Derived.Test.YtimkejjoggglpaaTLaw
import Derived.Test.YtimkejjoggglpaaTLMath2
namespace Go.Proofs.Ytimkejjoggglpaa
open Go Go.RowKit

set_option maxRecDepth 100000 in
set_option maxHeartbeats 6400000 in
theorem counts_walk (x : TV) (W : World) (h : x.At W) :
    Calls Try.prog 6 #[.agg #[.slice x.P x.n x.c, .slice x.S x.m x.d, .int .i64 x.t.sl, .int .i64 x.t.nw]] W fun e w' => e = .returned (.bool true) ∧ Below W.heap.size W w' := by
  obtain ⟨w1, hw1⟩ : ∃ w1, W.alloc (.cells #[.slice x.P x.n x.c, .slice x.S x.m x.d, .int .i64 x.t.sl, .int .i64 x.t.nw] 27) = w1 := ⟨_, rfl⟩
  have hb1 : Tbl W w1 W.heap.size x x.t := by
    rw [← hw1]
    exact Tbl.new (Mod.refl _ W) h rfl
  have HB := Lib.hid hb1
  clear hb1
  have Hpl : Hid (x.t.pg.length = x.n) := h.pg.len
  have Hsl : Hid (x.t.sg.length = x.m) := h.sg.len
  clear h
  cases hlt : (decide (x.n ≤ 40) && decide (x.m ≤ 40)) with
  | false =>
    go_enter Try.func6, Try.ntmps6
    go_wp2_with fail
    refine (awake_ok _).mono ?_
    rintro e w2 ⟨rfl, hm2⟩
    have HB2 := Lib.hid (HB.out.keep hm2)
    obtain ⟨c0, c1, c2, c3⟩ := HB2.out.bx.cells
    clear hm2 hw1
    go_wp2_with fail
    refine (light_ok _ x).mono ?_
    rintro e w3 ⟨rfl, hm3⟩
    have HB3 := Lib.hid (HB2.out.keep hm3)
    clear hm3 c0 c1 c2 c3
    rw [hlt]
    go_wp2
    go_ret
    exact ⟨rfl, HB3.out.old.below (Nat.le_refl _) (fun _ _ => id)⟩
  | true =>
  have hnm : x.n ≤ 40 ∧ x.m ≤ 40 := by simpa using hlt
  have L : Hid (x.t.pg.length ≤ 1000 ∧ x.t.sg.length ≤ 1000) := by rw [Hpl.out, Hsl.out]; exact Lib.hid ⟨by omega, by omega⟩
  obtain ⟨hn, hm⟩ := hnm
  cases hmy : mayB x.t with
  | false =>
    go_enter Try.func6, Try.ntmps6
    go_wp2_with fail
    refine (awake_ok _).mono ?_
    rintro e w2 ⟨rfl, hm2⟩
    have HB2 := Lib.hid (HB.out.keep hm2)
    obtain ⟨c0, c1, c2, c3⟩ := HB2.out.bx.cells
    clear hm2 hw1
    go_wp2_with fail
    refine (light_ok _ x).mono ?_
    rintro e w3 ⟨rfl, hm3⟩
    have HB3 := Lib.hid (HB2.out.keep hm3)
    clear hm3 c0 c1 c2 c3
    rw [hlt]
    have HMY := Lib.hid (l_may HB3.out L.out)
    rw [hmy] at HMY
    obtain ⟨c0, c1, c2, c3⟩ := HB3.out.bx.cells
    go_wp2_with fail
    refine HMY.out.mono ?_
    rintro e w4 ⟨rfl, hm4⟩
    have HB4 := Lib.hid (HB3.out.keep hm4)
    clear hm4 c0 c1 c2 c3 HMY
    go_wp2
    go_ret
    exact ⟨rfl, HB4.out.old.below (Nat.le_refl _) (fun _ _ => id)⟩
  | true =>
  have Hmay := Lib.hid (mayB_iff.1 hmy)
  go_enter Try.func6, Try.ntmps6
  go_wp2_with fail
  refine (awake_ok _).mono ?_
  rintro e w2 ⟨rfl, hm2⟩
  have HB2 := Lib.hid (HB.out.keep hm2)
  obtain ⟨c0, c1, c2, c3⟩ := HB2.out.bx.cells
  clear hm2 hw1
  go_wp2_with fail
  refine (light_ok _ x).mono ?_
  rintro e w3 ⟨rfl, hm3⟩
  have HB3 := Lib.hid (HB2.out.keep hm3)
  clear hm3 c0 c1 c2 c3
  rw [hlt]
  have HMY := Lib.hid (l_may HB3.out L.out)
  rw [hmy] at HMY
  obtain ⟨c0, c1, c2, c3⟩ := HB3.out.bx.cells
  go_wp2_with fail
  refine HMY.out.mono ?_
  rintro e w4 ⟨rfl, hm4⟩
  have HB4 := Lib.hid (HB3.out.keep hm4)
  clear hm4 c0 c1 c2 c3 HMY
  clear hmy hlt
  go_wp2
  go_loopw [5, 6, 7, 8] (fun lv fr op i wr => ∃ j : Nat, j ≤ x.m ∧ i = .int .i64 j ∧ lv = .int .i64 ((cnt (inF x.t j) x.n : Nat) : Int) ∧ fr = .int .i64 ((cnt (stF 0 x.t) j : Nat) : Int) ∧ op = .int .i64 ((cnt (stF 1 x.t) j : Nat) : Int) ∧ Mod (fun _ => False) w4 wr) (fun _ _ _ i _ => x.m - (intOf i).toNat)
  case atStart => exact ⟨0, Nat.zero_le _, rfl, by have := inF_zero x.t; rw [Hpl.out] at this; rw [this]; rfl, rfl, rfl, Mod.refl _ _⟩
  case round =>
    obtain ⟨j, hj, rfl, rfl, rfl, rfl, hmr⟩ := hrel
    have HBr := Lib.hid (HB4.out.keep hmr)
    have Hmr := Lib.hid hmr
    clear hmr
    obtain ⟨c0, c1, c2, c3⟩ := HBr.out.bx.cells
    by_cases hlt : j < x.m
    · have Hjs : Hid (j < x.t.sg.length) := by rw [Hsl.out]; exact Lib.hid hlt
      have HLV := Lib.hid (l_live HBr.out L.out (j : Int))
      rw [liveI_in Hmay.out Hjs.out, Hpl.out] at HLV
      have Hin := Lib.hid (inF_succ x.t j)
      rw [Hpl.out] at Hin
      have hb1 := cnt_le (inF x.t j) x.n
      have hb2 := cnt_le (lvF j x.t) x.n
      have hb3 := cnt_le (stF 0 x.t) j
      have hb4 := cnt_le (stF 1 x.t) j
      have Hs0y := Lib.hid (fun h => cnt_yes (f := stF 0 x.t) (n := j) h)
      have Hs0n := Lib.hid (fun h => cnt_no (f := stF 0 x.t) (n := j) h)
      have Hs1y := Lib.hid (fun h => cnt_yes (f := stF 1 x.t) (n := j) h)
      have Hs1n := Lib.hid (fun h => cnt_no (f := stF 1 x.t) (n := j) h)
      have He0 : Hid (stF 0 x.t j = decide ((atS x.t.sg j).a = 0)) := Lib.hid rfl
      have He1 : Hid (stF 1 x.t j = decide ((atS x.t.sg j).a = 1)) := Lib.hid rfl
      generalize cnt (inF x.t j) x.n = q1 at *
      generalize cnt (lvF j x.t) x.n = q2 at *
      generalize cnt (stF 0 x.t) j = q3 at *
      generalize cnt (stF 1 x.t) j = q4 at *
      go_wp2_with fail
      clear c0 c1 c2 c3
      refine HLV.out.mono ?_
      rintro e w5 ⟨rfl, hm5⟩
      have HB5 := Lib.hid (HBr.out.keep hm5)
      have Hm5 := Lib.hid (Hmr.out.trans hm5 (fun _ _ h => h))
      obtain ⟨c0, c1, c2, c3⟩ := HB5.out.bx.cells
      obtain ⟨b, o, hS, hcs⟩ := HB5.out.at_.sg.cells (by omega)
      obtain ⟨s0, s1, s2⟩ := hcs j hlt
      generalize hT : atS x.t.sg j = s at *
      rw [hS] at c1
      clear hcs hT hm5 HLV s1 s2 c0 c2 c3 hS
      have hjm : (j : Int) < (x.m : Int) := by omega
      by_cases h0 : s.a = 0
      · have hd0 : (s.a == 0) = true := by simpa using h0
        have hd1 : (s.a == 1) = false := by rw [h0]; rfl
        have H0 := Lib.hid (Hs0y.out (by rw [He0.out]; exact decide_eq_true h0))
        have H1 := Lib.hid (Hs1n.out (by rw [He1.out]; exact decide_eq_false (by omega)))
        clear h0
        go_wp2
        go_roundw
        case rel => exact ⟨j + 1, by omega, by go_num, by rw [← Hin.out]; go_num, by rw [H0.out]; go_num, by rw [H1.out], Hm5.out⟩
        case measure => simp [intOf]; omega
      · have hd0 : (s.a == 0) = false := by simpa using h0
        have H0 := Lib.hid (Hs0n.out (by rw [He0.out]; exact decide_eq_false h0))
        by_cases h1 : s.a = 1
        · have hd1 : (s.a == 1) = true := by simpa using h1
          have H1 := Lib.hid (Hs1y.out (by rw [He1.out]; exact decide_eq_true h1))
          clear h0 h1
          go_wp2
          go_roundw
          case rel => exact ⟨j + 1, by omega, by go_num, by rw [← Hin.out]; go_num, by rw [H0.out], by rw [H1.out]; go_num, Hm5.out⟩
          case measure => simp [intOf]; omega
        · have hd1 : (s.a == 1) = false := by simpa using h1
          have H1 := Lib.hid (Hs1n.out (by rw [He1.out]; exact decide_eq_false h1))
          clear h0 h1
          go_wp2
          go_roundw
          case rel => exact ⟨j + 1, by omega, by go_num, by rw [← Hin.out]; go_num, by rw [H0.out], by rw [H1.out], Hm5.out⟩
          case measure => simp [intOf]; omega
    · obtain rfl : j = x.m := by omega
      have Hall : Hid (cnt (inF x.t x.m) x.n = cnt (smF x.t) x.n) := by
        have := inF_all Hmay.out
        rw [Hsl.out, Hpl.out] at this
        exact this
      rw [Hall.out]
      have Hfr : Hid (freesI x.t = ((cnt (stF 0 x.t) x.m : Nat) : Int)) := by rw [← Hsl.out]; exact freesI_may Hmay.out
      have hone : cnt (stF 1 x.t) x.m ≤ 1 := by rw [← Hsl.out]; exact Hmay.out.one
      have hone' : ((cnt (stF 1 x.t) x.m : Nat) : Int) ≤ 1 := by omega
      generalize cnt (stF 1 x.t) x.m = q4 at *
      generalize cnt (stF 0 x.t) x.m = q3 at *
      go_wp2
      go_loopw [9, 10] (fun sm i wv => ∃ k : Nat, k ≤ x.n ∧ i = .int .i64 k ∧ sm = .int .i64 ((cnt (smF x.t) k : Nat) : Int) ∧ wv = wr) (fun _ i _ => x.n - (intOf i).toNat)
      case atStart => exact ⟨0, Nat.zero_le _, rfl, rfl, rfl⟩
      case round =>
        obtain ⟨k, hk, rfl, rfl, hw⟩ := hrel
        subst hw
        by_cases hlt2 : k < x.n
        · obtain ⟨b, o, hP, hcs⟩ := HBr.out.at_.pg.cells (by omega)
          obtain ⟨s0, s1, s2⟩ := hcs k hlt2
          have Hy := Lib.hid (fun h => cnt_yes (f := smF x.t) (n := k) h)
          have Hn := Lib.hid (fun h => cnt_no (f := smF x.t) (n := k) h)
          have He : Hid (smF x.t k = decide (0 ≤ (atS x.t.pg k).a)) := Lib.hid rfl
          have hb1 := cnt_le (smF x.t) k
          generalize cnt (smF x.t) k = q5 at *
          generalize hT : atS x.t.pg k = s at *
          rw [hP] at c0
          clear hcs hT s1 s2 hP
          have hkm : (k : Int) < (x.n : Int) := by omega
          by_cases h0 : 0 ≤ s.a
          · have H0 := Lib.hid (Hy.out (by rw [He.out]; exact decide_eq_true h0))
            go_wp2
            go_roundw
            case rel => exact ⟨k + 1, by omega, by go_num, by rw [H0.out]; go_num, by first | trivial | rfl⟩
            case measure => simp [intOf]; omega
          · have H0 := Lib.hid (Hn.out (by rw [He.out]; exact decide_eq_false h0))
            have hd : decide (0 ≤ s.a) = false := by simpa using h0
            clear h0
            go_wp2
            go_roundw
            case rel => exact ⟨k + 1, by omega, by go_num, by rw [H0.out], by first | trivial | rfl⟩
            case measure => simp [intOf]; omega
        · obtain rfl : k = x.n := by omega
          have HFR := Lib.hid (l_frees HBr.out L.out)
          rw [Hfr.out] at HFR
          generalize cnt (smF x.t) x.n = q6 at *
          go_wp2_with fail
          refine HFR.out.mono ?_
          rintro e w6 ⟨rfl, hm6⟩
          have HM6 := Lib.hid (HBr.out.old.trans hm6 (fun _ _ h => h))
          clear hm6
          go_wp2
          go_ret
          exact ⟨rfl, HM6.out.below (Nat.le_refl _) (fun _ _ => id)⟩
end Go.Proofs.Ytimkejjoggglpaa
