/-
  bobbinref10.Next, of a table that may be.
-/
import Derived.Test.YthbcgbbcoanbdaaRMay
import Derived.Test.YthbcgbbcoanbdaaTNext
namespace Go.Proofs.Ythbcgbbcoanbdaa
open Go Go.RowKit

set_option maxRecDepth 100000 in
set_option maxHeartbeats 6400000 in
theorem rnext_ok (w : World) (x : TV) (h : x.At w) (ht : x.t.May) :
    Calls Try.prog 55 #[.agg #[.slice x.P x.n x.c, .slice x.S x.m x.d, .int .i64 x.t.sl, .int .i64 x.t.nw]] w fun e w' => e = .returned (.tuple #[.int .i64 ((nxG x.t : Nat) : Int), .int .i64 (nxU x.t), .int .i64 (nxE x.t)]) ∧ Mod (fun _ => False) w w' := by
  obtain ⟨w1, hw1⟩ : ∃ w1, w.alloc (.cells #[.slice x.P x.n x.c, .slice x.S x.m x.d, .int .i64 x.t.sl, .int .i64 x.t.nw] 27) = w1 := ⟨_, rfl⟩
  have hm1 : Mod (fun _ => False) w w1 := by rw [← hw1]; exact (Mod.refl _ w).alloc _
  have hbx : TBx w1 w.heap.size x := by rw [← hw1]; exact TBx.new w x
  obtain ⟨c0, c1, c2, c3⟩ := hbx.cells
  have HB := Lib.hid hbx
  have HM := Lib.hid hm1
  have HX := Lib.hid (h.keep hm1)
  have Hpl : Hid (x.t.pg.length = x.n) := h.pg.len
  have Hsl : Hid (x.t.sg.length = x.m) := h.sg.len
  have HMY := Lib.hid (rmay_ok w1 x HX.out ht)
  have HT := Lib.hid ht
  have Hy := Lib.hid (mayB_iff.2 ht)
  have hm40 : x.m ≤ 32 := by rw [← Hsl.out]; exact ht.s2
  clear hbx hm1 h ht
  go_enter Try.func55, Try.ntmps55
  go_wp2_with fail
  refine HMY.out.mono ?_
  rintro e w2 ⟨rfl, hm2⟩
  have HM2 := Lib.hid (HM.out.trans hm2 (fun _ _ h => h))
  have HX2 := Lib.hid (HX.out.keep hm2)
  have HB2 := Lib.hid (HB.out.keep hm2)
  clear c0 c1 c2 c3 hw1 hm2
  obtain ⟨c0, c1, c2, c3⟩ := HB2.out.cells
  go_wp2
  go_loopw [6] (fun k wr => ∃ j : Nat, j ≤ x.m ∧ k = .int .i64 j ∧ (∀ q, q < j → stF 1 x.t q = false) ∧ wr = w2) (fun k _ => x.m - (intOf k).toNat)
  case atStart => exact ⟨0, Nat.zero_le _, rfl, fun q hq => absurd hq (by omega), by first | rfl | trivial⟩
  case round =>
    obtain ⟨j, hj, rfl, hno, hw⟩ := hrel
    subst hw
    have Hno := Lib.hid hno
    clear hno
    by_cases hlt : j < x.m
    · obtain ⟨b, o, hS, hc⟩ := HX2.out.sg.cells (by omega)
      obtain ⟨s0, s1, s2⟩ := hc j hlt
      have Hst : Hid (stF 1 x.t j = decide ((atS x.t.sg j).a = 1)) := Lib.hid rfl
      generalize hT : atS x.t.sg j = s at *
      have c1' := c1
      rw [hS] at c1'
      clear hc s2 hS
      have hji : (j : Int) < (x.m : Int) := by omega
      have hj0 : (0 : Int) ≤ (j : Int) := by omega
      by_cases hs : s.a = 1
      · have hd : (s.a == 1) = true := by simpa using hs
        have hf : stF 1 x.t j = true := by rw [Hst.out]; exact decide_eq_true hs
        have hp1 : 0 < cnt (stF 1 x.t) x.t.sg.length := cnt_pos.2 ⟨j, by rw [Hsl.out]; exact hlt, hf⟩
        have hG : nxG x.t = j := by unfold nxG; rw [if_pos Hy.out, if_pos hp1]; exact fstI_is (by rw [Hsl.out]; exact hlt) hf Hno.out
        have hE : nxE x.t = 0 := by unfold nxE; rw [if_pos Hy.out, if_pos hp1]
        have HA : Hid (Ending.returned (.tuple #[.int .i64 ((j : Nat) : Int), .int .i64 s.b, .int .i64 0]) = Ending.returned (.tuple #[.int .i64 ((nxG x.t : Nat) : Int), .int .i64 (nxU x.t), .int .i64 (nxE x.t)])) := by
          have hU : nxU x.t = s.b := by unfold nxU; rw [if_pos hE, hG, hT]
          rw [hU, hG, hE]
          exact Lib.hid rfl
        clear hp1 hG hE hf hs Hst hT c1
        go_wp2_with fail
        go_quiet (fail)
        go_wp2
        go_ret3
        exact ⟨HA.out, HM2.out.drewN _⟩
      · have hd : (s.a == 1) = false := by simpa using hs
        have Hf : Hid (stF 1 x.t j = false) := by rw [Hst.out]; exact decide_eq_false hs
        clear hs Hst hT s1
        clear c1
        go_wp2
        go_roundw
        case rel => exact ⟨j + 1, by omega, by go_num, fun q hq => (by rcases Nat.lt_succ_iff_lt_or_eq.1 hq with h | h; exact Hno.out q h; rw [h]; exact Hf.out), by first | rfl | trivial⟩
        case measure => simp [intOf]; omega
    · obtain rfl : j = x.m := by omega
      have H1 : Hid (cnt (stF 1 x.t) x.t.sg.length = 0) := cnt_none.2 (by rw [Hsl.out]; exact Hno.out)
      go_wp2
      go_loopw [7] (fun k wv => ∃ j : Nat, j ≤ x.m ∧ k = .int .i64 j ∧ (∀ q, q < j → stF 0 x.t q = false) ∧ wv = wr) (fun k _ => x.m - (intOf k).toNat)
      case atStart => exact ⟨0, Nat.zero_le _, rfl, fun q hq => absurd hq (by omega), by first | rfl | trivial⟩
      case round =>
        obtain ⟨j, hj, rfl, hno, hw⟩ := hrel
        subst hw
        have Hno := Lib.hid hno
        clear hno
        by_cases hlt : j < x.m
        · obtain ⟨b, o, hS, hc⟩ := HX2.out.sg.cells (by omega)
          obtain ⟨s0, s1, s2⟩ := hc j hlt
          have Hst : Hid (stF 0 x.t j = decide ((atS x.t.sg j).a = 0)) := Lib.hid rfl
          generalize hT : atS x.t.sg j = s at *
          have c1' := c1
          rw [hS] at c1'
          clear hc s2 hS
          have hji : (j : Int) < (x.m : Int) := by omega
          have hj0 : (0 : Int) ≤ (j : Int) := by omega
          by_cases hs : s.a = 0
          · have hd : (s.a == 0) = true := by simpa using hs
            have hf : stF 0 x.t j = true := by rw [Hst.out]; exact decide_eq_true hs
            have hp1 : ¬ 0 < cnt (stF 1 x.t) x.t.sg.length := by rw [H1.out]; omega
            have hp0 : 0 < cnt (stF 0 x.t) x.t.sg.length := cnt_pos.2 ⟨j, by rw [Hsl.out]; exact hlt, hf⟩
            have hG : nxG x.t = j := by unfold nxG; rw [if_pos Hy.out, if_neg hp1, if_pos hp0]; exact fstI_is (by rw [Hsl.out]; exact hlt) hf Hno.out
            have hE : nxE x.t = 0 := by unfold nxE; rw [if_pos Hy.out, if_neg hp1, if_pos hp0]
            have HA : Hid (Ending.returned (.tuple #[.int .i64 ((j : Nat) : Int), .int .i64 0, .int .i64 0]) = Ending.returned (.tuple #[.int .i64 ((nxG x.t : Nat) : Int), .int .i64 (nxU x.t), .int .i64 (nxE x.t)])) := by
              have hU : nxU x.t = 0 := by unfold nxU; rw [if_pos hE, hG, HT.out.freeSeg (by rw [Hsl.out]; exact hlt) (by rw [hT]; exact hs)]; rfl
              rw [hU, hG, hE]
              exact Lib.hid rfl
            clear hp1 hp0 hG hE hf hs Hst hT c1
            go_wp2
            go_ret3
            exact ⟨HA.out, HM2.out⟩
          · have hd : (s.a == 0) = false := by simpa using hs
            have Hf : Hid (stF 0 x.t j = false) := by rw [Hst.out]; exact decide_eq_false hs
            clear hs Hst hT s1
            clear c1
            go_wp2
            go_roundw
            case rel => exact ⟨j + 1, by omega, by go_num, fun q hq => (by rcases Nat.lt_succ_iff_lt_or_eq.1 hq with h | h; exact Hno.out q h; rw [h]; exact Hf.out), by first | rfl | trivial⟩
            case measure => simp [intOf]; omega
        · obtain rfl : j = x.m := by omega
          have H0 : cnt (stF 0 x.t) x.t.sg.length = 0 := cnt_none.2 (by rw [Hsl.out]; exact Hno.out)
          have HA : Hid (Ending.returned (.tuple #[.int .i64 0, .int .i64 0, .int .i64 4]) = Ending.returned (.tuple #[.int .i64 ((nxG x.t : Nat) : Int), .int .i64 (nxU x.t), .int .i64 (nxE x.t)])) := by
            have hp1 : ¬ 0 < cnt (stF 1 x.t) x.t.sg.length := by rw [H1.out]; omega
            have hp0 : ¬ 0 < cnt (stF 0 x.t) x.t.sg.length := by rw [H0]; omega
            have hG : nxG x.t = 0 := by unfold nxG; rw [if_pos Hy.out, if_neg hp1, if_neg hp0]
            have hE : nxE x.t = 4 := by unfold nxE; rw [if_pos Hy.out, if_neg hp1, if_neg hp0]
            have hU : nxU x.t = 0 := by unfold nxU; rw [hE, if_neg (by decide)]
            rw [hU, hG, hE]
            exact Lib.hid rfl
          clear H0
          go_wp2
          go_ret3
          exact ⟨HA.out, HM2.out⟩
end Go.Proofs.Ythbcgbbcoanbdaa
