/-
  bobbinref11.Victim.
-/
import Derived.Test.YthbcgbbcoanbdaaRGain
namespace Go.Proofs.Ythbcgbbcoanbdaa
open Go Go.RowKit

set_option maxRecDepth 100000 in
set_option maxHeartbeats 6400000 in
theorem rvictim_ok (w : World) (x : TV) (h : x.At w) (hn : x.n ≤ 1000) (hm : x.m ≤ 1000) :
    Calls Try.prog 19 #[.agg #[.slice x.P x.n x.c, .slice x.S x.m x.d, .int .i64 x.t.sl, .int .i64 x.t.nw]] w fun e w' => e = .returned (.tuple #[.int .i64 (vcT x.t).v, .bool (vcT x.t).f]) ∧ Mod (fun _ => False) w w' := by
  obtain ⟨w1, hw1⟩ : ∃ w1, w.alloc (.cells #[.slice x.P x.n x.c, .slice x.S x.m x.d, .int .i64 x.t.sl, .int .i64 x.t.nw] 27) = w1 := ⟨_, rfl⟩
  have hm1 : Mod (fun _ => False) w w1 := by rw [← hw1]; exact (Mod.refl _ w).alloc _
  have hbx : TBx w1 w.heap.size x := by rw [← hw1]; exact TBx.new w x
  obtain ⟨c0, c1, c2, c3⟩ := hbx.cells
  have HM := Lib.hid hm1
  have HB := Lib.hid hbx
  have HX := Lib.hid (h.keep hm1)
  have Hsl : Hid (x.t.sg.length = x.m) := h.sg.len
  have HG0 : Hid (∀ (g : Int) (V : World), x.At V → Calls Try.prog 17 #[.agg #[.slice x.P x.n x.c, .slice x.S x.m x.d, .int .i64 x.t.sl, .int .i64 x.t.nw], .int .i64 g] V fun e w' => e = .returned (.tuple #[.int .i64 (gaN x.t g), .int .i64 (gaD x.t g), .bool (gnB x.t g)]) ∧ Mod (fun _ => False) V w') := fun g V hV => rgain_ok V x hV hn g
  have HFI : Hid (∀ i, i < x.m → btB x.t i x.m = false → (∀ k, k < i → btB x.t k x.m = true) → (vcT x.t).f = true ∧ (vcT x.t).v = (i : Int)) := by rw [← Hsl.out]; exact Lib.hid (fun i a b c => first_is a b c)
  have HNI : Hid ((∀ k, k < x.m → btB x.t k x.m = true) → (vcT x.t).f = false ∧ (vcT x.t).v = 0) := by rw [← Hsl.out]; exact Lib.hid (fun a => none_is a)
  clear hbx hm1 h
  go_enter Try.func19, Try.ntmps19
  go_wp2
  clear hw1
  go_loopw [4] (fun i wr => ∃ j : Nat, j ≤ x.m ∧ i = .int .i64 j ∧ Mod (fun _ => False) w1 wr ∧ ∀ k, k < j → btB x.t k x.m = true) (fun i _ => x.m - (intOf i).toNat)
  case atStart => exact ⟨0, Nat.zero_le _, rfl, Mod.refl _ _, fun k hk => absurd hk (by omega)⟩
  clear c0 c1 c2 c3
  case round =>
    obtain ⟨j, hj, rfl, hmr, hinv⟩ := hrel
    have Hmr := Lib.hid hmr
    have Hinv := Lib.hid hinv
    have HXr := Lib.hid (HX.out.keep hmr)
    obtain ⟨c0, c1, c2, c3⟩ := (HB.out.keep hmr).cells
    clear hmr hinv
    by_cases hlt : j < x.m
    · have hji : (j : Int) < (x.m : Int) := by omega
      have HN := Lib.hid (gaN_in x.t j)
      have HD := Lib.hid (gaD_in x.t j)
      have HG := Lib.hid (HG0.out (j : Int))
      have HB0 : Hid (btB x.t j 0 = !gnB x.t j) := Lib.hid rfl
      have HBS : Hid (∀ q, btB x.t j (q + 1) = (btB x.t j q || (gnB x.t q && decide (gaN x.t j * gaD x.t q < gaN x.t q * gaD x.t j)))) := Lib.hid (fun _ => rfl)
      generalize hN' : gaN x.t j = N at *
      generalize hD' : gaD x.t j = Dn at *
      generalize hG' : gnB x.t j = G at *
      clear hN' hD' hG'
      go_wp2_with fail
      refine (HG.out _ HXr.out).mono ?_
      rintro e w2 ⟨rfl, hm2⟩
      have HM2 := Lib.hid (Hmr.out.trans hm2 (fun _ _ h => h))
      clear hm2 c0 c1 c2 c3 HG HXr
      go_wp2_with fail
      obtain ⟨wo, rfl⟩ : ∃ wo, wo = wr := ⟨_, rfl⟩
      go_loopw [8, 9] (fun b i wv => ∃ q : Nat, q ≤ x.m ∧ i = .int .i64 q ∧ b = .bool (btB x.t j q) ∧ Mod (fun _ => False) w1 wv) (fun _ i _ => x.m - (intOf i).toNat)
      case atStart => exact ⟨0, Nat.zero_le _, rfl, by rw [HB0.out], HM2.out⟩
      case round =>
        obtain ⟨q, hq, rfl, rfl, hmv⟩ := hrel
        have Hmv := Lib.hid hmv
        have HXv := Lib.hid (HX.out.keep hmv)
        obtain ⟨c0, c1, c2, c3⟩ := (HB.out.keep hmv).cells
        clear hmv
        by_cases hlt2 : q < x.m
        · have hqi : (q : Int) < (x.m : Int) := by omega
          have hw1 := wrap_mul (gaN_in x.t q) HD.out
          have hw2 := wrap_mul HN.out (gaD_in x.t q)
          have hBB := HBS.out q
          have HGq := Lib.hid (HG0.out (q : Int))
          generalize gaN x.t q = N' at *
          generalize gaD x.t q = D' at *
          generalize gnB x.t q = G' at *
          cases hbq : btB x.t j q with
          | true =>
            rw [hbq] at hBB
            rw [Bool.true_or] at hBB
            have HBB := Lib.hid hBB
            clear hBB hbq
            go_wp2_with fail
            refine (HGq.out _ HXv.out).mono ?_
            rintro e w4 ⟨rfl, hm4⟩
            have HM4 := Lib.hid (Hmv.out.trans hm4 (fun _ _ h => h))
            clear hm4 c0 c1 c2 c3 HGq
            go_wp2
            go_roundw
            case rel => exact ⟨q + 1, by omega, by go_num, by rw [HBB.out], HM4.out⟩
            case measure => simp [intOf]; omega
          | false =>
          rw [hbq, Bool.false_or] at hBB
          clear hbq
          cases G' with
          | false =>
            rw [Bool.false_and] at hBB
            have HBB := Lib.hid hBB
            clear hBB
            go_wp2_with fail
            refine (HGq.out _ HXv.out).mono ?_
            rintro e w4 ⟨rfl, hm4⟩
            have HM4 := Lib.hid (Hmv.out.trans hm4 (fun _ _ h => h))
            clear hm4 c0 c1 c2 c3 HGq
            go_wp2
            go_roundw
            case rel => exact ⟨q + 1, by omega, by go_num, by rw [HBB.out], HM4.out⟩
            case measure => simp [intOf]; omega
          | true =>
          rw [Bool.true_and] at hBB
          have HBB := Lib.hid hBB
          clear hBB
          go_wp2_with fail
          refine (HGq.out _ HXv.out).mono ?_
          rintro e w4 ⟨rfl, hm4⟩
          have HM4 := Lib.hid (Hmv.out.trans hm4 (fun _ _ h => h))
          clear hm4 c0 c1 c2 c3 HGq
          go_wp2
          go_roundw
          case rel => exact ⟨q + 1, by omega, by go_num, by rw [HBB.out], HM4.out⟩
          case measure => simp [intOf]; omega
        · obtain rfl : q = x.m := by omega
          cases hbq : btB x.t j x.m with
          | true =>
            have Hi2 : Hid (∀ k, k < j + 1 → btB x.t k x.m = true) := fun k hk => by
              by_cases e : k < j
              · exact Hinv.out k e
              · obtain rfl : k = j := by omega
                exact hbq
            clear hbq
            go_wp2
            go_roundw
            case rel => exact ⟨j + 1, by omega, by go_num, Hmv.out, Hi2.out⟩
            case measure => simp [intOf]; omega
          | false =>
            have hfi := HFI.out j hlt hbq Hinv.out
            have Hfi := Lib.hid hfi
            clear hbq hfi
            go_wp2
            refine bodyPost_ret (v := .tuple #[.int .i64 (j : Int), .bool true]) (by simp [results, Try.results19, go_sem]) rfl ?_
            exact ⟨by rw [Hfi.out.1, Hfi.out.2], HM.out.trans Hmv.out (fun _ _ h => h)⟩
    · obtain rfl : j = x.m := by omega
      have hni := HNI.out Hinv.out
      have Hni := Lib.hid hni
      clear hni
      go_wp2
      refine bodyPost_ret (v := .tuple #[.int .i64 0, .bool false]) (by simp [results, Try.results19, go_sem]) rfl ?_
      exact ⟨by rw [Hni.out.1, Hni.out.2], HM.out.trans Hmr.out (fun _ _ h => h)⟩
end Go.Proofs.Ythbcgbbcoanbdaa
