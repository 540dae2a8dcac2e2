/-
  TableStays: whatever is put, set, freed and settled, a table that may be stays one; no page goes, but to where it is put.
-/
import Derived.Test.YtimkejjoggglpaaTDoes
namespace Go.Proofs.Ytimkejjoggglpaa
open Go Go.RowKit

set_option maxRecDepth 100000 in
set_option maxHeartbeats 6400000 in
theorem stays_walk (x : TV) (W : World) (h : x.At W) (y : OpD) :
    Calls Try.prog 4 #[.agg #[.slice x.P x.n x.c, .slice x.S x.m x.d, .int .i64 x.t.sl, .int .i64 x.t.nw], .agg #[.int .i64 y.kind, .int .i64 y.page, .int .i64 y.at_, .int .i64 y.seg, .int .i64 y.p.a, .int .i64 y.p.b, .int .i64 y.p.c]] W fun e w' => e = .returned (.bool true) ∧ Below W.heap.size W w' := by
  obtain ⟨w1, hw1⟩ : ∃ w1, (W.alloc (.cells #[.slice x.P x.n x.c, .slice x.S x.m x.d, .int .i64 x.t.sl, .int .i64 x.t.nw] 27)).alloc (.cells #[.int .i64 y.kind, .int .i64 y.page, .int .i64 y.at_, .int .i64 y.seg, .int .i64 y.p.a, .int .i64 y.p.b, .int .i64 y.p.c] 36) = w1 := ⟨_, rfl⟩
  have hb1 : Tbl W w1 W.heap.size x x.t := by
    rw [← hw1]
    exact (Tbl.new (Mod.refl _ W) h rfl).keep ((Mod.refl _ _).alloc _)
  have ho1 : OBx w1 (W.heap.size + 1) y := by
    rw [← hw1]
    have := OBx.new (W.alloc (.cells #[.slice x.P x.n x.c, .slice x.S x.m x.d, .int .i64 x.t.sl, .int .i64 x.t.nw] 27)) y
    rw [World.size_alloc] at this
    exact this
  have HB := Lib.hid hb1
  have HO := Lib.hid ho1
  clear hb1 ho1
  have Hpl : Hid (x.t.pg.length = x.n) := h.pg.len
  have Hsl : Hid (x.t.sg.length = x.m) := h.sg.len
  clear h
  cases hlt : (decide (x.n ≤ 40) && decide (x.m ≤ 40)) with
  | false =>
    go_enter Try.func4, Try.ntmps4
    go_wp2_with fail
    refine (awake_ok _).mono ?_
    rintro e w2 ⟨rfl, hm2⟩
    have HB2 := Lib.hid (HB.out.keep hm2)
    have HO2 := Lib.hid (HO.out.keep hm2)
    obtain ⟨c0, c1, c2, c3⟩ := HB2.out.bx.cells
    clear hm2 hw1
    go_wp2_with fail
    refine (light_ok _ x).mono ?_
    rintro e w3 ⟨rfl, hm3⟩
    have HB3 := Lib.hid (HB2.out.keep hm3)
    have HO3 := Lib.hid (HO2.out.keep hm3)
    clear hm3 c0 c1 c2 c3
    rw [hlt]
    go_wp2
    go_ret
    exact ⟨rfl, HB3.out.old.below (Nat.le_refl _) (fun _ _ => id)⟩
  | true =>
  have hnm : x.n ≤ 40 ∧ x.m ≤ 40 := by simpa using hlt
  have L : Hid (x.t.pg.length ≤ 1000 ∧ x.t.sg.length ≤ 1000) := by rw [Hpl.out, Hsl.out]; exact Lib.hid ⟨by omega, by omega⟩
  obtain ⟨hn, hm⟩ := hnm
  cases hmy : mayB x.t with
  | false =>
    go_enter Try.func4, Try.ntmps4
    go_wp2_with fail
    refine (awake_ok _).mono ?_
    rintro e w2 ⟨rfl, hm2⟩
    have HB2 := Lib.hid (HB.out.keep hm2)
    have HO2 := Lib.hid (HO.out.keep hm2)
    obtain ⟨c0, c1, c2, c3⟩ := HB2.out.bx.cells
    clear hm2 hw1
    go_wp2_with fail
    refine (light_ok _ x).mono ?_
    rintro e w3 ⟨rfl, hm3⟩
    have HB3 := Lib.hid (HB2.out.keep hm3)
    have HO3 := Lib.hid (HO2.out.keep hm3)
    clear hm3 c0 c1 c2 c3
    rw [hlt]
    have HMY := Lib.hid (l_may HB3.out L.out)
    rw [hmy] at HMY
    obtain ⟨c0, c1, c2, c3⟩ := HB3.out.bx.cells
    go_wp2_with fail
    refine HMY.out.mono ?_
    rintro e w4 ⟨rfl, hm4⟩
    have HB4 := Lib.hid (HB3.out.keep hm4)
    have HO4 := Lib.hid (HO3.out.keep hm4)
    clear hm4 c0 c1 c2 c3 HMY
    go_wp2
    go_ret
    exact ⟨rfl, HB4.out.old.below (Nat.le_refl _) (fun _ _ => id)⟩
  | true =>
  have Hmay := Lib.hid (mayB_iff.1 hmy)
  by_cases hz : doesE x.t y = 0
  rotate_left
  · have hE0 : (doesE x.t y == 0) = false := by simpa using hz
    have hE1 : (doesE x.t y != 0) = true := by simpa using hz
    have Hz := Lib.hid hz
    have HDA := Lib.hid (fun V (hV : Tbl W V W.heap.size x x.t) => l_does hV L.out y)
    clear hz
    generalize doesE x.t y = E at *
    go_enter Try.func4, Try.ntmps4
    go_wp2_with fail
    refine (awake_ok _).mono ?_
    rintro e w2 ⟨rfl, hm2⟩
    have HB2 := Lib.hid (HB.out.keep hm2)
    have HO2 := Lib.hid (HO.out.keep hm2)
    obtain ⟨c0, c1, c2, c3⟩ := HB2.out.bx.cells
    clear hm2 hw1
    go_wp2_with fail
    refine (light_ok _ x).mono ?_
    rintro e w3 ⟨rfl, hm3⟩
    have HB3 := Lib.hid (HB2.out.keep hm3)
    have HO3 := Lib.hid (HO2.out.keep hm3)
    clear hm3 c0 c1 c2 c3
    rw [hlt]
    have HMY := Lib.hid (l_may HB3.out L.out)
    rw [hmy] at HMY
    obtain ⟨c0, c1, c2, c3⟩ := HB3.out.bx.cells
    go_wp2_with fail
    refine HMY.out.mono ?_
    rintro e w4 ⟨rfl, hm4⟩
    have HB4 := Lib.hid (HB3.out.keep hm4)
    have HO4 := Lib.hid (HO3.out.keep hm4)
    clear hm4 c0 c1 c2 c3 HMY
    have HDO := Lib.hid (HDA.out _ HB4.out)
    obtain ⟨c0, c1, c2, c3⟩ := HB4.out.bx.cells
    obtain ⟨o0, o1, o2, o3, o4, o5, o6⟩ := HO4.out.cells
    rw [Nat.zero_add] at o1 o2 o3 o4 o5 o6
    go_wp2_with fail
    refine HDO.out.mono ?_
    rintro e w6 ⟨z, rfl, ha, ht, hm6⟩
    have HB6 := Lib.hid (HB4.out.keep hm6)
    have HO6 := Lib.hid (HO4.out.keep hm6)
    rw [if_neg Hz.out] at ht
    have HU6 := Lib.hid (Tbl.new (T := noTb) (HB6.out.old) ha ht)
    obtain ⟨v6, hv6⟩ : ∃ v6, w6.alloc (.cells #[.slice z.P z.n z.c, .slice z.S z.m z.d, .int .i64 z.t.sl, .int .i64 z.t.nw] 27) = v6 := ⟨_, rfl⟩
    rw [hv6] at HU6
    have hmv6 : Mod (fun _ => False) w6 v6 := by rw [← hv6]; exact (Mod.refl _ w6).alloc _
    have HB7 := Lib.hid (HB6.out.keep hmv6)
    have HO7 := Lib.hid (HO6.out.keep hmv6)
    clear hm6 c0 c1 c2 c3 o0 o1 o2 o3 o4 o5 o6 HDO ha ht hmv6
    have hyn : z.n = 0 := by rw [HU6.out.n]; rfl
    have hym : z.m = 0 := by rw [HU6.out.m]; rfl
    have hys : z.t.sl = 0 := by rw [HU6.out.t]; rfl
    have hyw : z.t.nw = 0 := by rw [HU6.out.t]; rfl
    obtain ⟨c0, c1, c2, c3⟩ := HU6.out.bx.cells
    rw [hyn] at c0
    rw [hym] at c1
    rw [hys] at c2
    rw [hyw] at c3
    clear hyn hym hys hyw
    go_wp2
    go_ret
    exact ⟨rfl, HB7.out.old.below (Nat.le_refl _) (fun _ _ => id)⟩
  have Hz := Lib.hid hz
  have HDm := Lib.hid (does_may hz Hmay.out)
  have hdl := does_len x.t y
  rw [Hpl.out, Hsl.out] at hdl
  have Hdl := Lib.hid hdl
  have Hdp := Lib.hid (fun j (hne : atS (doesT x.t y).pg j ≠ atS x.t.pg j) => does_page hz hne)
  have L2 : Hid ((doesT x.t y).pg.length ≤ 1000 ∧ (doesT x.t y).sg.length ≤ 1000) := by rw [Hdl.out.1, Hdl.out.2.1]; exact Lib.hid ⟨by omega, by omega⟩
  have Hmb : Hid (mayB (doesT x.t y) = true) := mayB_iff.2 HDm.out
  clear hdl hz
  go_enter Try.func4, Try.ntmps4
  go_wp2_with fail
  refine (awake_ok _).mono ?_
  rintro e w2 ⟨rfl, hm2⟩
  have HB2 := Lib.hid (HB.out.keep hm2)
  have HO2 := Lib.hid (HO.out.keep hm2)
  obtain ⟨c0, c1, c2, c3⟩ := HB2.out.bx.cells
  clear hm2 hw1
  go_wp2_with fail
  refine (light_ok _ x).mono ?_
  rintro e w3 ⟨rfl, hm3⟩
  have HB3 := Lib.hid (HB2.out.keep hm3)
  have HO3 := Lib.hid (HO2.out.keep hm3)
  clear hm3 c0 c1 c2 c3
  rw [hlt]
  have HMY := Lib.hid (l_may HB3.out L.out)
  rw [hmy] at HMY
  obtain ⟨c0, c1, c2, c3⟩ := HB3.out.bx.cells
  go_wp2_with fail
  refine HMY.out.mono ?_
  rintro e w4 ⟨rfl, hm4⟩
  have HB4 := Lib.hid (HB3.out.keep hm4)
  have HO4 := Lib.hid (HO3.out.keep hm4)
  clear hm4 c0 c1 c2 c3 HMY
  clear hmy hlt
  generalize hTT : doesT x.t y = T at *
  have HTT := Lib.hid hTT
  clear hTT
  have HDO := Lib.hid (l_does HB4.out L.out y)
  rw [Hz.out] at HDO
  obtain ⟨c0, c1, c2, c3⟩ := HB4.out.bx.cells
  obtain ⟨o0, o1, o2, o3, o4, o5, o6⟩ := HO4.out.cells
  rw [Nat.zero_add] at o1 o2 o3 o4 o5 o6
  go_wp2_with fail
  refine HDO.out.mono ?_
  rintro e w6 ⟨z, rfl, ha, ht, hm6⟩
  have HB6 := Lib.hid (HB4.out.keep hm6)
  have HO6 := Lib.hid (HO4.out.keep hm6)
  rw [if_pos rfl, HTT.out] at ht
  have HU6 := Lib.hid (Tbl.new (T := T) (HB6.out.old) ha ht)
  obtain ⟨v6, hv6⟩ : ∃ v6, w6.alloc (.cells #[.slice z.P z.n z.c, .slice z.S z.m z.d, .int .i64 z.t.sl, .int .i64 z.t.nw] 27) = v6 := ⟨_, rfl⟩
  rw [hv6] at HU6
  have hmv6 : Mod (fun _ => False) w6 v6 := by rw [← hv6]; exact (Mod.refl _ w6).alloc _
  have HB7 := Lib.hid (HB6.out.keep hmv6)
  have HO7 := Lib.hid (HO6.out.keep hmv6)
  clear hm6 c0 c1 c2 c3 o0 o1 o2 o3 o4 o5 o6 HDO ha ht hmv6
  have hzn : z.n = x.n := by rw [HU6.out.n, Hdl.out.1]
  have hzm : z.m = x.m := by rw [HU6.out.m, Hdl.out.2.1]
  have hzt : z.t.nw = T.nw := by rw [HU6.out.t]
  have Hzz := Lib.hid (And.intro hzn hzm)
  have hnw : x.t.nw ≤ z.t.nw := by rw [hzt]; exact Hdl.out.2.2
  have hnw2 : decide (z.t.nw < x.t.nw) = false := by rw [decide_eq_false_iff_not]; omega
  have HMU := Lib.hid (l_may HU6.out L2.out)
  rw [Hmb.out] at HMU
  obtain ⟨c0, c1, c2, c3⟩ := HU6.out.bx.cells
  rw [hzn] at c0 HMU
  rw [hzm] at c1 HMU
  clear hzn hzm hzt hnw
  go_wp2_with fail
  clear hv6 c0 c1 c2 c3
  refine HMU.out.mono ?_
  rintro e w8 ⟨rfl, hm8⟩
  have HB8 := Lib.hid (HB7.out.keep hm8)
  have HU8 := Lib.hid (HU6.out.keep hm8)
  have HO8 := Lib.hid (HO7.out.keep hm8)
  clear hm8 HMU
  have hub : ∀ V, Mod (fun _ => False) w8 V → V.cell? ⟨w6.heap.size, 0, none⟩ = some (.slice z.P x.n z.c) ∧ V.cell? ⟨w6.heap.size, 1, none⟩ = some (.slice z.S x.m z.d) ∧ V.cell? ⟨w6.heap.size, 2, none⟩ = some (.int .i64 z.t.sl) ∧ V.cell? ⟨w6.heap.size, 3, none⟩ = some (.int .i64 z.t.nw) := fun V hV => by
    have := (HU8.out.keep hV).bx.cells
    rw [Hzz.out.1, Hzz.out.2] at this
    exact this
  have Hub := Lib.hid hub
  clear hub
  obtain ⟨c0, c1, c2, c3⟩ := Hub.out w8 (Mod.refl _ _)
  obtain ⟨d0, d1, d2, d3⟩ := HB8.out.bx.cells
  go_wp2
  clear c0 c1 c2 c3 d0 d1 d2 d3 hnw2
  go_loopw [9] (fun k wr => ∃ j : Nat, j ≤ x.n ∧ k = .int .i64 j ∧ Mod (fun _ => False) w8 wr) (fun k _ => x.n - (intOf k).toNat)
  case atStart => exact ⟨0, Nat.zero_le _, rfl, Mod.refl _ _⟩
  case round =>
    obtain ⟨j, hj, rfl, hmr⟩ := hrel
    have Hmr := Lib.hid hmr
    have HBr := Lib.hid (HB8.out.keep hmr)
    have HUr := Lib.hid (HU8.out.keep hmr)
    have HOr := Lib.hid (HO8.out.keep hmr)
    obtain ⟨c0, c1, c2, c3⟩ := Hub.out _ hmr
    clear hmr
    obtain ⟨d0, d1, d2, d3⟩ := HBr.out.bx.cells
    by_cases hlt : j < x.n
    · obtain ⟨b, o, hP, hcs⟩ := HUr.out.at_.pg.cells (by rw [Hzz.out.1]; omega)
      obtain ⟨b', o', hP', hcs'⟩ := HBr.out.at_.pg.cells (by omega)
      have hs := hcs j (by rw [Hzz.out.1]; exact hlt)
      have hs' := hcs' j hlt
      rw [HUr.out.t] at hs
      have Hdj := Lib.hid (Hdp.out j)
      have heq : ∀ w, (Op.equalIn 10000 34 (.agg #[.int .i64 (atS T.pg j).a, .int .i64 (atS T.pg j).b, .int .i64 (atS T.pg j).c]) (.agg #[.int .i64 (atS x.t.pg j).a, .int .i64 (atS x.t.pg j).b, .int .i64 (atS x.t.pg j).c])).run Try.prog w = .ok (eqT (atS T.pg j) (atS x.t.pg j)) w := fun w => eq_pl (atS T.pg j) (atS x.t.pg j) w
      generalize atS T.pg j = s at *
      generalize atS x.t.pg j = s' at *
      obtain ⟨s0, s1, s2⟩ := hs
      obtain ⟨s0', s1', s2'⟩ := hs'
      rw [hP] at c0
      rw [hP'] at d0
      obtain ⟨o0, o1, o2, o3, o4, o5, o6⟩ := HOr.out.cells
      rw [Nat.zero_add] at o1
      have hji : (j : Int) < (x.n : Int) := by omega
      have hj0 : (0 : Int) ≤ (j : Int) := by omega
      clear hcs hcs' hP hP' o2 o3 o4 o5 o6
      by_cases he : s = s'
      · have hee : eqT s s' = true := eqT_iff.2 he
        rw [hee] at heq
        clear he hee
        go_wp2_with fail
        go_quiet (fail)
        go_wp2
        go_roundw
        case rel => exact ⟨j + 1, by omega, by go_num, Hmr.out.drewN _⟩
        case measure => simp [intOf]; omega
      · obtain ⟨hpj, hk⟩ := Hdj.out he
        rw [eqT_no he] at heq
        have hpd : ((j : Int) != y.page) = false := by simpa using hpj
        have hk1 : decide (1 < y.kind) = false := by rw [decide_eq_false_iff_not]; omega
        have hk0 : decide (y.kind < 0) = false := by rw [decide_eq_false_iff_not]; omega
        clear he hpj hk
        go_wp2_with fail
        go_quiet (fail)
        go_wp2
        go_roundw
        case rel => exact ⟨j + 1, by omega, by go_num, Hmr.out.drewN _⟩
        case measure => simp [intOf]; omega
    · obtain rfl : j = x.n := by omega
      go_wp2
      clear c0 c1 c2 c3 d0 d1 d2 d3
      go_loopw [10] (fun k wv => ∃ j : Nat, j ≤ x.m ∧ k = .int .i64 j ∧ Mod (fun _ => False) w8 wv) (fun k _ => x.m - (intOf k).toNat)
      case atStart => exact ⟨0, Nat.zero_le _, rfl, Hmr.out⟩
      case round =>
        obtain ⟨k, hk, rfl, hmv⟩ := hrel
        have Hmv := Lib.hid hmv
        have HBv := Lib.hid (HB8.out.keep hmv)
        have HUv := Lib.hid (HU8.out.keep hmv)
        obtain ⟨c0, c1, c2, c3⟩ := Hub.out _ hmv
        clear hmv
        by_cases hlt2 : k < x.m
        · obtain ⟨b, o, hS, hcs⟩ := HUv.out.at_.sg.cells (by rw [Hzz.out.2]; omega)
          have hs := hcs k (by rw [Hzz.out.2]; exact hlt2)
          rw [HUv.out.t] at hs
          have hkT : k < T.sg.length := by rw [Hdl.out.2.1]; exact hlt2
          have Hfl := Lib.hid (fun h0 => HDm.out.freeLive hkT h0)
          have HLV := Lib.hid (l_live HUv.out L2.out (k : Int))
          rw [liveI_in HDm.out hkT] at HLV
          rw [Hzz.out.1, Hzz.out.2] at HLV
          generalize hTk : atS T.sg k = s at *
          obtain ⟨s0, s1, s2⟩ := hs
          rw [hS] at c1 HLV
          have hki : (k : Int) < (x.m : Int) := by omega
          clear hcs hS s1 s2 hkT hTk
          by_cases h0 : s.a = 0
          · have hd : (s.a == 0) = true := by simpa using h0
            rw [Hfl.out h0] at HLV
            clear h0
            go_wp2_with fail
            refine HLV.out.mono ?_
            rintro e w9 ⟨rfl, hm9⟩
            have HM9 := Lib.hid (Hmv.out.trans hm9 (fun _ _ h => h))
            clear hm9 s0 c0 c1 c2 c3
            go_wp2
            go_roundw
            case rel => exact ⟨k + 1, by omega, by go_num, HM9.out⟩
            case measure => simp [intOf]; omega
          · have hd : (s.a == 0) = false := by simpa using h0
            clear h0
            go_wp2
            go_roundw
            case rel => exact ⟨k + 1, by omega, by go_num, Hmv.out⟩
            case measure => simp [intOf]; omega
        · obtain rfl : k = x.m := by omega
          go_wp2
          go_ret
          exact ⟨rfl, HBv.out.old.below (Nat.le_refl _) (fun _ _ => id)⟩
end Go.Proofs.Ytimkejjoggglpaa
