/-
  bobbinref10.Settle: the walk.
-/
import Derived.Test.YthbcgbbcoanbdaaRSettle
import Derived.StillTailTactics
namespace Go.Proofs.Ythbcgbbcoanbdaa
open Go Go.RowKit

set_option maxRecDepth 100000 in
set_option maxHeartbeats 3200000 in
theorem rsettle_ok (w : World) (x : TV) (h : x.At w) (ht : x.t.May) (op : Int) :
    Calls Try.prog 35 #[.agg #[.slice x.P x.n x.c, .slice x.S x.m x.d, .int .i64 x.t.sl, .int .i64 x.t.nw], .int .i64 op] w fun e w' => TbAns w w' 0 (setlT x.t op) e := by
  obtain ⟨w1, hw1⟩ : ∃ w1, (w.alloc (.cells #[.slice x.P x.n x.c, .slice x.S x.m x.d, .int .i64 x.t.sl, .int .i64 x.t.nw] 27)).alloc (.cells #[.slice none 0 0, .slice none 0 0, .int .i64 0, .int .i64 0] 27) = w1 := ⟨_, rfl⟩
  have hb : Bxs w w1 x := by
    rw [← hw1]
    refine ⟨(TBx.new w x).keep ((Mod.refl _ _).alloc _), ?_, ((Mod.refl _ w).alloc _).alloc _, by simp⟩
    have := TBx.new (w.alloc (.cells #[.slice x.P x.n x.c, .slice x.S x.m x.d, .int .i64 x.t.sl, .int .i64 x.t.nw] 27)) z0
    rw [World.size_alloc] at this
    exact this
  obtain ⟨c0, c1, c2, c3⟩ := hb.b1.cells
  have HB := Lib.hid hb
  have HX := Lib.hid (h.keep hb.old)
  have HMY := Lib.hid (rmay_ok w1 x HX.out ht)
  have HT0 := Lib.hid ht
  have Hpl : Hid (x.t.pg.length = x.n) := h.pg.len
  have Hsl : Hid (x.t.sg.length = x.m) := h.sg.len
  have hn0 : 1 ≤ x.n := by rw [← Hpl.out]; exact ht.p1
  have hn1 : x.n ≤ 1000 := by rw [← Hpl.out]; exact Nat.le_trans ht.p2 (by decide)
  have hm0 : 2 ≤ x.m := by rw [← Hsl.out]; exact ht.s1
  have hm1 : x.m ≤ 1000 := by rw [← Hsl.out]; exact Nat.le_trans ht.s2 (by decide)
  clear hb h
  have HT : Hid (setlT x.t op = ⟨x.t.pg, part x.t op x.m, x.t.sl, x.t.nw⟩) := by rw [← Hsl.out, part_all]; exact Lib.hid rfl
  clear ht
  go_enter Try.func35, Try.ntmps35
  go_wp2_with fail
  refine HMY.out.mono ?_
  rintro e w2 ⟨rfl, hm2⟩
  have HB2 := Lib.hid (HB.out.keep hm2)
  have HX2 := Lib.hid (HX.out.keep hm2)
  obtain ⟨d0, d1, d2, d3⟩ := HB2.out.b1.cells
  clear hm2 hw1 c0 c1 c2 c3
  have hst : St w (w2.alloc (.cells #[.slice x.P x.n x.c, .slice x.S x.m x.d, .int .i64 x.t.sl, .int .i64 x.t.nw] 27)) w2.heap.size x x (⟨x.t.pg, part x.t op 0, x.t.sl, x.t.nw⟩ : Tb) :=
    ⟨HB2.out.keep ((Mod.refl _ _).alloc _), HX2.out.keep ((Mod.refl _ _).alloc _), Tbl.new HB2.out.old HX2.out (by rw [part_zero]), HB2.out.sz⟩
  obtain ⟨b, hb⟩ : ∃ b, w2.heap.size = b := ⟨_, rfl⟩
  rw [hb] at hst
  obtain ⟨w3, hw3⟩ : ∃ w3, w2.alloc (.cells #[.slice x.P x.n x.c, .slice x.S x.m x.d, .int .i64 x.t.sl, .int .i64 x.t.nw] 27) = w3 := ⟨_, rfl⟩
  rw [hw3] at hst
  obtain ⟨e0, e1, e2, e3⟩ := hst.bx.b1.cells
  have HS3 := Lib.hid hst
  clear hst
  go_wp2
  clear hw3 d0 d1 d2 d3 e0 e1 e2 e3 HB2 HX2
  go_loopw [8] (fun i wr => ∃ (j : Nat) (y : TV), j ≤ x.m ∧ i = .int .i64 j ∧ St w wr b x y (⟨x.t.pg, part x.t op j, x.t.sl, x.t.nw⟩ : Tb)) (fun i _ => x.m - (intOf i).toNat)
  case atStart => exact ⟨0, x, Nat.zero_le _, rfl, HS3.out⟩
  case round =>
    obtain ⟨j, y, hj, rfl, hst⟩ := hrel
    have HS := Lib.hid hst
    obtain ⟨d0, d1, d2, d3⟩ := hst.bx.b1.cells
    clear hst HS3
    by_cases hlt : j < x.m
    · have hjI : (j : Int) < (x.m : Int) := by omega
      have hj0 : (0 : Int) ≤ (j : Int) := by omega
      have hyn : y.n = x.n := by rw [HS.out.n]; exact Hpl.out
      have hym : y.m = x.m := by rw [HS.out.m]; show (part x.t op j).length = _; rw [part_len]; exact Hsl.out
      have HYN := Lib.hid hyn
      have HYM := Lib.hid hym
      clear hyn hym
      have hr4 : RBx (wr.alloc (.cells #[.int .i64 0, .int .i64 0, .int .i64 0] 45)) wr.heap.size 45 noT := RBx.new wr 45 noT
      have hm4 : Mod (fun _ => False) wr (wr.alloc (.cells #[.int .i64 0, .int .i64 0, .int .i64 0] 45)) := (Mod.refl _ wr).alloc _
      have HR4 := Lib.hid hr4
      have HM4 := Lib.hid hm4
      have HS4 := Lib.hid (HS.out.keep hm4)
      obtain ⟨e0, e1, e2, e3⟩ := HS4.out.bx.b1.cells
      have HLV := Lib.hid (rlive_ok (wr.alloc (.cells #[.int .i64 0, .int .i64 0, .int .i64 0] 45)) x HS4.out.at_ hn1 (j : Int) (by omega))
      have HTZ : Hid (topN x.t j x.n = 0 ↔ cnt (lvF (j : Int) x.t) x.n = 0) := by rw [← Hpl.out]; exact Lib.hid (top_zero HT0.out j)
      clear hr4 hm4
      generalize cnt (lvF (j : Int) x.t) x.n = q at *
      by_cases hq0 : q = 0
      · have Hp : Hid (stlT x.t op j = noT) := by unfold stlT; rw [Hpl.out, if_pos (HTZ.out.2 hq0)]; exact Lib.hid rfl
        subst hq0
        go_wp2_with fail
        refine HLV.out.mono ?_
        rintro e w5 ⟨rfl, hm5⟩
        have HS5 := Lib.hid (HS4.out.keep hm5)
        have HR5 := Lib.hid (HR4.out.keep hm5)
        clear hm5 d0 d1 d2 d3 e0 e1 e2 e3 HLV HTZ
        have HW := Lib.hid (rwith_s w5 y HS5.out.out.at_ (by rw [HYN.out]; exact hn1) (by rw [HYM.out]; exact hm1) (by rw [HYN.out]; omega) (by rw [HYM.out]; omega) j (by rw [HYM.out]; exact hlt) noT noT)
        obtain ⟨y0, y1, y2, y3⟩ := HS5.out.out.bx.cells
        obtain ⟨t0, t1, t2⟩ := HR5.out.cells
        have hwr := (HS5.out).bx.sz
        go_wp2_with fail
        refine HW.out.mono ?_
        rintro e w8 ⟨y', rfl, hy, hyt, hm8⟩
        have HS8 := Lib.hid (HS5.out.keep hm8)
        have Hput := Lib.hid (HS8.out.put hy (T' := (⟨x.t.pg, part x.t op (j + 1), x.t.sl, x.t.nw⟩ : Tb)) (by rw [hyt, part_succ (by rw [Hsl.out]; exact hlt), Hp.out, HS5.out.out.t]))
        have fy0 := HS8.out.out.bx.frozen 0
        have fy1 := HS8.out.out.bx.frozen 1
        have fy2 := HS8.out.out.bx.frozen 2
        have fy3 := HS8.out.out.bx.frozen 3
        clear y0 y1 y2 y3 t0 t1 t2 hm8 hy hyt HW
        obtain ⟨y0, y1, y2, y3⟩ := HS8.out.out.bx.cells
        unfold stT at Hput
        go_wp2
        go_roundw
        case rel => exact ⟨j + 1, y', by omega, by go_num, Hput.out⟩
        case measure => simp [intOf]; omega
      · have hqp : 0 < q := by omega
        have hdl : decide ((0 : Int) < (q : Int)) = true := by rw [decide_eq_true_eq]; omega
        have htz : topN x.t j x.n ≠ 0 := fun e => hq0 (HTZ.out.1 e)
        have hls : 1 ≤ topN x.t j x.n ∧ topN x.t j x.n ≤ x.t.sl := by
          have h1 := live_seg HT0.out (i := j) (by rw [Hpl.out]; exact htz)
          rw [Hpl.out] at h1
          exact ⟨h1.2.1, h1.2.2.1⟩
        have HLS := Lib.hid hls
        have Hstl : Hid (stlT x.t op j = if (j : Int) = op then fillT x.t.sl (topN x.t j x.n) (atS x.t.sg j).c else fillT x.t.sl x.t.sl (atS x.t.sg j).c) := by unfold stlT; rw [Hpl.out, if_neg htz]; exact Lib.hid rfl
        clear hq0 htz hls HTZ
        go_wp2_with fail
        refine HLV.out.mono ?_
        rintro e w5 ⟨rfl, hm5⟩
        have HS5 := Lib.hid (HS4.out.keep hm5)
        have HR5 := Lib.hid (HR4.out.keep hm5)
        have HM5 := Lib.hid (HM4.out.trans hm5 (fun _ _ h => h))
        clear hm5 d0 d1 d2 d3 e0 e1 e2 e3 HLV
        obtain ⟨bs, os, hS, hcs⟩ := HS5.out.at_.sg.cells (by omega)
        generalize hT : atS x.t.sg j = v at *
        have HIg : Hid (∀ W, Mod (fun _ => False) wr W → (fun W : World => (W.cell? ⟨w.heap.size, 0, none⟩ = some (.slice x.P x.n x.c) ∧ W.cell? ⟨w.heap.size, 1, none⟩ = some (.slice (some ⟨bs, os, none⟩) x.m x.d) ∧ W.cell? ⟨w.heap.size, 2, none⟩ = some (.int .i64 x.t.sl) ∧ W.cell? ⟨w.heap.size, 3, none⟩ = some (.int .i64 x.t.nw)) ∧ W.cell? ⟨bs, os + j * 3 + 2, none⟩ = some (.int .i64 v.c)) W) := Lib.hid (fun W hW => by
          have hb1 := (HS.out.keep hW).bx.b1.cells
          rw [hS] at hb1
          obtain ⟨b', o', hS', hcs2⟩ := (HS.out.keep hW).at_.sg.cells (by omega)
          rw [hS] at hS'
          injection hS' with hS'
          injection hS' with h1 h2 _
          have h3 := hcs2 j hlt
          rw [hT, ← h1, ← h2] at h3
          exact ⟨hb1, h3.2.2⟩)
        have HXS := Lib.hid hS
        obtain ⟨d0, d1, d2, d3⟩ := HS5.out.bx.b1.cells
        rw [hS] at d1
        have hrd := HR5.out.keep ((Mod.refl (fun _ => False) w5).drew)
        obtain ⟨r0, r1, r2⟩ := hrd.cells
        have rf0 := hrd.frozen 0
        have rf1 := hrd.frozen 1
        have rf2 := hrd.frozen 2
        have hr6 : RBx (((w5.drew.setCell ⟨wr.heap.size, 0, none⟩ (.int .i64 2)).setCell ⟨wr.heap.size, 1, none⟩ (.int .i64 x.t.sl)).setCell ⟨wr.heap.size, 2, none⟩ (.int .i64 v.c)) wr.heap.size 45 ⟨2, x.t.sl, v.c⟩ := heap_set (heap_set (heap_set hrd 0 _) 1 _) 2 _
        have hm6 : Mod (fun _ => False) wr (((w5.drew.setCell ⟨wr.heap.size, 0, none⟩ (.int .i64 2)).setCell ⟨wr.heap.size, 1, none⟩ (.int .i64 x.t.sl)).setCell ⟨wr.heap.size, 2, none⟩ (.int .i64 v.c)) := (((((HM5.out.drew).mono (G := fun k => k = wr.heap.size) (fun _ _ h => h.elim)).one (fun _ => rfl) 0 _).one (fun _ => rfl) 1 _).one (fun _ => rfl) 2 _).mono (fun k hk e => by omega)
        clear hcs hS hrd hT
        have hI5 := HIg.out _ HM5.out.drew
        clear d0 d1 d2 d3 HIg
        obtain ⟨⟨d0, d1, d2, d3⟩, s2⟩ := hI5
        go_wp2_with fail
        go_still_tail 9, (by kernel_rfl)
        change wpList _ _ _ _ _ w5.drew
        have HR6 := Lib.hid hr6
        have HM6 := Lib.hid hm6
        clear hr6 hm6 HS5 HR5 HM5
        generalize w5.drew = wd at *
        obtain ⟨w6, hw6⟩ : ∃ w6, (((wd.setCell ⟨wr.heap.size, 0, none⟩ (.int .i64 2)).setCell ⟨wr.heap.size, 1, none⟩ (.int .i64 x.t.sl)).setCell ⟨wr.heap.size, 2, none⟩ (.int .i64 v.c)) = w6 := ⟨_, rfl⟩
        rw [hw6] at HR6 HM6
        have HS6 := Lib.hid (HS.out.keep HM6.out)
        go_wp2
        clear d0 d1 d2 d3 s2 r0 r1 r2 rf0 rf1 rf2 hw6
        obtain ⟨wo, rfl⟩ : ∃ wo, wo = wr := ⟨_, rfl⟩
        go_loopw [10, 11] (fun u i wv => ∃ k : Nat, k ≤ x.n ∧ i = .int .i64 k ∧ u = .int .i64 (topN x.t j k) ∧ Mod (fun _ => False) w6 wv) (fun _ i _ => x.n - (intOf i).toNat)
        case atStart => exact ⟨0, Nat.zero_le _, rfl, rfl, Mod.refl _ _⟩
        case round =>
          obtain ⟨k, hk, rfl, rfl, hmv⟩ := hrel
          have HMv := Lib.hid hmv
          have HSv := Lib.hid (HS6.out.keep hmv)
          have HRv := Lib.hid (HR6.out.keep hmv)
          clear hmv
          obtain ⟨d0, d1, d2, d3⟩ := HSv.out.bx.b1.cells
          by_cases hlt2 : k < x.n
          · have hkI : (k : Int) < (x.n : Int) := by omega
            have hk0 : (0 : Int) ≤ (k : Int) := by omega
            obtain ⟨bp, op2, hP, hcp⟩ := HSv.out.at_.pg.cells (by omega)
            obtain ⟨p0, p1, p2⟩ := hcp k hlt2
            have Hsm := Lib.hid (fun h0 => HT0.out.slots k (by rw [Hpl.out]; exact hlt2) h0)
            have Hty := Lib.hid (topN_yes (t := x.t) (seg := (j : Int)) (j := k))
            have Htn := Lib.hid (topN_no (t := x.t) (seg := (j : Int)) (j := k))
            generalize hT : atS x.t.pg k = v2 at *
            generalize hTk : topN x.t j k = U at *
            rw [hP] at d0
            clear hcp hT hTk p2 hP
            by_cases ha : v2.a = (j : Int)
            rotate_left
            · have hda : (v2.a == (j : Int)) = false := by simpa using ha
              have Hn : Hid (topN x.t j (k + 1) = U) := Lib.hid (Htn.out ha)
              clear ha Hty Htn
              go_wp2
              go_roundw
              case rel => exact ⟨k + 1, by omega, by go_num, by rw [Hn.out], HMv.out⟩
              case measure => simp [intOf]; omega
            have hda : (v2.a == (j : Int)) = true := by simpa using ha
            have hsm := Hsm.out (by rw [ha]; omega)
            have Hy := Lib.hid (Hty.out ha)
            have hwb : IntKind.i64.wrap (v2.b + 1) = v2.b + 1 := by rw [IntKind.wrap_i64]; omega
            by_cases hu : U ≤ v2.b
            · have Hn : Hid (topN x.t j (k + 1) = v2.b + 1) := by rw [Hy.out]; exact Lib.hid (by omega)
              clear ha Hty Htn Hy hsm
              go_wp2
              go_roundw
              case rel => exact ⟨k + 1, by omega, by go_num, by rw [Hn.out], HMv.out⟩
              case measure => simp [intOf]; omega
            · have Hn : Hid (topN x.t j (k + 1) = U) := by rw [Hy.out]; exact Lib.hid (by omega)
              have hdu : decide (U ≤ v2.b) = false := by rw [decide_eq_false_iff_not]; exact hu
              clear ha Hty Htn Hy hsm
              go_wp2
              go_roundw
              case rel => exact ⟨k + 1, by omega, by go_num, by rw [Hn.out], HMv.out⟩
              case measure => simp [intOf]; omega
          · obtain rfl : k = x.n := by omega
            generalize topN x.t j x.n = U at *
            obtain ⟨hl1, hl2⟩ := HLS.out
            have HMo := Lib.hid (HM6.out.trans HMv.out (fun _ _ h => h))
            by_cases hop : (j : Int) = op
            rotate_left
            · have hdo : ((j : Int) == op) = false := by simpa using hop
              have Hp : Hid (stlT x.t op j = ⟨2, x.t.sl, v.c⟩) := by rw [Hstl.out, if_neg hop]; unfold fillT; rw [if_pos rfl]; exact Lib.hid rfl
              clear hop Hstl
              have HW := Lib.hid (rwith_s wr y HSv.out.out.at_ (by rw [HYN.out]; exact hn1) (by rw [HYM.out]; exact hm1) (by rw [HYN.out]; omega) (by rw [HYM.out]; omega) j (by rw [HYM.out]; exact hlt) noT ⟨2, x.t.sl, v.c⟩)
              obtain ⟨y0, y1, y2, y3⟩ := HSv.out.out.bx.cells
              obtain ⟨t0, t1, t2⟩ := HRv.out.cells
              have hwr := (HSv.out).bx.sz
              go_wp2_with fail
              refine HW.out.mono ?_
              rintro e w8 ⟨y', rfl, hy, hyt, hm8⟩
              have HS8 := Lib.hid (HSv.out.keep hm8)
              have Hput := Lib.hid (HS8.out.put hy (T' := (⟨x.t.pg, part x.t op (j + 1), x.t.sl, x.t.nw⟩ : Tb)) (by rw [hyt, part_succ (by rw [Hsl.out]; exact hlt), Hp.out, HSv.out.out.t]))
              have fy0 := HS8.out.out.bx.frozen 0
              have fy1 := HS8.out.out.bx.frozen 1
              have fy2 := HS8.out.out.bx.frozen 2
              have fy3 := HS8.out.out.bx.frozen 3
              clear y0 y1 y2 y3 t0 t1 t2 hm8 hy hyt HW
              obtain ⟨y0, y1, y2, y3⟩ := HS8.out.out.bx.cells
              unfold stT at Hput
              go_wp2
              go_roundw
              case rel => exact ⟨j + 1, y', by omega, by go_num, Hput.out⟩
              case measure => simp [intOf]; omega
            have hdo : ((j : Int) == op) = true := by simpa using hop
            by_cases huu : U < x.t.sl
            rotate_left
            · have hdu : decide (U < x.t.sl) = false := by rw [decide_eq_false_iff_not]; exact huu
              have hue : U = x.t.sl := by omega
              have Hp : Hid (stlT x.t op j = ⟨2, x.t.sl, v.c⟩) := by rw [Hstl.out, if_pos hop, hue]; unfold fillT; rw [if_pos rfl]; exact Lib.hid rfl
              clear hop Hstl hue hl1 hl2
              have HW := Lib.hid (rwith_s wr y HSv.out.out.at_ (by rw [HYN.out]; exact hn1) (by rw [HYM.out]; exact hm1) (by rw [HYN.out]; omega) (by rw [HYM.out]; omega) j (by rw [HYM.out]; exact hlt) noT ⟨2, x.t.sl, v.c⟩)
              obtain ⟨y0, y1, y2, y3⟩ := HSv.out.out.bx.cells
              obtain ⟨t0, t1, t2⟩ := HRv.out.cells
              have hwr := (HSv.out).bx.sz
              go_wp2_with fail
              refine HW.out.mono ?_
              rintro e w8 ⟨y', rfl, hy, hyt, hm8⟩
              have HS8 := Lib.hid (HSv.out.keep hm8)
              have Hput := Lib.hid (HS8.out.put hy (T' := (⟨x.t.pg, part x.t op (j + 1), x.t.sl, x.t.nw⟩ : Tb)) (by rw [hyt, part_succ (by rw [Hsl.out]; exact hlt), Hp.out, HSv.out.out.t]))
              have fy0 := HS8.out.out.bx.frozen 0
              have fy1 := HS8.out.out.bx.frozen 1
              have fy2 := HS8.out.out.bx.frozen 2
              have fy3 := HS8.out.out.bx.frozen 3
              clear y0 y1 y2 y3 t0 t1 t2 hm8 hy hyt HW
              obtain ⟨y0, y1, y2, y3⟩ := HS8.out.out.bx.cells
              unfold stT at Hput
              go_wp2
              go_roundw
              case rel => exact ⟨j + 1, y', by omega, by go_num, Hput.out⟩
              case measure => simp [intOf]; omega
            have hdu : decide (U < x.t.sl) = true := by rw [decide_eq_true_eq]; exact huu
            have Hp : Hid (stlT x.t op j = ⟨1, U, v.c⟩) := by rw [Hstl.out, if_pos hop]; unfold fillT; rw [if_neg (by omega)]; exact Lib.hid rfl
            clear hop Hstl hl1 hl2
            obtain ⟨r0, r1, r2⟩ := HRv.out.cells
            have rf0 := HRv.out.frozen 0
            have rf1 := HRv.out.frozen 1
            have hr7 : RBx ((wr.setCell ⟨wo.heap.size, 0, none⟩ (.int .i64 1)).setCell ⟨wo.heap.size, 1, none⟩ (.int .i64 U)) wo.heap.size 45 ⟨1, U, v.c⟩ := heap_set (heap_set HRv.out 0 _) 1 _
            have hm7 : Mod (fun _ => False) wo ((wr.setCell ⟨wo.heap.size, 0, none⟩ (.int .i64 1)).setCell ⟨wo.heap.size, 1, none⟩ (.int .i64 U)) := ((((HMo.out).mono (G := fun k => k = wo.heap.size) (fun _ _ h => h.elim)).one (fun _ => rfl) 0 _).one (fun _ => rfl) 1 _).mono (fun k hk e => by omega)
            obtain ⟨w7, hw7⟩ : ∃ w7, (wr.setCell ⟨wo.heap.size, 0, none⟩ (.int .i64 1)).setCell ⟨wo.heap.size, 1, none⟩ (.int .i64 U) = w7 := ⟨_, rfl⟩
            rw [hw7] at hr7 hm7
            have HR7 := Lib.hid hr7
            have HS7 := Lib.hid (HS.out.keep hm7)
            clear hr7 hm7
            have HW := Lib.hid (rwith_s w7 y HS7.out.out.at_ (by rw [HYN.out]; exact hn1) (by rw [HYM.out]; exact hm1) (by rw [HYN.out]; omega) (by rw [HYM.out]; omega) j (by rw [HYM.out]; exact hlt) noT ⟨1, U, v.c⟩)
            obtain ⟨y0, y1, y2, y3⟩ := HS7.out.out.bx.cells
            obtain ⟨t0, t1, t2⟩ := HR7.out.cells
            have hwr := (HS7.out).bx.sz
            go_wp2_with fail
            refine HW.out.mono ?_
            rintro e w8 ⟨y', rfl, hy, hyt, hm8⟩
            have HS8 := Lib.hid (HS7.out.keep hm8)
            have Hput := Lib.hid (HS8.out.put hy (T' := (⟨x.t.pg, part x.t op (j + 1), x.t.sl, x.t.nw⟩ : Tb)) (by rw [hyt, part_succ (by rw [Hsl.out]; exact hlt), Hp.out, HS7.out.out.t]))
            have fy0 := HS8.out.out.bx.frozen 0
            have fy1 := HS8.out.out.bx.frozen 1
            have fy2 := HS8.out.out.bx.frozen 2
            have fy3 := HS8.out.out.bx.frozen 3
            clear y0 y1 y2 y3 t0 t1 t2 hm8 hy hyt HW
            obtain ⟨y0, y1, y2, y3⟩ := HS8.out.out.bx.cells
            unfold stT at Hput
            go_wp2
            go_roundw
            case rel => exact ⟨j + 1, y', by omega, by go_num, Hput.out⟩
            case measure => simp [intOf]; omega
    · obtain rfl : j = x.m := by omega
      have hy := HS.out.out.at_
      have hyt := HS.out.out.t
      have HB9 : Hid (Bxs w wr x) := Lib.hid HS.out.bx
      obtain ⟨y0, y1, y2, y3⟩ := HS.out.out.bx.cells
      have fz0 := HB9.out.b2.frozen 0
      have fz1 := HB9.out.b2.frozen 1
      have fz2 := HB9.out.b2.frozen 2
      have fz3 := HB9.out.b2.frozen 3
      obtain ⟨z0c, z1c, z2c, z3c⟩ := HB9.out.b2.cells
      have hfin := HB9.out.res hy
      obtain ⟨wf, hwf⟩ : ∃ wf, stT wr (w.heap.size + 1) y = wf := ⟨_, rfl⟩
      rw [hwf] at hfin
      unfold stT at hwf
      have Hfin := Lib.hid hfin
      have Hyt := Lib.hid hyt
      clear hfin hy hyt
      go_wp2
      clear hwf fz0 fz1 fz2 fz3 z0c z1c z2c z3c
      obtain ⟨q0, q1, q2, q3⟩ := Hfin.out.2.1.cells
      refine bodyPost_ret (v := .tuple #[.agg #[.slice y.P y.n y.c, .slice y.S y.m y.d, .int .i64 y.t.sl, .int .i64 y.t.nw], .int .i64 0]) (by simp [results, Try.results35, go_sem, q0, q1, q2, q3]) rfl ?_
      exact ⟨y, rfl, Hfin.out.1, by rw [if_pos rfl, HT.out, Hyt.out], Hfin.out.2.2⟩
end Go.Proofs.Ythbcgbbcoanbdaa
