/-
  bobbinref10.Free, of a table that may be.
-/
import Derived.Test.YthbcgbbcoanbdaaTLaw
import Derived.Test.YthbcgbbcoanbdaaRNext
import Derived.Test.YthbcgbbcoanbdaaRWith
namespace Go.Proofs.Ythbcgbbcoanbdaa
open Go Go.RowKit

/-- The result's box takes a table that lies anywhere. -/
theorem Bxs.res {w W : World} {x y : TV} (h : Bxs w W x) (hy : y.At W) :
    y.At (stT W (w.heap.size + 1) y) ∧ TBx (stT W (w.heap.size + 1) y) (w.heap.size + 1) y ∧ Mod (fun _ => False) w (stT W (w.heap.size + 1) y) :=
  ⟨hy.store h.b2 (stT_mod W _ y), h.b2.set y, h.old1 (stT_mod W _ y) (fun k hk e => by omega)⟩

set_option maxRecDepth 100000 in
set_option maxHeartbeats 3200000 in
theorem rfree_ok (w : World) (x : TV) (h : x.At w) (ht : x.t.May) (seg : Int) :
    Calls Try.prog 34 #[.agg #[.slice x.P x.n x.c, .slice x.S x.m x.d, .int .i64 x.t.sl, .int .i64 x.t.nw], .int .i64 seg] w fun e w' => TbAns w w' (freeE x.t seg) (freeT x.t seg) e := by
  obtain ⟨w1, hw1⟩ : ∃ w1, (w.alloc (.cells #[.slice x.P x.n x.c, .slice x.S x.m x.d, .int .i64 x.t.sl, .int .i64 x.t.nw] 27)).alloc (.cells #[.slice none 0 0, .slice none 0 0, .int .i64 0, .int .i64 0] 27) = w1 := ⟨_, rfl⟩
  have hb : Bxs w w1 x := by
    rw [← hw1]
    refine ⟨(TBx.new w x).keep ((Mod.refl _ _).alloc _), ?_, ((Mod.refl _ w).alloc _).alloc _, by simp⟩
    have := TBx.new (w.alloc (.cells #[.slice x.P x.n x.c, .slice x.S x.m x.d, .int .i64 x.t.sl, .int .i64 x.t.nw] 27)) z0
    rw [World.size_alloc] at this
    exact this
  obtain ⟨c0, c1, c2, c3⟩ := hb.b1.cells
  have HB := Lib.hid hb
  have HX := Lib.hid (h.keep hb.old)
  have HMY := Lib.hid (rmay_ok w1 x HX.out ht)
  have HT0 := Lib.hid ht
  have Hpl : Hid (x.t.pg.length = x.n) := h.pg.len
  have Hsl : Hid (x.t.sg.length = x.m) := h.sg.len
  have hn0 : 1 ≤ x.n := by rw [← Hpl.out]; exact ht.p1
  have hn1 : x.n ≤ 1000 := by rw [← Hpl.out]; exact Nat.le_trans ht.p2 (by decide)
  have hm0 : 2 ≤ x.m := by rw [← Hsl.out]; exact ht.s1
  have hm1 : x.m ≤ 1000 := by rw [← Hsl.out]; exact Nat.le_trans ht.s2 (by decide)
  clear hb h
  have HE : Hid (freeE x.t seg = if inB seg 0 ((x.m : Int) - 1) then (if (atS x.t.sg seg.toNat).a = 2 ∧ cnt (lvF seg x.t) x.n = 0 then 0 else 5) else 1) := by rw [← Hpl.out, ← Hsl.out]; unfold freeE; rw [mayB_iff.2 ht, Bool.true_and]; exact Lib.hid rfl
  clear ht
  by_cases h0 : seg < 0
  · have He1 : freeE x.t seg = 1 := by rw [HE.out, if_neg (fun e => by have := inB_iff.1 e; omega)]
    rw [He1]
    clear He1 HE
    go_enter Try.func34, Try.ntmps34
    go_wp2_with fail
    refine HMY.out.mono ?_
    rintro e w2 ⟨rfl, hm2⟩
    have HB2 := Lib.hid (HB.out.keep hm2)
    have HX2 := Lib.hid (HX.out.keep hm2)
    obtain ⟨d0, d1, d2, d3⟩ := HB2.out.b1.cells
    clear hm2 hw1 c0 c1 c2 c3
    clear d0 d2 d3
    have fz0 := (HB2.out).b2.frozen 0
    have fz1 := (HB2.out).b2.frozen 1
    have fz2 := (HB2.out).b2.frozen 2
    have fz3 := (HB2.out).b2.frozen 3
    obtain ⟨z0c, z1c, z2c, z3c⟩ := (HB2.out).b2.cells
    have herr := (HB2.out).err
    obtain ⟨wf, hwf⟩ : ∃ wf, stT w2 (w.heap.size + 1) z0 = wf := ⟨_, rfl⟩
    rw [hwf] at herr
    unfold stT at hwf
    have Herr := Lib.hid herr
    have hwf : ((((w2).setCell ⟨w.heap.size + 1, 0, none⟩ (.slice none 0 0)).setCell ⟨w.heap.size + 1, 1, none⟩ (.slice none 0 0)).setCell ⟨w.heap.size + 1, 2, none⟩ (.int .i64 0)).setCell ⟨w.heap.size + 1, 3, none⟩ (.int .i64 0) = wf := hwf
    clear herr
    go_wp2
    clear hwf fz0 fz1 fz2 fz3 z0c z1c z2c z3c
    have q0 : wf.cell? ⟨w.heap.size + 1, 0, none⟩ = some (.slice none 0 0) := Herr.out.1.cells.1
    have q1 : wf.cell? ⟨w.heap.size + 1, 1, none⟩ = some (.slice none 0 0) := Herr.out.1.cells.2.1
    have q2 : wf.cell? ⟨w.heap.size + 1, 2, none⟩ = some (.int .i64 0) := Herr.out.1.cells.2.2.1
    have q3 : wf.cell? ⟨w.heap.size + 1, 3, none⟩ = some (.int .i64 0) := Herr.out.1.cells.2.2.2
    refine bodyPost_ret (v := .tuple #[.agg #[.slice none 0 0, .slice none 0 0, .int .i64 0, .int .i64 0], .int .i64 1]) (by simp [results, Try.results34, go_sem, q0, q1, q2, q3]) rfl ?_
    exact ⟨z0, rfl, z0_at _, rfl, Herr.out.2⟩
  by_cases h1 : (x.m : Int) ≤ seg
  · have He1 : freeE x.t seg = 1 := by rw [HE.out, if_neg (fun e => by have := inB_iff.1 e; omega)]
    rw [He1]
    clear He1 HE
    go_enter Try.func34, Try.ntmps34
    go_wp2_with fail
    refine HMY.out.mono ?_
    rintro e w2 ⟨rfl, hm2⟩
    have HB2 := Lib.hid (HB.out.keep hm2)
    have HX2 := Lib.hid (HX.out.keep hm2)
    obtain ⟨d0, d1, d2, d3⟩ := HB2.out.b1.cells
    clear hm2 hw1 c0 c1 c2 c3
    clear d0 d2 d3
    have fz0 := (HB2.out).b2.frozen 0
    have fz1 := (HB2.out).b2.frozen 1
    have fz2 := (HB2.out).b2.frozen 2
    have fz3 := (HB2.out).b2.frozen 3
    obtain ⟨z0c, z1c, z2c, z3c⟩ := (HB2.out).b2.cells
    have herr := (HB2.out).err
    obtain ⟨wf, hwf⟩ : ∃ wf, stT w2 (w.heap.size + 1) z0 = wf := ⟨_, rfl⟩
    rw [hwf] at herr
    unfold stT at hwf
    have Herr := Lib.hid herr
    have hwf : ((((w2).setCell ⟨w.heap.size + 1, 0, none⟩ (.slice none 0 0)).setCell ⟨w.heap.size + 1, 1, none⟩ (.slice none 0 0)).setCell ⟨w.heap.size + 1, 2, none⟩ (.int .i64 0)).setCell ⟨w.heap.size + 1, 3, none⟩ (.int .i64 0) = wf := hwf
    clear herr
    go_wp2
    clear hwf fz0 fz1 fz2 fz3 z0c z1c z2c z3c
    have q0 : wf.cell? ⟨w.heap.size + 1, 0, none⟩ = some (.slice none 0 0) := Herr.out.1.cells.1
    have q1 : wf.cell? ⟨w.heap.size + 1, 1, none⟩ = some (.slice none 0 0) := Herr.out.1.cells.2.1
    have q2 : wf.cell? ⟨w.heap.size + 1, 2, none⟩ = some (.int .i64 0) := Herr.out.1.cells.2.2.1
    have q3 : wf.cell? ⟨w.heap.size + 1, 3, none⟩ = some (.int .i64 0) := Herr.out.1.cells.2.2.2
    refine bodyPost_ret (v := .tuple #[.agg #[.slice none 0 0, .slice none 0 0, .int .i64 0, .int .i64 0], .int .i64 1]) (by simp [results, Try.results34, go_sem, q0, q1, q2, q3]) rfl ?_
    exact ⟨z0, rfl, z0_at _, rfl, Herr.out.2⟩
  obtain ⟨i, rfl⟩ : ∃ i : Nat, seg = i := ⟨seg.toNat, by omega⟩
  have hi : i < x.m := by omega
  have hiI : (i : Int) < (x.m : Int) := by omega
  rw [if_pos (inB_iff.2 ⟨by omega, by omega⟩), Int.toNat_natCast] at HE
  generalize hq : cnt (lvF (i : Int) x.t) x.n = q at *
  by_cases h2 : (atS x.t.sg i).a = 2
  rotate_left
  · have He1 : freeE x.t i = 5 := by rw [HE.out, if_neg (fun e => h2 e.1)]
    rw [He1]
    have hd : ((atS x.t.sg i).a != 2) = true := by simpa using h2
    clear h2 He1 HE
    go_enter Try.func34, Try.ntmps34
    go_wp2_with fail
    refine HMY.out.mono ?_
    rintro e w2 ⟨rfl, hm2⟩
    have HB2 := Lib.hid (HB.out.keep hm2)
    have HX2 := Lib.hid (HX.out.keep hm2)
    obtain ⟨d0, d1, d2, d3⟩ := HB2.out.b1.cells
    clear hm2 hw1 c0 c1 c2 c3
    obtain ⟨b, o, hS, hcs⟩ := HX2.out.sg.cells (by omega)
    obtain ⟨s0, s1, s2⟩ := hcs i hi
    clear s1 s2
    have HL2 := Lib.hid (rlive_ok w2 x HX2.out hn1 (i : Int) (by omega))
    rw [hq] at HL2
    rw [hS] at HL2 d1
    have Hq := Lib.hid hq
    have HS := Lib.hid hS
    clear hcs hq hS
    have fz0 := (HB2.out).b2.frozen 0
    have fz1 := (HB2.out).b2.frozen 1
    have fz2 := (HB2.out).b2.frozen 2
    have fz3 := (HB2.out).b2.frozen 3
    obtain ⟨z0c, z1c, z2c, z3c⟩ := (HB2.out).b2.cells
    have herr := (HB2.out).err
    obtain ⟨wf, hwf⟩ : ∃ wf, stT w2 (w.heap.size + 1) z0 = wf := ⟨_, rfl⟩
    rw [hwf] at herr
    unfold stT at hwf
    have Herr := Lib.hid herr
    have hwf : ((((w2).setCell ⟨w.heap.size + 1, 0, none⟩ (.slice none 0 0)).setCell ⟨w.heap.size + 1, 1, none⟩ (.slice none 0 0)).setCell ⟨w.heap.size + 1, 2, none⟩ (.int .i64 0)).setCell ⟨w.heap.size + 1, 3, none⟩ (.int .i64 0) = wf := hwf
    clear herr
    go_wp2
    clear hwf fz0 fz1 fz2 fz3 z0c z1c z2c z3c
    have q0 : wf.cell? ⟨w.heap.size + 1, 0, none⟩ = some (.slice none 0 0) := Herr.out.1.cells.1
    have q1 : wf.cell? ⟨w.heap.size + 1, 1, none⟩ = some (.slice none 0 0) := Herr.out.1.cells.2.1
    have q2 : wf.cell? ⟨w.heap.size + 1, 2, none⟩ = some (.int .i64 0) := Herr.out.1.cells.2.2.1
    have q3 : wf.cell? ⟨w.heap.size + 1, 3, none⟩ = some (.int .i64 0) := Herr.out.1.cells.2.2.2
    refine bodyPost_ret (v := .tuple #[.agg #[.slice none 0 0, .slice none 0 0, .int .i64 0, .int .i64 0], .int .i64 5]) (by simp [results, Try.results34, go_sem, q0, q1, q2, q3]) rfl ?_
    exact ⟨z0, rfl, z0_at _, rfl, Herr.out.2⟩
  have hd : ((atS x.t.sg i).a != 2) = false := by simpa using h2
  by_cases hl : q = 0
  rotate_left
  · have He1 : freeE x.t i = 5 := by rw [HE.out, if_neg (fun e => hl e.2)]
    rw [He1]
    have hdl : decide ((0 : Int) < (q : Int)) = true := by rw [decide_eq_true_eq]; omega
    have hlp : 0 < q := by omega
    clear h2 He1 HE hl
    go_enter Try.func34, Try.ntmps34
    go_wp2_with fail
    refine HMY.out.mono ?_
    rintro e w2 ⟨rfl, hm2⟩
    have HB2 := Lib.hid (HB.out.keep hm2)
    have HX2 := Lib.hid (HX.out.keep hm2)
    obtain ⟨d0, d1, d2, d3⟩ := HB2.out.b1.cells
    clear hm2 hw1 c0 c1 c2 c3
    obtain ⟨b, o, hS, hcs⟩ := HX2.out.sg.cells (by omega)
    obtain ⟨s0, s1, s2⟩ := hcs i hi
    clear s1 s2
    have HL2 := Lib.hid (rlive_ok w2 x HX2.out hn1 (i : Int) (by omega))
    rw [hq] at HL2
    rw [hS] at HL2 d1
    have Hq := Lib.hid hq
    have HS := Lib.hid hS
    clear hcs hq hS
    go_wp2_with fail
    refine HL2.out.mono ?_
    rintro e w4 ⟨rfl, hm4⟩
    have HB4 := Lib.hid (HB2.out.keep hm4)
    clear d0 d1 d2 d3 s0 hm4 HL2
    have fz0 := (HB4.out).b2.frozen 0
    have fz1 := (HB4.out).b2.frozen 1
    have fz2 := (HB4.out).b2.frozen 2
    have fz3 := (HB4.out).b2.frozen 3
    obtain ⟨z0c, z1c, z2c, z3c⟩ := (HB4.out).b2.cells
    have herr := (HB4.out).err
    obtain ⟨wf, hwf⟩ : ∃ wf, stT w4 (w.heap.size + 1) z0 = wf := ⟨_, rfl⟩
    rw [hwf] at herr
    unfold stT at hwf
    have Herr := Lib.hid herr
    have hwf : ((((w4).setCell ⟨w.heap.size + 1, 0, none⟩ (.slice none 0 0)).setCell ⟨w.heap.size + 1, 1, none⟩ (.slice none 0 0)).setCell ⟨w.heap.size + 1, 2, none⟩ (.int .i64 0)).setCell ⟨w.heap.size + 1, 3, none⟩ (.int .i64 0) = wf := hwf
    clear herr
    go_wp2
    clear hwf fz0 fz1 fz2 fz3 z0c z1c z2c z3c
    have q0 : wf.cell? ⟨w.heap.size + 1, 0, none⟩ = some (.slice none 0 0) := Herr.out.1.cells.1
    have q1 : wf.cell? ⟨w.heap.size + 1, 1, none⟩ = some (.slice none 0 0) := Herr.out.1.cells.2.1
    have q2 : wf.cell? ⟨w.heap.size + 1, 2, none⟩ = some (.int .i64 0) := Herr.out.1.cells.2.2.1
    have q3 : wf.cell? ⟨w.heap.size + 1, 3, none⟩ = some (.int .i64 0) := Herr.out.1.cells.2.2.2
    refine bodyPost_ret (v := .tuple #[.agg #[.slice none 0 0, .slice none 0 0, .int .i64 0, .int .i64 0], .int .i64 5]) (by simp [results, Try.results34, go_sem, q0, q1, q2, q3]) rfl ?_
    exact ⟨z0, rfl, z0_at _, rfl, Herr.out.2⟩
  have He1 : freeE x.t i = 0 := by rw [HE.out, if_pos ⟨h2, hl⟩]
  rw [He1]
  subst hl
  clear h2 He1 HE
  have HT : Hid (freeT x.t i = ⟨x.t.pg, x.t.sg.set i noT, x.t.sl, x.t.nw⟩) := Lib.hid rfl
  go_enter Try.func34, Try.ntmps34
  go_wp2_with fail
  refine HMY.out.mono ?_
  rintro e w2 ⟨rfl, hm2⟩
  have HB2 := Lib.hid (HB.out.keep hm2)
  have HX2 := Lib.hid (HX.out.keep hm2)
  obtain ⟨d0, d1, d2, d3⟩ := HB2.out.b1.cells
  clear hm2 hw1 c0 c1 c2 c3
  obtain ⟨b, o, hS, hcs⟩ := HX2.out.sg.cells (by omega)
  obtain ⟨s0, s1, s2⟩ := hcs i hi
  clear s1 s2
  have HL2 := Lib.hid (rlive_ok w2 x HX2.out hn1 (i : Int) (by omega))
  rw [hq] at HL2
  rw [hS] at HL2 d1
  have Hq := Lib.hid hq
  have HS := Lib.hid hS
  clear hcs hq hS
  go_wp2_with fail
  refine HL2.out.mono ?_
  rintro e w4 ⟨rfl, hm4⟩
  have HB4 := Lib.hid (HB2.out.keep hm4)
  have HX4 := Lib.hid (HX2.out.keep hm4)
  have HW := Lib.hid (rwith_s w4 x HX4.out hn1 hm1 (by omega) (by omega) i hi noT noT)
  clear d0 d1 d2 d3 s0 hm4 HL2
  rw [HS.out] at HW
  obtain ⟨d0, d1, d2, d3⟩ := HB4.out.b1.cells
  rw [HS.out] at d1
  go_wp2_with fail
  refine HW.out.mono ?_
  rintro e w5 ⟨y, rfl, hy, hyt, hm5⟩
  have HB5 := Lib.hid (HB4.out.keep hm5)
  clear d0 d1 d2 d3 hm5 HW
  have fz0 := HB5.out.b2.frozen 0
  have fz1 := HB5.out.b2.frozen 1
  have fz2 := HB5.out.b2.frozen 2
  have fz3 := HB5.out.b2.frozen 3
  obtain ⟨z0c, z1c, z2c, z3c⟩ := HB5.out.b2.cells
  have hfin := HB5.out.res hy
  obtain ⟨wf, hwf⟩ : ∃ wf, stT w5 (w.heap.size + 1) y = wf := ⟨_, rfl⟩
  rw [hwf] at hfin
  unfold stT at hwf
  have Hfin := Lib.hid hfin
  have Hyt := Lib.hid hyt
  clear hfin hy hyt
  go_wp2
  clear hwf fz0 fz1 fz2 fz3 z0c z1c z2c z3c
  obtain ⟨q0, q1, q2, q3⟩ := Hfin.out.2.1.cells
  refine bodyPost_ret (v := .tuple #[.agg #[.slice y.P y.n y.c, .slice y.S y.m y.d, .int .i64 y.t.sl, .int .i64 y.t.nw], .int .i64 0]) (by simp [results, Try.results34, go_sem, q0, q1, q2, q3]) rfl ?_
  exact ⟨y, rfl, Hfin.out.1, by rw [if_pos rfl, HT.out, Hyt.out], Hfin.out.2.2⟩
end Go.Proofs.Ythbcgbbcoanbdaa
