/-
  Package table: Free.
-/
import Derived.Test.YthbcgbbcoanbdaaTPut
namespace Go.Proofs.Ythbcgbbcoanbdaa
open Go Go.RowKit

def freeE (t : Tb) (seg : Int) : Int := if mayB t && inB seg 0 ((t.sg.length : Int) - 1) then (if (atS t.sg seg.toNat).a = 2 ∧ cnt (lvF seg t) t.pg.length = 0 then 0 else 5) else 1
def freeT (t : Tb) (seg : Int) : Tb := ⟨t.pg, t.sg.set seg.toNat noT, t.sl, t.nw⟩

set_option maxRecDepth 100000 in
set_option maxHeartbeats 6400000 in
theorem tfree_ok (w : World) (x : TV) (h : x.At w) (hn : x.n ≤ 1000) (hm : x.m ≤ 1000) (seg : Int) :
    Calls Try.prog 23 #[.agg #[.slice x.P x.n x.c, .slice x.S x.m x.d, .int .i64 x.t.sl, .int .i64 x.t.nw], .int .i64 seg] w fun e w' => TbAns w w' (freeE x.t seg) (freeT x.t seg) e := by
  obtain ⟨w1, hw1⟩ : ∃ w1, (w.alloc (.cells #[.slice x.P x.n x.c, .slice x.S x.m x.d, .int .i64 x.t.sl, .int .i64 x.t.nw] 27)).alloc (.cells #[.slice none 0 0, .slice none 0 0, .int .i64 0, .int .i64 0] 27) = w1 := ⟨_, rfl⟩
  have hb : Bxs w w1 x := by
    rw [← hw1]
    refine ⟨(TBx.new w x).keep ((Mod.refl _ _).alloc _), ?_, ((Mod.refl _ w).alloc _).alloc _, by simp⟩
    have := TBx.new (w.alloc (.cells #[.slice x.P x.n x.c, .slice x.S x.m x.d, .int .i64 x.t.sl, .int .i64 x.t.nw] 27)) z0
    rw [World.size_alloc] at this
    exact this
  obtain ⟨c0, c1, c2, c3⟩ := hb.b1.cells
  have HB := Lib.hid hb
  have HX := Lib.hid (h.keep hb.old)
  have Hm := Lib.hid (tmay_ok w1 x HX.out hn hm)
  have Hpl : Hid (x.t.pg.length = x.n) := h.pg.len
  have Hsl : Hid (x.t.sg.length = x.m) := h.sg.len
  have W2 := Lib.hid (fun W => hasSeg_ok W x hm seg)
  have HL := Lib.hid (fun W (hW : x.At W) => live_ok W x hW hn hm seg)
  have Hcp := Lib.hid (fun W (hW : x.At W) => copied_ok W x hW hn hm)
  clear hb h
  have HE : Hid (freeE x.t seg = if mayB x.t && inB seg 0 ((x.m : Int) - 1) then (if (atS x.t.sg seg.toNat).a = 2 ∧ cnt (lvF seg x.t) x.n = 0 then 0 else 5) else 1) := by rw [← Hpl.out, ← Hsl.out]; exact Lib.hid rfl
  have HLv : Hid (liveI x.t seg = if mayB x.t = true ∧ inB seg 0 ((x.m : Int) - 1) = true then ((cnt (lvF seg x.t) x.n : Nat) : Int) else 0) := by rw [← Hpl.out, ← Hsl.out]; exact Lib.hid rfl
  cases hy : mayB x.t with
  | false =>
    rw [hy] at Hm HE
    have He1 : freeE x.t seg = 1 := by rw [HE.out]; simp
    rw [He1]
    clear hy He1 HE
    go_enter Try.func23, Try.ntmps23
    go_wp2_with fail
    refine Hm.out.mono ?_
    rintro e w2 ⟨rfl, hm2⟩
    have HB2 := Lib.hid (HB.out.keep hm2)
    have HX2 := Lib.hid (HX.out.keep hm2)
    obtain ⟨d0, d1, d2, d3⟩ := HB2.out.b1.cells
    clear hm2 hw1 c0 c1 c2 c3
    clear d0 d1 d2 d3
    have fz0 := (HB2.out).b2.frozen 0
    have fz1 := (HB2.out).b2.frozen 1
    have fz2 := (HB2.out).b2.frozen 2
    have fz3 := (HB2.out).b2.frozen 3
    obtain ⟨z0c, z1c, z2c, z3c⟩ := (HB2.out).b2.cells
    have herr := (HB2.out).err
    obtain ⟨wf, hwf⟩ : ∃ wf, stT w2 (w.heap.size + 1) z0 = wf := ⟨_, rfl⟩
    rw [hwf] at herr
    unfold stT at hwf
    have Herr := Lib.hid herr
    have hwf : ((((w2).setCell ⟨w.heap.size + 1, 0, none⟩ (.slice none 0 0)).setCell ⟨w.heap.size + 1, 1, none⟩ (.slice none 0 0)).setCell ⟨w.heap.size + 1, 2, none⟩ (.int .i64 0)).setCell ⟨w.heap.size + 1, 3, none⟩ (.int .i64 0) = wf := hwf
    clear herr
    go_wp2
    clear hwf fz0 fz1 fz2 fz3 z0c z1c z2c z3c
    have q0 : wf.cell? ⟨w.heap.size + 1, 0, none⟩ = some (.slice none 0 0) := Herr.out.1.cells.1
    have q1 : wf.cell? ⟨w.heap.size + 1, 1, none⟩ = some (.slice none 0 0) := Herr.out.1.cells.2.1
    have q2 : wf.cell? ⟨w.heap.size + 1, 2, none⟩ = some (.int .i64 0) := Herr.out.1.cells.2.2.1
    have q3 : wf.cell? ⟨w.heap.size + 1, 3, none⟩ = some (.int .i64 0) := Herr.out.1.cells.2.2.2
    refine bodyPost_ret (v := .tuple #[.agg #[.slice none 0 0, .slice none 0 0, .int .i64 0, .int .i64 0], .int .i64 1]) (by simp [results, Try.results23, go_sem, q0, q1, q2, q3]) rfl ?_
    exact ⟨z0, rfl, z0_at _, rfl, Herr.out.2⟩
  | true =>
  rw [hy] at Hm HE HLv
  have Hmay := Lib.hid (mayB_iff.1 hy)
  clear hy
  cases hp : inB seg 0 ((x.m : Int) - 1) with
  | false =>
    rw [hp] at W2 HE
    have He1 : freeE x.t seg = 1 := by rw [HE.out]; simp
    rw [He1]
    clear hp He1 HE
    go_enter Try.func23, Try.ntmps23
    go_wp2_with fail
    refine Hm.out.mono ?_
    rintro e w2 ⟨rfl, hm2⟩
    have HB2 := Lib.hid (HB.out.keep hm2)
    have HX2 := Lib.hid (HX.out.keep hm2)
    obtain ⟨d0, d1, d2, d3⟩ := HB2.out.b1.cells
    clear hm2 hw1 c0 c1 c2 c3
    go_wp2_with fail
    refine (W2.out _).mono ?_
    rintro e w3 ⟨rfl, hm3⟩
    have HB3 := Lib.hid (HB2.out.keep hm3)
    have HX3 := Lib.hid (HX2.out.keep hm3)
    clear d0 d1 d2 d3
    obtain ⟨d0, d1, d2, d3⟩ := HB3.out.b1.cells
    clear hm3
    clear d0 d1 d2 d3
    have fz0 := (HB3.out).b2.frozen 0
    have fz1 := (HB3.out).b2.frozen 1
    have fz2 := (HB3.out).b2.frozen 2
    have fz3 := (HB3.out).b2.frozen 3
    obtain ⟨z0c, z1c, z2c, z3c⟩ := (HB3.out).b2.cells
    have herr := (HB3.out).err
    obtain ⟨wf, hwf⟩ : ∃ wf, stT w3 (w.heap.size + 1) z0 = wf := ⟨_, rfl⟩
    rw [hwf] at herr
    unfold stT at hwf
    have Herr := Lib.hid herr
    have hwf : ((((w3).setCell ⟨w.heap.size + 1, 0, none⟩ (.slice none 0 0)).setCell ⟨w.heap.size + 1, 1, none⟩ (.slice none 0 0)).setCell ⟨w.heap.size + 1, 2, none⟩ (.int .i64 0)).setCell ⟨w.heap.size + 1, 3, none⟩ (.int .i64 0) = wf := hwf
    clear herr
    go_wp2
    clear hwf fz0 fz1 fz2 fz3 z0c z1c z2c z3c
    have q0 : wf.cell? ⟨w.heap.size + 1, 0, none⟩ = some (.slice none 0 0) := Herr.out.1.cells.1
    have q1 : wf.cell? ⟨w.heap.size + 1, 1, none⟩ = some (.slice none 0 0) := Herr.out.1.cells.2.1
    have q2 : wf.cell? ⟨w.heap.size + 1, 2, none⟩ = some (.int .i64 0) := Herr.out.1.cells.2.2.1
    have q3 : wf.cell? ⟨w.heap.size + 1, 3, none⟩ = some (.int .i64 0) := Herr.out.1.cells.2.2.2
    refine bodyPost_ret (v := .tuple #[.agg #[.slice none 0 0, .slice none 0 0, .int .i64 0, .int .i64 0], .int .i64 1]) (by simp [results, Try.results23, go_sem, q0, q1, q2, q3]) rfl ?_
    exact ⟨z0, rfl, z0_at _, rfl, Herr.out.2⟩
  | true =>
  rw [hp] at W2 HE HLv
  rw [if_pos ⟨rfl, rfl⟩] at HLv
  rw [HLv.out] at HL
  obtain ⟨hp0, hp1⟩ := inB_iff.1 hp
  clear hp HLv
  rw [show (true && true) = true from rfl, if_pos rfl] at HE
  have hpn := Hmay.out.p1
  rw [Hpl.out] at hpn
  obtain ⟨i, rfl⟩ : ∃ i : Nat, seg = i := ⟨seg.toNat, by omega⟩
  have hi : i < x.m := by omega
  have hiI : (i : Int) < (x.m : Int) := by omega
  rw [Int.toNat_natCast] at HE
  generalize hq : cnt (lvF (i : Int) x.t) x.n = q at *
  by_cases h2 : (atS x.t.sg i).a = 2
  rotate_left
  · have He1 : freeE x.t i = 5 := by rw [HE.out, if_neg (fun e => h2 e.1)]
    rw [He1]
    have hd : ((atS x.t.sg i).a != 2) = true := by simpa using h2
    clear h2 He1 HE hq
    go_enter Try.func23, Try.ntmps23
    go_wp2_with fail
    refine Hm.out.mono ?_
    rintro e w2 ⟨rfl, hm2⟩
    have HB2 := Lib.hid (HB.out.keep hm2)
    have HX2 := Lib.hid (HX.out.keep hm2)
    obtain ⟨d0, d1, d2, d3⟩ := HB2.out.b1.cells
    clear hm2 hw1 c0 c1 c2 c3
    go_wp2_with fail
    refine (W2.out _).mono ?_
    rintro e w3 ⟨rfl, hm3⟩
    have HB3 := Lib.hid (HB2.out.keep hm3)
    have HX3 := Lib.hid (HX2.out.keep hm3)
    clear d0 d1 d2 d3
    obtain ⟨d0, d1, d2, d3⟩ := HB3.out.b1.cells
    clear hm3
    obtain ⟨b, o, hS, hcs⟩ := HX3.out.sg.cells (by omega)
    obtain ⟨s0, s1, s2⟩ := hcs i hi
    clear s1 s2
    have HL3 := Lib.hid (HL.out w3 HX3.out)
    rw [hS] at HL3
    clear hcs
    have fz0 := (HB3.out).b2.frozen 0
    have fz1 := (HB3.out).b2.frozen 1
    have fz2 := (HB3.out).b2.frozen 2
    have fz3 := (HB3.out).b2.frozen 3
    obtain ⟨z0c, z1c, z2c, z3c⟩ := (HB3.out).b2.cells
    have herr := (HB3.out).err
    obtain ⟨wf, hwf⟩ : ∃ wf, stT w3 (w.heap.size + 1) z0 = wf := ⟨_, rfl⟩
    rw [hwf] at herr
    unfold stT at hwf
    have Herr := Lib.hid herr
    have hwf : ((((w3).setCell ⟨w.heap.size + 1, 0, none⟩ (.slice none 0 0)).setCell ⟨w.heap.size + 1, 1, none⟩ (.slice none 0 0)).setCell ⟨w.heap.size + 1, 2, none⟩ (.int .i64 0)).setCell ⟨w.heap.size + 1, 3, none⟩ (.int .i64 0) = wf := hwf
    clear herr
    go_wp2
    clear hwf fz0 fz1 fz2 fz3 z0c z1c z2c z3c
    have q0 : wf.cell? ⟨w.heap.size + 1, 0, none⟩ = some (.slice none 0 0) := Herr.out.1.cells.1
    have q1 : wf.cell? ⟨w.heap.size + 1, 1, none⟩ = some (.slice none 0 0) := Herr.out.1.cells.2.1
    have q2 : wf.cell? ⟨w.heap.size + 1, 2, none⟩ = some (.int .i64 0) := Herr.out.1.cells.2.2.1
    have q3 : wf.cell? ⟨w.heap.size + 1, 3, none⟩ = some (.int .i64 0) := Herr.out.1.cells.2.2.2
    refine bodyPost_ret (v := .tuple #[.agg #[.slice none 0 0, .slice none 0 0, .int .i64 0, .int .i64 0], .int .i64 5]) (by simp [results, Try.results23, go_sem, q0, q1, q2, q3]) rfl ?_
    exact ⟨z0, rfl, z0_at _, rfl, Herr.out.2⟩
  have hd : ((atS x.t.sg i).a != 2) = false := by simpa using h2
  by_cases hl : q = 0
  rotate_left
  · have He1 : freeE x.t i = 5 := by rw [HE.out, if_neg (fun e => hl e.2)]
    rw [He1]
    have hdl : decide ((0 : Int) < (q : Int)) = true := by rw [decide_eq_true_eq]; omega
    have hlp : 0 < q := by omega
    clear h2 He1 HE hq hl
    go_enter Try.func23, Try.ntmps23
    go_wp2_with fail
    refine Hm.out.mono ?_
    rintro e w2 ⟨rfl, hm2⟩
    have HB2 := Lib.hid (HB.out.keep hm2)
    have HX2 := Lib.hid (HX.out.keep hm2)
    obtain ⟨d0, d1, d2, d3⟩ := HB2.out.b1.cells
    clear hm2 hw1 c0 c1 c2 c3
    go_wp2_with fail
    refine (W2.out _).mono ?_
    rintro e w3 ⟨rfl, hm3⟩
    have HB3 := Lib.hid (HB2.out.keep hm3)
    have HX3 := Lib.hid (HX2.out.keep hm3)
    clear d0 d1 d2 d3
    obtain ⟨d0, d1, d2, d3⟩ := HB3.out.b1.cells
    clear hm3
    obtain ⟨b, o, hS, hcs⟩ := HX3.out.sg.cells (by omega)
    obtain ⟨s0, s1, s2⟩ := hcs i hi
    clear s1 s2
    have HL3 := Lib.hid (HL.out w3 HX3.out)
    rw [hS] at HL3
    clear hcs
    go_wp2_with fail
    refine HL3.out.mono ?_
    rintro e w4 ⟨rfl, hm4⟩
    have HB4 := Lib.hid (HB3.out.keep hm4)
    clear d0 d1 d2 d3 s0 hm4 hS HL3
    have fz0 := (HB4.out).b2.frozen 0
    have fz1 := (HB4.out).b2.frozen 1
    have fz2 := (HB4.out).b2.frozen 2
    have fz3 := (HB4.out).b2.frozen 3
    obtain ⟨z0c, z1c, z2c, z3c⟩ := (HB4.out).b2.cells
    have herr := (HB4.out).err
    obtain ⟨wf, hwf⟩ : ∃ wf, stT w4 (w.heap.size + 1) z0 = wf := ⟨_, rfl⟩
    rw [hwf] at herr
    unfold stT at hwf
    have Herr := Lib.hid herr
    have hwf : ((((w4).setCell ⟨w.heap.size + 1, 0, none⟩ (.slice none 0 0)).setCell ⟨w.heap.size + 1, 1, none⟩ (.slice none 0 0)).setCell ⟨w.heap.size + 1, 2, none⟩ (.int .i64 0)).setCell ⟨w.heap.size + 1, 3, none⟩ (.int .i64 0) = wf := hwf
    clear herr
    go_wp2
    clear hwf fz0 fz1 fz2 fz3 z0c z1c z2c z3c
    have q0 : wf.cell? ⟨w.heap.size + 1, 0, none⟩ = some (.slice none 0 0) := Herr.out.1.cells.1
    have q1 : wf.cell? ⟨w.heap.size + 1, 1, none⟩ = some (.slice none 0 0) := Herr.out.1.cells.2.1
    have q2 : wf.cell? ⟨w.heap.size + 1, 2, none⟩ = some (.int .i64 0) := Herr.out.1.cells.2.2.1
    have q3 : wf.cell? ⟨w.heap.size + 1, 3, none⟩ = some (.int .i64 0) := Herr.out.1.cells.2.2.2
    refine bodyPost_ret (v := .tuple #[.agg #[.slice none 0 0, .slice none 0 0, .int .i64 0, .int .i64 0], .int .i64 5]) (by simp [results, Try.results23, go_sem, q0, q1, q2, q3]) rfl ?_
    exact ⟨z0, rfl, z0_at _, rfl, Herr.out.2⟩
  have He1 : freeE x.t i = 0 := by rw [HE.out, if_pos ⟨h2, hl⟩]
  rw [He1]
  subst hl
  clear h2 He1 HE hq
  have HT : Hid (freeT x.t i = ⟨x.t.pg, x.t.sg.set i noT, x.t.sl, x.t.nw⟩) := Lib.hid rfl
  go_enter Try.func23, Try.ntmps23
  go_wp2_with fail
  refine Hm.out.mono ?_
  rintro e w2 ⟨rfl, hm2⟩
  have HB2 := Lib.hid (HB.out.keep hm2)
  have HX2 := Lib.hid (HX.out.keep hm2)
  obtain ⟨d0, d1, d2, d3⟩ := HB2.out.b1.cells
  clear hm2 hw1 c0 c1 c2 c3
  go_wp2_with fail
  refine (W2.out _).mono ?_
  rintro e w3 ⟨rfl, hm3⟩
  have HB3 := Lib.hid (HB2.out.keep hm3)
  have HX3 := Lib.hid (HX2.out.keep hm3)
  clear d0 d1 d2 d3
  obtain ⟨d0, d1, d2, d3⟩ := HB3.out.b1.cells
  clear hm3
  obtain ⟨b, o, hS, hcs⟩ := HX3.out.sg.cells (by omega)
  obtain ⟨s0, s1, s2⟩ := hcs i hi
  clear s1 s2
  have HL3 := Lib.hid (HL.out w3 HX3.out)
  rw [hS] at HL3
  clear hcs
  go_wp2_with fail
  refine HL3.out.mono ?_
  rintro e w4 ⟨rfl, hm4⟩
  have HB4 := Lib.hid (HB3.out.keep hm4)
  have HX4 := Lib.hid (HX3.out.keep hm4)
  clear d0 d1 d2 d3 s0 hm4 hS HL3
  obtain ⟨d0, d1, d2, d3⟩ := HB4.out.b1.cells
  go_wp2_with fail
  refine (Hcp.out _ HX4.out).mono ?_
  rintro e w6 ⟨P, c, S, d, rfl, hown, hm6⟩
  have hb6 := HB4.out.keep hm6
  have hfr := Fr.start hb6 hown HB4.out.sz
  have f0 := hb6.b1.frozen 0
  have f1 := hb6.b1.frozen 1
  have f2 := hb6.b1.frozen 2
  have f3 := hb6.b1.frozen 3
  clear d0 d1 d2 d3
  obtain ⟨d0, d1, d2, d3⟩ := hb6.b1.cells
  obtain ⟨w7, hw7⟩ : ∃ w7, stT w6 w.heap.size ⟨P, x.n, c, S, x.m, d, x.t⟩ = w7 := ⟨_, rfl⟩
  rw [hw7] at hfr
  unfold stT at hw7
  obtain ⟨gP, gS, hP, hS, hne, hbP, hbS, hlP, hlS⟩ := hfr.rows (by show 0 < x.n; omega) (by show 0 < x.m; omega)
  replace hP : P = some ⟨gP, 0, none⟩ := hP
  replace hS : S = some ⟨gS, 0, none⟩ := hS
  subst hP
  subst hS
  have hw7 : (((w6.setCell ⟨w.heap.size, 0, none⟩ (.slice (some ⟨gP, 0, none⟩) x.n c)).setCell ⟨w.heap.size, 1, none⟩ (.slice (some ⟨gS, 0, none⟩) x.m d)).setCell ⟨w.heap.size, 2, none⟩ (.int .i64 x.t.sl)).setCell ⟨w.heap.size, 3, none⟩ (.int .i64 x.t.nw) = w7 := hw7
  obtain ⟨r0, r1, r2, r3⟩ := hfr.bx.b1.cells
  have Hne := Lib.hid hne
  clear hne
  have HFP := Lib.hid hfr
  clear hfr hown hm6 hb6
  go_wp2
  clear hw7 d0 d1 d2 d3 r0 r1 r2 r3 f0 f1 f2 f3
  have M9 : Hid (Mod (fun _ => False) w7 w7.drew) := (Mod.refl _ w7).drew
  have hG0 : (0 : Int) ≤ (i : Int) := by omega
  refine wp_region_held (S := (fun W : World => W.cell? ⟨w.heap.size, 0, none⟩ = some (.slice (some ⟨gP, 0, none⟩) x.n c) ∧ W.cell? ⟨w.heap.size, 1, none⟩ = some (.slice (some ⟨gS, 0, none⟩) x.m d) ∧ W.cell? ⟨w.heap.size, 2, none⟩ = some (.int .i64 x.t.sl) ∧ W.cell? ⟨w.heap.size, 3, none⟩ = some (.int .i64 x.t.nw))) (by kernel_rfl) ?_
  have hI := (show (fun W : World => W.cell? ⟨w.heap.size, 0, none⟩ = some (.slice (some ⟨gP, 0, none⟩) x.n c) ∧ W.cell? ⟨w.heap.size, 1, none⟩ = some (.slice (some ⟨gS, 0, none⟩) x.m d) ∧ W.cell? ⟨w.heap.size, 2, none⟩ = some (.int .i64 x.t.sl) ∧ W.cell? ⟨w.heap.size, 3, none⟩ = some (.int .i64 x.t.nw)) _ from (HFP.out.keep M9.out).bx.b1.cells)
  refine rg_take (n := 5) (v := ?_) 0 (some 32) rfl rfl (by kernel_rfl) (by kernel_rfl) (by kernel_rfl) (fun _ _ _ h => h) (by rfl) hI ?_ ?_
  rotate_left
  · ((intro w hSw; (try dsimp only at hSw); go_simp); (try with_reducible rfl))
  try simp only [Act.put, List.setIfInBounds_toArray, List.set_cons_zero, List.set_cons_succ]
  refine rg_take (n := 4) (v := ?_) 1 (some 33) rfl rfl (by kernel_rfl) (by kernel_rfl) (by kernel_rfl) (fun _ _ _ h => h) (by rfl) hI ?_ ?_
  rotate_left
  · ((intro w hSw; (try dsimp only at hSw); go_simp); (try with_reducible rfl))
  try simp only [Act.put, List.setIfInBounds_toArray, List.set_cons_zero, List.set_cons_succ]
  refine rg_take (n := 3) (v := ?_) 2 (some 34) rfl rfl (by kernel_rfl) (by kernel_rfl) (by kernel_rfl) (fun _ _ _ h => h) (by rfl) hI ?_ ?_
  rotate_left
  · ((intro w hSw; (try dsimp only at hSw); go_simp); (try with_reducible rfl))
  try simp only [Act.put, List.setIfInBounds_toArray, List.set_cons_zero, List.set_cons_succ]
  refine rg_one (n := 2) 3 rfl (by kernel_rfl) (by rfl) ?_
  go_simp
  go_at_call 29
  refine (free_ok _).mono ?_
  rintro e w10 ⟨rfl, hm10⟩
  have hf10 := (HFP.out.keep M9.out).keep hm10
  have hf11 := hf10.setS rfl rfl Hne.out (by show i < x.m; omega) noT
  have fS := fun j => (hf10.frozen (by show 0 < x.n; omega) (by show 0 < x.m; omega) rfl rfl j).2
  have fS0 := fS (i * 3)
  have fS1 := fS (i * 3 + 1)
  have fS2 := fS (i * 3 + 2)
  obtain ⟨s0, s1, s2⟩ := hf10.cellsS rfl (j := i) (by show i < x.m; omega)
  obtain ⟨w11, hw11⟩ : ∃ w11, st3 w10 gS i noT = w11 := ⟨_, rfl⟩
  rw [hw11] at hf11
  unfold st3 at hw11
  have hw11 : ((w10.setCell ⟨gS, i * 3, none⟩ (.int .i64 0)).setCell ⟨gS, i * 3 + 1, none⟩ (.int .i64 0)).setCell ⟨gS, i * 3 + 2, none⟩ (.int .i64 0) = w11 := hw11
  have HF11 := Lib.hid hf11
  have hI10 := hf10.bx.b1.cells
  have hI11 := hf11.bx.b1.cells
  clear hm10 hf10 hf11 fS
  clear hI
  have hI := (show (fun W : World => W.cell? ⟨w.heap.size, 0, none⟩ = some (.slice (some ⟨gP, 0, none⟩) x.n c) ∧ W.cell? ⟨w.heap.size, 1, none⟩ = some (.slice (some ⟨gS, 0, none⟩) x.m d) ∧ W.cell? ⟨w.heap.size, 2, none⟩ = some (.int .i64 x.t.sl) ∧ W.cell? ⟨w.heap.size, 3, none⟩ = some (.int .i64 x.t.nw)) _ from hI10)
  refine ⟨hI, ?_⟩
  refine rg_take (n := 1) (v := ?_) 4 (some 36) rfl rfl (by kernel_rfl) (by kernel_rfl) (by kernel_rfl) (fun _ _ _ h => h) (by rfl) hI ?_ ?_
  rotate_left
  · ((intro w hSw; (try dsimp only at hSw); go_simp); (try with_reducible rfl))
  try simp only [Act.put, List.setIfInBounds_toArray, List.set_cons_zero, List.set_cons_succ]
  refine rg_one (n := 0) 5 rfl (by kernel_rfl) (by rfl) ?_
  go_simp
  clear hI
  have hI := (show (fun W : World => W.cell? ⟨w.heap.size, 0, none⟩ = some (.slice (some ⟨gP, 0, none⟩) x.n c) ∧ W.cell? ⟨w.heap.size, 1, none⟩ = some (.slice (some ⟨gS, 0, none⟩) x.m d) ∧ W.cell? ⟨w.heap.size, 2, none⟩ = some (.int .i64 x.t.sl) ∧ W.cell? ⟨w.heap.size, 3, none⟩ = some (.int .i64 x.t.nw)) _ from hI11)
  first | refine ⟨hI, ?_⟩ | skip
  try simp only [Act.put]
  clear hI10 hI11
  refine wpAnyH_done (by kernel_rfl) ?_ _
  clear hI
  clear hw11 s0 s1 s2 fS0 fS1 fS2
  have fz0 := HF11.out.bx.b2.frozen 0
  have fz1 := HF11.out.bx.b2.frozen 1
  have fz2 := HF11.out.bx.b2.frozen 2
  have fz3 := HF11.out.bx.b2.frozen 3
  obtain ⟨z0c, z1c, z2c, z3c⟩ := HF11.out.bx.b2.cells
  obtain ⟨r0, r1, r2, r3⟩ := HF11.out.bx.b1.cells
  have hfin := HF11.out.fin
  obtain ⟨w12, hwf⟩ : ∃ w12, stT w11 (w.heap.size + 1) (⟨some ⟨gP, 0, none⟩, x.n, c, some ⟨gS, 0, none⟩, x.m, d, ⟨x.t.pg, x.t.sg.set i noT, x.t.sl, x.t.nw⟩⟩ : TV) = w12 := ⟨_, rfl⟩
  rw [hwf] at hfin
  unfold stT at hwf
  have hwf : (((w11.setCell ⟨w.heap.size + 1, 0, none⟩ (.slice (some ⟨gP, 0, none⟩) x.n c)).setCell ⟨w.heap.size + 1, 1, none⟩ (.slice (some ⟨gS, 0, none⟩) x.m d)).setCell ⟨w.heap.size + 1, 2, none⟩ (.int .i64 x.t.sl)).setCell ⟨w.heap.size + 1, 3, none⟩ (.int .i64 x.t.nw) = w12 := hwf
  have Hfin := Lib.hid hfin
  clear hfin
  go_wp2
  clear hwf fz0 fz1 fz2 fz3 z0c z1c z2c z3c r0 r1 r2 r3
  have q0 : w12.cell? ⟨w.heap.size + 1, 0, none⟩ = some (.slice (some ⟨gP, 0, none⟩) x.n c) := Hfin.out.2.1.cells.1
  have q1 : w12.cell? ⟨w.heap.size + 1, 1, none⟩ = some (.slice (some ⟨gS, 0, none⟩) x.m d) := Hfin.out.2.1.cells.2.1
  have q2 : w12.cell? ⟨w.heap.size + 1, 2, none⟩ = some (.int .i64 x.t.sl) := Hfin.out.2.1.cells.2.2.1
  have q3 : w12.cell? ⟨w.heap.size + 1, 3, none⟩ = some (.int .i64 x.t.nw) := Hfin.out.2.1.cells.2.2.2
  refine bodyPost_ret (v := .tuple #[.agg #[.slice (some ⟨gP, 0, none⟩) x.n c, .slice (some ⟨gS, 0, none⟩) x.m d, .int .i64 x.t.sl, .int .i64 x.t.nw], .int .i64 0]) (by simp [results, Try.results23, go_sem, q0, q1, q2, q3]) rfl ?_
  exact ⟨⟨some ⟨gP, 0, none⟩, x.n, c, some ⟨gS, 0, none⟩, x.m, d, ⟨x.t.pg, x.t.sg.set i noT, x.t.sl, x.t.nw⟩⟩, rfl, Hfin.out.1, by rw [if_pos rfl, HT.out], Hfin.out.2.2⟩
end Go.Proofs.Ythbcgbbcoanbdaa
