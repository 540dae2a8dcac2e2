/-
  bobbinref10.Put, of a table that may be.
-/
import Derived.Test.YthbcgbbcoanbdaaRFree
namespace Go.Proofs.Ythbcgbbcoanbdaa
open Go Go.RowKit

/-- The clock of a table in a box goes on. -/
theorem Tbl.tick {w W : World} {b : Nat} {y : TV} {T : Tb} (h : Tbl w W b y T) (k : Int) : Tbl w (W.setCell ⟨b, 3, none⟩ (.int .i64 k)) b ⟨y.P, y.n, y.c, y.S, y.m, y.d, ⟨y.t.pg, y.t.sg, y.t.sl, k⟩⟩ ⟨T.pg, T.sg, T.sl, k⟩ := by
  have hm : Mod (fun q => q = b) W (W.setCell ⟨b, 3, none⟩ (.int .i64 k)) := (Mod.refl (fun q => q = b) W).one (fun _ => rfl) 3 _
  have ha := h.at_.store h.bx hm
  refine ⟨heap_set h.bx 3 _, ⟨ha.pg, ha.sg⟩, by rw [← h.t], ((h.old.mono (G := fun k => w.heap.size ≤ k) (fun _ _ h => h.elim)).trans hm (fun k _ e => by have := h.lo; show w.heap.size ≤ k; omega)).mono (fun k hk e => by omega), h.lo⟩

set_option maxRecDepth 100000 in
set_option maxHeartbeats 1600000 in
theorem rput_ok (w : World) (x : TV) (h : x.At w) (ht : x.t.May) (page a : Int) :
    Calls Try.prog 32 #[.agg #[.slice x.P x.n x.c, .slice x.S x.m x.d, .int .i64 x.t.sl, .int .i64 x.t.nw], .int .i64 page, .int .i64 a] w fun e w' => TbAns w w' (putE x.t page a) (putT x.t page a) e := by
  obtain ⟨w1, hw1⟩ : ∃ w1, (w.alloc (.cells #[.slice x.P x.n x.c, .slice x.S x.m x.d, .int .i64 x.t.sl, .int .i64 x.t.nw] 27)).alloc (.cells #[.slice none 0 0, .slice none 0 0, .int .i64 0, .int .i64 0] 27) = w1 := ⟨_, rfl⟩
  have hb : Bxs w w1 x := by
    rw [← hw1]
    refine ⟨(TBx.new w x).keep ((Mod.refl _ _).alloc _), ?_, ((Mod.refl _ w).alloc _).alloc _, by simp⟩
    have := TBx.new (w.alloc (.cells #[.slice x.P x.n x.c, .slice x.S x.m x.d, .int .i64 x.t.sl, .int .i64 x.t.nw] 27)) z0
    rw [World.size_alloc] at this
    exact this
  obtain ⟨c0, c1, c2, c3⟩ := hb.b1.cells
  have HB := Lib.hid hb
  have HX := Lib.hid (h.keep hb.old)
  have HMY := Lib.hid (rmay_ok w1 x HX.out ht)
  have HT0 := Lib.hid ht
  have Hpl : Hid (x.t.pg.length = x.n) := h.pg.len
  have Hsl : Hid (x.t.sg.length = x.m) := h.sg.len
  have hn0 : 1 ≤ x.n := by rw [← Hpl.out]; exact ht.p1
  have hn1 : x.n ≤ 1000 := by rw [← Hpl.out]; exact Nat.le_trans ht.p2 (by decide)
  have hm0 : 2 ≤ x.m := by rw [← Hsl.out]; exact ht.s1
  have hm1 : x.m ≤ 1000 := by rw [← Hsl.out]; exact Nat.le_trans ht.s2 (by decide)
  clear hb h
  have HE : Hid (putE x.t page a = if (inB page 0 ((x.n : Int) - 1) && inB a 0 4294967295 && !decide (x.t.nw = 1099511627776)) = true then nxE x.t else 1) := by rw [← Hpl.out]; unfold putE; rw [mayB_iff.2 ht, Bool.true_and]; exact Lib.hid rfl
  clear ht
  have B : Hid ((inB page 0 ((x.n : Int) - 1) && inB a 0 4294967295 && !decide (x.t.nw = 1099511627776)) = true → (0 ≤ page ∧ page ≤ (x.n : Int) - 1) ∧ (0 ≤ a ∧ a ≤ 4294967295) ∧ ¬ x.t.nw = 1099511627776) := Lib.hid (fun q => by rw [Bool.and_eq_true, Bool.and_eq_true, inB_iff, inB_iff, Bool.not_eq_true', decide_eq_false_iff_not, and_assoc] at q; exact q)
  by_cases h0 : page < 0
  · have He1 : putE x.t page a = 1 := by rw [HE.out, if_neg (fun e => by have := B.out e; omega)]
    rw [He1]
    clear He1 HE
    go_enter Try.func32, Try.ntmps32
    go_wp2_with fail
    refine HMY.out.mono ?_
    rintro e w2 ⟨rfl, hm2⟩
    have HB2 := Lib.hid (HB.out.keep hm2)
    have HX2 := Lib.hid (HX.out.keep hm2)
    obtain ⟨d0, d1, d2, d3⟩ := HB2.out.b1.cells
    clear hm2 hw1 c0 c1 c2 c3
    have fz0 := (HB2.out).b2.frozen 0
    have fz1 := (HB2.out).b2.frozen 1
    have fz2 := (HB2.out).b2.frozen 2
    have fz3 := (HB2.out).b2.frozen 3
    obtain ⟨z0c, z1c, z2c, z3c⟩ := (HB2.out).b2.cells
    have herr := (HB2.out).err
    obtain ⟨wf, hwf⟩ : ∃ wf, stT w2 (w.heap.size + 1) z0 = wf := ⟨_, rfl⟩
    rw [hwf] at herr
    unfold stT at hwf
    have Herr := Lib.hid herr
    have hwf : ((((w2).setCell ⟨w.heap.size + 1, 0, none⟩ (.slice none 0 0)).setCell ⟨w.heap.size + 1, 1, none⟩ (.slice none 0 0)).setCell ⟨w.heap.size + 1, 2, none⟩ (.int .i64 0)).setCell ⟨w.heap.size + 1, 3, none⟩ (.int .i64 0) = wf := hwf
    clear herr
    go_wp2
    clear hwf fz0 fz1 fz2 fz3 z0c z1c z2c z3c
    have q0 : wf.cell? ⟨w.heap.size + 1, 0, none⟩ = some (.slice none 0 0) := Herr.out.1.cells.1
    have q1 : wf.cell? ⟨w.heap.size + 1, 1, none⟩ = some (.slice none 0 0) := Herr.out.1.cells.2.1
    have q2 : wf.cell? ⟨w.heap.size + 1, 2, none⟩ = some (.int .i64 0) := Herr.out.1.cells.2.2.1
    have q3 : wf.cell? ⟨w.heap.size + 1, 3, none⟩ = some (.int .i64 0) := Herr.out.1.cells.2.2.2
    refine bodyPost_ret (v := .tuple #[.agg #[.slice none 0 0, .slice none 0 0, .int .i64 0, .int .i64 0], .int .i64 1]) (by simp [results, Try.results32, go_sem, q0, q1, q2, q3]) rfl ?_
    exact ⟨z0, rfl, z0_at _, rfl, Herr.out.2⟩
  by_cases h1 : (x.n : Int) ≤ page
  · have He1 : putE x.t page a = 1 := by rw [HE.out, if_neg (fun e => by have := B.out e; omega)]
    rw [He1]
    clear He1 HE
    go_enter Try.func32, Try.ntmps32
    go_wp2_with fail
    refine HMY.out.mono ?_
    rintro e w2 ⟨rfl, hm2⟩
    have HB2 := Lib.hid (HB.out.keep hm2)
    have HX2 := Lib.hid (HX.out.keep hm2)
    obtain ⟨d0, d1, d2, d3⟩ := HB2.out.b1.cells
    clear hm2 hw1 c0 c1 c2 c3
    have fz0 := (HB2.out).b2.frozen 0
    have fz1 := (HB2.out).b2.frozen 1
    have fz2 := (HB2.out).b2.frozen 2
    have fz3 := (HB2.out).b2.frozen 3
    obtain ⟨z0c, z1c, z2c, z3c⟩ := (HB2.out).b2.cells
    have herr := (HB2.out).err
    obtain ⟨wf, hwf⟩ : ∃ wf, stT w2 (w.heap.size + 1) z0 = wf := ⟨_, rfl⟩
    rw [hwf] at herr
    unfold stT at hwf
    have Herr := Lib.hid herr
    have hwf : ((((w2).setCell ⟨w.heap.size + 1, 0, none⟩ (.slice none 0 0)).setCell ⟨w.heap.size + 1, 1, none⟩ (.slice none 0 0)).setCell ⟨w.heap.size + 1, 2, none⟩ (.int .i64 0)).setCell ⟨w.heap.size + 1, 3, none⟩ (.int .i64 0) = wf := hwf
    clear herr
    go_wp2
    clear hwf fz0 fz1 fz2 fz3 z0c z1c z2c z3c
    have q0 : wf.cell? ⟨w.heap.size + 1, 0, none⟩ = some (.slice none 0 0) := Herr.out.1.cells.1
    have q1 : wf.cell? ⟨w.heap.size + 1, 1, none⟩ = some (.slice none 0 0) := Herr.out.1.cells.2.1
    have q2 : wf.cell? ⟨w.heap.size + 1, 2, none⟩ = some (.int .i64 0) := Herr.out.1.cells.2.2.1
    have q3 : wf.cell? ⟨w.heap.size + 1, 3, none⟩ = some (.int .i64 0) := Herr.out.1.cells.2.2.2
    refine bodyPost_ret (v := .tuple #[.agg #[.slice none 0 0, .slice none 0 0, .int .i64 0, .int .i64 0], .int .i64 1]) (by simp [results, Try.results32, go_sem, q0, q1, q2, q3]) rfl ?_
    exact ⟨z0, rfl, z0_at _, rfl, Herr.out.2⟩
  by_cases h2 : a < 0
  · have He1 : putE x.t page a = 1 := by rw [HE.out, if_neg (fun e => by have := B.out e; omega)]
    rw [He1]
    clear He1 HE
    go_enter Try.func32, Try.ntmps32
    go_wp2_with fail
    refine HMY.out.mono ?_
    rintro e w2 ⟨rfl, hm2⟩
    have HB2 := Lib.hid (HB.out.keep hm2)
    have HX2 := Lib.hid (HX.out.keep hm2)
    obtain ⟨d0, d1, d2, d3⟩ := HB2.out.b1.cells
    clear hm2 hw1 c0 c1 c2 c3
    have fz0 := (HB2.out).b2.frozen 0
    have fz1 := (HB2.out).b2.frozen 1
    have fz2 := (HB2.out).b2.frozen 2
    have fz3 := (HB2.out).b2.frozen 3
    obtain ⟨z0c, z1c, z2c, z3c⟩ := (HB2.out).b2.cells
    have herr := (HB2.out).err
    obtain ⟨wf, hwf⟩ : ∃ wf, stT w2 (w.heap.size + 1) z0 = wf := ⟨_, rfl⟩
    rw [hwf] at herr
    unfold stT at hwf
    have Herr := Lib.hid herr
    have hwf : ((((w2).setCell ⟨w.heap.size + 1, 0, none⟩ (.slice none 0 0)).setCell ⟨w.heap.size + 1, 1, none⟩ (.slice none 0 0)).setCell ⟨w.heap.size + 1, 2, none⟩ (.int .i64 0)).setCell ⟨w.heap.size + 1, 3, none⟩ (.int .i64 0) = wf := hwf
    clear herr
    go_wp2
    clear hwf fz0 fz1 fz2 fz3 z0c z1c z2c z3c
    have q0 : wf.cell? ⟨w.heap.size + 1, 0, none⟩ = some (.slice none 0 0) := Herr.out.1.cells.1
    have q1 : wf.cell? ⟨w.heap.size + 1, 1, none⟩ = some (.slice none 0 0) := Herr.out.1.cells.2.1
    have q2 : wf.cell? ⟨w.heap.size + 1, 2, none⟩ = some (.int .i64 0) := Herr.out.1.cells.2.2.1
    have q3 : wf.cell? ⟨w.heap.size + 1, 3, none⟩ = some (.int .i64 0) := Herr.out.1.cells.2.2.2
    refine bodyPost_ret (v := .tuple #[.agg #[.slice none 0 0, .slice none 0 0, .int .i64 0, .int .i64 0], .int .i64 1]) (by simp [results, Try.results32, go_sem, q0, q1, q2, q3]) rfl ?_
    exact ⟨z0, rfl, z0_at _, rfl, Herr.out.2⟩
  by_cases h3 : 4294967295 < a
  · have He1 : putE x.t page a = 1 := by rw [HE.out, if_neg (fun e => by have := B.out e; omega)]
    rw [He1]
    clear He1 HE
    go_enter Try.func32, Try.ntmps32
    go_wp2_with fail
    refine HMY.out.mono ?_
    rintro e w2 ⟨rfl, hm2⟩
    have HB2 := Lib.hid (HB.out.keep hm2)
    have HX2 := Lib.hid (HX.out.keep hm2)
    obtain ⟨d0, d1, d2, d3⟩ := HB2.out.b1.cells
    clear hm2 hw1 c0 c1 c2 c3
    have fz0 := (HB2.out).b2.frozen 0
    have fz1 := (HB2.out).b2.frozen 1
    have fz2 := (HB2.out).b2.frozen 2
    have fz3 := (HB2.out).b2.frozen 3
    obtain ⟨z0c, z1c, z2c, z3c⟩ := (HB2.out).b2.cells
    have herr := (HB2.out).err
    obtain ⟨wf, hwf⟩ : ∃ wf, stT w2 (w.heap.size + 1) z0 = wf := ⟨_, rfl⟩
    rw [hwf] at herr
    unfold stT at hwf
    have Herr := Lib.hid herr
    have hwf : ((((w2).setCell ⟨w.heap.size + 1, 0, none⟩ (.slice none 0 0)).setCell ⟨w.heap.size + 1, 1, none⟩ (.slice none 0 0)).setCell ⟨w.heap.size + 1, 2, none⟩ (.int .i64 0)).setCell ⟨w.heap.size + 1, 3, none⟩ (.int .i64 0) = wf := hwf
    clear herr
    go_wp2
    clear hwf fz0 fz1 fz2 fz3 z0c z1c z2c z3c
    have q0 : wf.cell? ⟨w.heap.size + 1, 0, none⟩ = some (.slice none 0 0) := Herr.out.1.cells.1
    have q1 : wf.cell? ⟨w.heap.size + 1, 1, none⟩ = some (.slice none 0 0) := Herr.out.1.cells.2.1
    have q2 : wf.cell? ⟨w.heap.size + 1, 2, none⟩ = some (.int .i64 0) := Herr.out.1.cells.2.2.1
    have q3 : wf.cell? ⟨w.heap.size + 1, 3, none⟩ = some (.int .i64 0) := Herr.out.1.cells.2.2.2
    refine bodyPost_ret (v := .tuple #[.agg #[.slice none 0 0, .slice none 0 0, .int .i64 0, .int .i64 0], .int .i64 1]) (by simp [results, Try.results32, go_sem, q0, q1, q2, q3]) rfl ?_
    exact ⟨z0, rfl, z0_at _, rfl, Herr.out.2⟩
  by_cases h4 : x.t.nw = 1099511627776
  · have hd : (x.t.nw == 1099511627776) = true := by simpa using h4
    have He1 : putE x.t page a = 1 := by rw [HE.out, if_neg (fun e => (B.out e).2.2 h4)]
    rw [He1]
    clear He1 HE B h4
    go_enter Try.func32, Try.ntmps32
    go_wp2_with fail
    refine HMY.out.mono ?_
    rintro e w2 ⟨rfl, hm2⟩
    have HB2 := Lib.hid (HB.out.keep hm2)
    have HX2 := Lib.hid (HX.out.keep hm2)
    obtain ⟨d0, d1, d2, d3⟩ := HB2.out.b1.cells
    clear hm2 hw1 c0 c1 c2 c3
    have fz0 := (HB2.out).b2.frozen 0
    have fz1 := (HB2.out).b2.frozen 1
    have fz2 := (HB2.out).b2.frozen 2
    have fz3 := (HB2.out).b2.frozen 3
    obtain ⟨z0c, z1c, z2c, z3c⟩ := (HB2.out).b2.cells
    have herr := (HB2.out).err
    obtain ⟨wf, hwf⟩ : ∃ wf, stT w2 (w.heap.size + 1) z0 = wf := ⟨_, rfl⟩
    rw [hwf] at herr
    unfold stT at hwf
    have Herr := Lib.hid herr
    have hwf : ((((w2).setCell ⟨w.heap.size + 1, 0, none⟩ (.slice none 0 0)).setCell ⟨w.heap.size + 1, 1, none⟩ (.slice none 0 0)).setCell ⟨w.heap.size + 1, 2, none⟩ (.int .i64 0)).setCell ⟨w.heap.size + 1, 3, none⟩ (.int .i64 0) = wf := hwf
    clear herr
    go_wp2
    clear hwf fz0 fz1 fz2 fz3 z0c z1c z2c z3c
    have q0 : wf.cell? ⟨w.heap.size + 1, 0, none⟩ = some (.slice none 0 0) := Herr.out.1.cells.1
    have q1 : wf.cell? ⟨w.heap.size + 1, 1, none⟩ = some (.slice none 0 0) := Herr.out.1.cells.2.1
    have q2 : wf.cell? ⟨w.heap.size + 1, 2, none⟩ = some (.int .i64 0) := Herr.out.1.cells.2.2.1
    have q3 : wf.cell? ⟨w.heap.size + 1, 3, none⟩ = some (.int .i64 0) := Herr.out.1.cells.2.2.2
    refine bodyPost_ret (v := .tuple #[.agg #[.slice none 0 0, .slice none 0 0, .int .i64 0, .int .i64 0], .int .i64 1]) (by simp [results, Try.results32, go_sem, q0, q1, q2, q3]) rfl ?_
    exact ⟨z0, rfl, z0_at _, rfl, Herr.out.2⟩
  have hd : (x.t.nw == 1099511627776) = false := by simpa using h4
  have He0 : putE x.t page a = nxE x.t := by rw [HE.out, if_pos (by rw [Bool.and_eq_true, Bool.and_eq_true, inB_iff, inB_iff, Bool.not_eq_true', decide_eq_false_iff_not]; exact ⟨⟨by omega, by omega⟩, h4⟩)]
  rw [He0]
  clear He0 HE B h4
  by_cases hx0 : nxE x.t = 0
  rotate_left
  · have hdx : (nxE x.t != 0) = true := by simpa using hx0
    have HNX0 := Lib.hid (fun (W : World) (hW : x.At W) => rnext_ok W x hW HT0.out)
    generalize hxe : nxE x.t = E at *
    have Hdx : Hid (¬ E = 0) := hx0
    clear hxe hx0
    go_enter Try.func32, Try.ntmps32
    go_wp2_with fail
    refine HMY.out.mono ?_
    rintro e w2 ⟨rfl, hm2⟩
    have HB2 := Lib.hid (HB.out.keep hm2)
    have HX2 := Lib.hid (HX.out.keep hm2)
    obtain ⟨d0, d1, d2, d3⟩ := HB2.out.b1.cells
    clear hm2 hw1 c0 c1 c2 c3
    have HNX := Lib.hid (HNX0.out w2 HX2.out)
    go_wp2_with fail
    refine HNX.out.mono ?_
    rintro e w3 ⟨rfl, hm3⟩
    have HB3 := Lib.hid (HB2.out.keep hm3)
    have HX3 := Lib.hid (HX2.out.keep hm3)
    clear d0 d1 d2 d3 hm3 HNX
    have fz0 := (HB3.out).b2.frozen 0
    have fz1 := (HB3.out).b2.frozen 1
    have fz2 := (HB3.out).b2.frozen 2
    have fz3 := (HB3.out).b2.frozen 3
    obtain ⟨z0c, z1c, z2c, z3c⟩ := (HB3.out).b2.cells
    have herr := (HB3.out).err
    obtain ⟨wf, hwf⟩ : ∃ wf, stT w3 (w.heap.size + 1) z0 = wf := ⟨_, rfl⟩
    rw [hwf] at herr
    unfold stT at hwf
    have Herr := Lib.hid herr
    have hwf : ((((w3).setCell ⟨w.heap.size + 1, 0, none⟩ (.slice none 0 0)).setCell ⟨w.heap.size + 1, 1, none⟩ (.slice none 0 0)).setCell ⟨w.heap.size + 1, 2, none⟩ (.int .i64 0)).setCell ⟨w.heap.size + 1, 3, none⟩ (.int .i64 0) = wf := hwf
    clear herr
    go_wp2
    clear hwf fz0 fz1 fz2 fz3 z0c z1c z2c z3c
    have q0 : wf.cell? ⟨w.heap.size + 1, 0, none⟩ = some (.slice none 0 0) := Herr.out.1.cells.1
    have q1 : wf.cell? ⟨w.heap.size + 1, 1, none⟩ = some (.slice none 0 0) := Herr.out.1.cells.2.1
    have q2 : wf.cell? ⟨w.heap.size + 1, 2, none⟩ = some (.int .i64 0) := Herr.out.1.cells.2.2.1
    have q3 : wf.cell? ⟨w.heap.size + 1, 3, none⟩ = some (.int .i64 0) := Herr.out.1.cells.2.2.2
    refine bodyPost_ret (v := .tuple #[.agg #[.slice none 0 0, .slice none 0 0, .int .i64 0, .int .i64 0], .int .i64 E]) (by simp [results, Try.results32, go_sem, q0, q1, q2, q3]) rfl ?_
    exact ⟨z0, rfl, z0_at _, by rw [if_neg Hdx.out]; rfl, Herr.out.2⟩
  obtain ⟨hg, hu0, hu1⟩ := nx_in HT0.out hx0
  have Hx0 := Lib.hid hx0
  rw [Hsl.out] at hg
  have hk2 := HT0.out.k2
  have hnw := HT0.out.n2
  have hnw1 := HT0.out.n1
  obtain ⟨i, rfl⟩ : ∃ i : Nat, page = i := ⟨page.toNat, by omega⟩
  have hi : i < x.n := by omega
  have HNX0 := Lib.hid (fun (W : World) (hW : x.At W) => rnext_ok W x hW HT0.out)
  rw [hx0] at HNX0
  have HT : Hid (putT x.t i a = ⟨x.t.pg.set i ⟨(nxG x.t : Int), nxU x.t, a⟩, x.t.sg.set (nxG x.t) (fillT x.t.sl (nxU x.t + 1) (x.t.nw + 1)), x.t.sl, x.t.nw + 1⟩) := Lib.hid rfl
  clear hx0
  generalize nxG x.t = G at *
  generalize nxU x.t = U at *
  have hwU : IntKind.i64.wrap (U + 1) = U + 1 := by rw [IntKind.wrap_i64]; omega
  have hwN : IntKind.i64.wrap (x.t.nw + 1) = x.t.nw + 1 := by rw [IntKind.wrap_i64]; omega
  have Hu : Hid (0 ≤ U ∧ U < x.t.sl) := Lib.hid ⟨hu0, hu1⟩
  clear hu0 hu1 hk2 hnw hnw1
  go_enter Try.func32, Try.ntmps32
  go_wp2_with fail
  refine HMY.out.mono ?_
  rintro e w2 ⟨rfl, hm2⟩
  have HB2 := Lib.hid (HB.out.keep hm2)
  have HX2 := Lib.hid (HX.out.keep hm2)
  obtain ⟨d0, d1, d2, d3⟩ := HB2.out.b1.cells
  clear hm2 hw1 c0 c1 c2 c3
  have HNX := Lib.hid (HNX0.out w2 HX2.out)
  go_wp2_with fail
  refine HNX.out.mono ?_
  rintro e w3 ⟨rfl, hm3⟩
  have HB3 := Lib.hid (HB2.out.keep hm3)
  have HX3 := Lib.hid (HX2.out.keep hm3)
  clear d0 d1 d2 d3 hm3 HNX
  by_cases hf : U + 1 = x.t.sl
  · have hdf : (U + 1 == x.t.sl) = true := by simpa using hf
    have Hft : Hid (fillT x.t.sl (U + 1) (x.t.nw + 1) = ⟨2, U + 1, x.t.nw + 1⟩) := by unfold fillT; rw [if_pos hf]; exact Lib.hid rfl
    clear hf
    obtain ⟨d0, d1, d2, d3⟩ := HB3.out.b1.cells
    have hr4 : RBx (w3.alloc (.cells #[.int .i64 1, .int .i64 (U + 1), .int .i64 (x.t.nw + 1)] 45)) w3.heap.size 45 ⟨1, U + 1, x.t.nw + 1⟩ := RBx.new w3 45 ⟨1, U + 1, x.t.nw + 1⟩
    have hm4 : Mod (fun _ => False) w3 (w3.alloc (.cells #[.int .i64 1, .int .i64 (U + 1), .int .i64 (x.t.nw + 1)] 45)) := (Mod.refl _ w3).alloc _
    obtain ⟨w4, hw4⟩ : ∃ w4, w3.alloc (.cells #[.int .i64 1, .int .i64 (U + 1), .int .i64 (x.t.nw + 1)] 45) = w4 := ⟨_, rfl⟩
    rw [hw4] at hr4 hm4
    obtain ⟨r0, r1, r2⟩ := hr4.cells
    have HB4 := Lib.hid (HB3.out.keep hm4)
    obtain ⟨g0, g1, g2, g3⟩ := HB4.out.b1.cells
    have rf0 := hr4.frozen 0
    have hr5 : RBx (w4.setCell ⟨w3.heap.size, 0, none⟩ (.int .i64 2)) w3.heap.size 45 ⟨2, U + 1, x.t.nw + 1⟩ := heap_set hr4 0 (.int .i64 2)
    have hm5 : Mod (fun _ => False) w3 (w4.setCell ⟨w3.heap.size, 0, none⟩ (.int .i64 2)) := (((hm4.mono (G := fun k => k = w3.heap.size) (fun _ _ h => h.elim))).one (fun _ => rfl) 0 _).mono (fun k hk e => by omega)
    obtain ⟨w5, hw5⟩ : ∃ w5, w4.setCell ⟨w3.heap.size, 0, none⟩ (.int .i64 2) = w5 := ⟨_, rfl⟩
    rw [hw5] at hr5 hm5
    have HB5 := Lib.hid (HB3.out.keep hm5)
    have HX5 := Lib.hid (HX3.out.keep hm5)
    have HR5 := Lib.hid hr5
    have HW := Lib.hid (rwith_ps w5 x HX5.out hn1 hm1 (by omega) (by omega) i hi G hg ⟨(G : Int), U, a⟩ ⟨2, U + 1, x.t.nw + 1⟩)
    clear hr4 hr5 hm4 hm5
    have e5 := HB5.out.b1.cells
    have t5 := HR5.out.cells
    obtain ⟨e0, e1, e2, e3⟩ := e5
    obtain ⟨t0, t1, t2⟩ := t5
    go_wp2_with fail
    refine HW.out.mono ?_
    rintro e w6 ⟨y, rfl, hy, hyt, hm6⟩
    have HB6 := Lib.hid (HB5.out.keep hm6)
    clear d0 d1 d2 d3 g0 g1 g2 g3 r0 r1 r2 hw4 HW hm6 e0 e1 e2 e3 t0 t1 t2 rf0 hw5
    have hb7 := Tbl.new HB6.out.old hy hyt
    have HB7 := Lib.hid (HB6.out.keep ((Mod.refl _ w6).alloc (.cells #[.slice y.P y.n y.c, .slice y.S y.m y.d, .int .i64 y.t.sl, .int .i64 y.t.nw] 27)))
    obtain ⟨w7, hw7⟩ : ∃ w7, w6.alloc (.cells #[.slice y.P y.n y.c, .slice y.S y.m y.d, .int .i64 y.t.sl, .int .i64 y.t.nw] 27) = w7 := ⟨_, rfl⟩
    rw [hw7] at hb7 HB7
    have hb8 := hb7.tick (x.t.nw + 1)
    have HB8 := Lib.hid (HB7.out.other ((Mod.refl (fun k => k = w6.heap.size) w7).one (fun _ => rfl) 3 (.int .i64 (x.t.nw + 1))) (fun k hk e => by have := HB6.out.sz; omega))
    obtain ⟨w8, hw8⟩ : ∃ w8, w7.setCell ⟨w6.heap.size, 3, none⟩ (.int .i64 (x.t.nw + 1)) = w8 := ⟨_, rfl⟩
    rw [hw8] at hb8 HB8
    have hfin := HB8.out.res hb8.at_
    obtain ⟨wf, hwf⟩ : ∃ wf, stT w8 (w.heap.size + 1) (⟨y.P, y.n, y.c, y.S, y.m, y.d, ⟨y.t.pg, y.t.sg, y.t.sl, x.t.nw + 1⟩⟩ : TV) = wf := ⟨_, rfl⟩
    rw [hwf] at hfin
    unfold stT at hwf
    have hwf : (((w8.setCell ⟨w.heap.size + 1, 0, none⟩ (.slice y.P y.n y.c)).setCell ⟨w.heap.size + 1, 1, none⟩ (.slice y.S y.m y.d)).setCell ⟨w.heap.size + 1, 2, none⟩ (.int .i64 y.t.sl)).setCell ⟨w.heap.size + 1, 3, none⟩ (.int .i64 (x.t.nw + 1)) = wf := hwf
    have Hfin := Lib.hid hfin
    have Hyt := Lib.hid hb8.t
    obtain ⟨d0, d1, d2, d3⟩ := HB7.out.b1.cells
    obtain ⟨r0, r1, r2, r3⟩ := hb7.bx.cells
    have rf3 := hb7.bx.frozen 3
    obtain ⟨t0, t1, t2, t3⟩ := hb8.bx.cells
    have fz0 := HB8.out.b2.frozen 0
    have fz1 := HB8.out.b2.frozen 1
    have fz2 := HB8.out.b2.frozen 2
    have fz3 := HB8.out.b2.frozen 3
    obtain ⟨z0c, z1c, z2c, z3c⟩ := HB8.out.b2.cells
    clear hfin hy hyt hb7 hb8
    go_wp2
    clear hwf fz0 fz1 fz2 fz3 z0c z1c z2c z3c
    obtain ⟨q0, q1, q2, q3⟩ := Hfin.out.2.1.cells
    refine bodyPost_ret (v := .tuple #[.agg #[.slice y.P y.n y.c, .slice y.S y.m y.d, .int .i64 y.t.sl, .int .i64 (x.t.nw + 1)], .int .i64 0]) (by simp [results, Try.results32, go_sem, q0, q1, q2, q3]) rfl ?_
    exact ⟨(⟨y.P, y.n, y.c, y.S, y.m, y.d, ⟨y.t.pg, y.t.sg, y.t.sl, x.t.nw + 1⟩⟩ : TV), by rw [Hx0.out], Hfin.out.1, by rw [if_pos Hx0.out, HT.out, Hyt.out, Hft.out], Hfin.out.2.2⟩
  · have hdf : (U + 1 == x.t.sl) = false := by simpa using hf
    have Hft : Hid (fillT x.t.sl (U + 1) (x.t.nw + 1) = ⟨1, U + 1, x.t.nw + 1⟩) := by unfold fillT; rw [if_neg hf]; exact Lib.hid rfl
    clear hf
    obtain ⟨d0, d1, d2, d3⟩ := HB3.out.b1.cells
    have hr4 : RBx (w3.alloc (.cells #[.int .i64 1, .int .i64 (U + 1), .int .i64 (x.t.nw + 1)] 45)) w3.heap.size 45 ⟨1, U + 1, x.t.nw + 1⟩ := RBx.new w3 45 ⟨1, U + 1, x.t.nw + 1⟩
    have hm4 : Mod (fun _ => False) w3 (w3.alloc (.cells #[.int .i64 1, .int .i64 (U + 1), .int .i64 (x.t.nw + 1)] 45)) := (Mod.refl _ w3).alloc _
    obtain ⟨w4, hw4⟩ : ∃ w4, w3.alloc (.cells #[.int .i64 1, .int .i64 (U + 1), .int .i64 (x.t.nw + 1)] 45) = w4 := ⟨_, rfl⟩
    rw [hw4] at hr4 hm4
    obtain ⟨r0, r1, r2⟩ := hr4.cells
    have HB4 := Lib.hid (HB3.out.keep hm4)
    obtain ⟨g0, g1, g2, g3⟩ := HB4.out.b1.cells
    have hr5 := hr4
    have hm5 := hm4
    have HB5 := Lib.hid (HB3.out.keep hm5)
    have HX5 := Lib.hid (HX3.out.keep hm5)
    have HR5 := Lib.hid hr5
    have HW := Lib.hid (rwith_ps w4 x HX5.out hn1 hm1 (by omega) (by omega) i hi G hg ⟨(G : Int), U, a⟩ ⟨1, U + 1, x.t.nw + 1⟩)
    clear hr4 hr5 hm4 hm5
    go_wp2_with fail
    refine HW.out.mono ?_
    rintro e w6 ⟨y, rfl, hy, hyt, hm6⟩
    have HB6 := Lib.hid (HB5.out.keep hm6)
    clear d0 d1 d2 d3 g0 g1 g2 g3 r0 r1 r2 hw4 HW hm6
    have hb7 := Tbl.new HB6.out.old hy hyt
    have HB7 := Lib.hid (HB6.out.keep ((Mod.refl _ w6).alloc (.cells #[.slice y.P y.n y.c, .slice y.S y.m y.d, .int .i64 y.t.sl, .int .i64 y.t.nw] 27)))
    obtain ⟨w7, hw7⟩ : ∃ w7, w6.alloc (.cells #[.slice y.P y.n y.c, .slice y.S y.m y.d, .int .i64 y.t.sl, .int .i64 y.t.nw] 27) = w7 := ⟨_, rfl⟩
    rw [hw7] at hb7 HB7
    have hb8 := hb7.tick (x.t.nw + 1)
    have HB8 := Lib.hid (HB7.out.other ((Mod.refl (fun k => k = w6.heap.size) w7).one (fun _ => rfl) 3 (.int .i64 (x.t.nw + 1))) (fun k hk e => by have := HB6.out.sz; omega))
    obtain ⟨w8, hw8⟩ : ∃ w8, w7.setCell ⟨w6.heap.size, 3, none⟩ (.int .i64 (x.t.nw + 1)) = w8 := ⟨_, rfl⟩
    rw [hw8] at hb8 HB8
    have hfin := HB8.out.res hb8.at_
    obtain ⟨wf, hwf⟩ : ∃ wf, stT w8 (w.heap.size + 1) (⟨y.P, y.n, y.c, y.S, y.m, y.d, ⟨y.t.pg, y.t.sg, y.t.sl, x.t.nw + 1⟩⟩ : TV) = wf := ⟨_, rfl⟩
    rw [hwf] at hfin
    unfold stT at hwf
    have hwf : (((w8.setCell ⟨w.heap.size + 1, 0, none⟩ (.slice y.P y.n y.c)).setCell ⟨w.heap.size + 1, 1, none⟩ (.slice y.S y.m y.d)).setCell ⟨w.heap.size + 1, 2, none⟩ (.int .i64 y.t.sl)).setCell ⟨w.heap.size + 1, 3, none⟩ (.int .i64 (x.t.nw + 1)) = wf := hwf
    have Hfin := Lib.hid hfin
    have Hyt := Lib.hid hb8.t
    obtain ⟨d0, d1, d2, d3⟩ := HB7.out.b1.cells
    obtain ⟨r0, r1, r2, r3⟩ := hb7.bx.cells
    have rf3 := hb7.bx.frozen 3
    obtain ⟨t0, t1, t2, t3⟩ := hb8.bx.cells
    have fz0 := HB8.out.b2.frozen 0
    have fz1 := HB8.out.b2.frozen 1
    have fz2 := HB8.out.b2.frozen 2
    have fz3 := HB8.out.b2.frozen 3
    obtain ⟨z0c, z1c, z2c, z3c⟩ := HB8.out.b2.cells
    clear hfin hy hyt hb7 hb8
    go_wp2
    clear hwf fz0 fz1 fz2 fz3 z0c z1c z2c z3c
    obtain ⟨q0, q1, q2, q3⟩ := Hfin.out.2.1.cells
    refine bodyPost_ret (v := .tuple #[.agg #[.slice y.P y.n y.c, .slice y.S y.m y.d, .int .i64 y.t.sl, .int .i64 (x.t.nw + 1)], .int .i64 0]) (by simp [results, Try.results32, go_sem, q0, q1, q2, q3]) rfl ?_
    exact ⟨(⟨y.P, y.n, y.c, y.S, y.m, y.d, ⟨y.t.pg, y.t.sg, y.t.sl, x.t.nw + 1⟩⟩ : TV), by rw [Hx0.out], Hfin.out.1, by rw [if_pos Hx0.out, HT.out, Hyt.out, Hft.out], Hfin.out.2.2⟩
end Go.Proofs.Ythbcgbbcoanbdaa
