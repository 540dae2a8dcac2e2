/-
  TableNexts: behind a Put the next image stands in the next slot, or at the beginning of the first free segment.
-/
import Derived.Test.YtimkejjoggglpaaTLaw
import Derived.Test.YtimkejjoggglpaaTLMath2
namespace Go.Proofs.Ytimkejjoggglpaa
open Go Go.RowKit

set_option maxRecDepth 100000 in
set_option maxHeartbeats 6400000 in
theorem nexts_walk (x : TV) (W : World) (h : x.At W) (page a : Int) :
    Calls Try.prog 8 #[.agg #[.slice x.P x.n x.c, .slice x.S x.m x.d, .int .i64 x.t.sl, .int .i64 x.t.nw], .int .i64 page, .int .i64 a] W fun e w' => e = .returned (.bool true) ∧ Below W.heap.size W w' := by
  obtain ⟨w1, hw1⟩ : ∃ w1, W.alloc (.cells #[.slice x.P x.n x.c, .slice x.S x.m x.d, .int .i64 x.t.sl, .int .i64 x.t.nw] 27) = w1 := ⟨_, rfl⟩
  have hb1 : Tbl W w1 W.heap.size x x.t := by
    rw [← hw1]
    exact Tbl.new (Mod.refl _ W) h rfl
  have HB := Lib.hid hb1
  clear hb1
  have Hpl : Hid (x.t.pg.length = x.n) := h.pg.len
  have Hsl : Hid (x.t.sg.length = x.m) := h.sg.len
  clear h
  cases hlt : (decide (x.n ≤ 40) && decide (x.m ≤ 40)) with
  | false =>
    go_enter Try.func8, Try.ntmps8
    go_wp2_with fail
    refine (awake_ok _).mono ?_
    rintro e w2 ⟨rfl, hm2⟩
    have HB2 := Lib.hid (HB.out.keep hm2)
    obtain ⟨c0, c1, c2, c3⟩ := HB2.out.bx.cells
    clear hm2 hw1
    go_wp2_with fail
    refine (light_ok _ x).mono ?_
    rintro e w3 ⟨rfl, hm3⟩
    have HB3 := Lib.hid (HB2.out.keep hm3)
    clear hm3 c0 c1 c2 c3
    rw [hlt]
    go_wp2
    go_ret
    exact ⟨rfl, HB3.out.old.below (Nat.le_refl _) (fun _ _ => id)⟩
  | true =>
  have hnm : x.n ≤ 40 ∧ x.m ≤ 40 := by simpa using hlt
  have L : Hid (x.t.pg.length ≤ 1000 ∧ x.t.sg.length ≤ 1000) := by rw [Hpl.out, Hsl.out]; exact Lib.hid ⟨by omega, by omega⟩
  obtain ⟨hn, hm⟩ := hnm
  by_cases hz : putE x.t page a = 0
  rotate_left
  · have hE0 : (putE x.t page a == 0) = false := by simpa using hz
    have hE1 : (putE x.t page a != 0) = true := by simpa using hz
    have Hz := Lib.hid hz
    have HPA := Lib.hid (fun V (hV : Tbl W V W.heap.size x x.t) => l_put hV L.out page a)
    clear hz
    generalize putE x.t page a = E at *
    go_enter Try.func8, Try.ntmps8
    go_wp2_with fail
    refine (awake_ok _).mono ?_
    rintro e w2 ⟨rfl, hm2⟩
    have HB2 := Lib.hid (HB.out.keep hm2)
    obtain ⟨c0, c1, c2, c3⟩ := HB2.out.bx.cells
    clear hm2 hw1
    go_wp2_with fail
    refine (light_ok _ x).mono ?_
    rintro e w3 ⟨rfl, hm3⟩
    have HB3 := Lib.hid (HB2.out.keep hm3)
    clear hm3 c0 c1 c2 c3
    rw [hlt]
    have HPT := Lib.hid (HPA.out _ HB3.out)
    obtain ⟨c0, c1, c2, c3⟩ := HB3.out.bx.cells
    go_wp2_with fail
    refine HPT.out.mono ?_
    rintro e w6 ⟨y, rfl, ha, ht, hm6⟩
    have HB6 := Lib.hid (HB3.out.keep hm6)
    rw [if_neg Hz.out] at ht
    have HU6 := Lib.hid (Tbl.new (T := noTb) (HB6.out.old) ha ht)
    obtain ⟨v6, hv6⟩ : ∃ v6, w6.alloc (.cells #[.slice y.P y.n y.c, .slice y.S y.m y.d, .int .i64 y.t.sl, .int .i64 y.t.nw] 27) = v6 := ⟨_, rfl⟩
    rw [hv6] at HU6
    have hmv6 : Mod (fun _ => False) w6 v6 := by rw [← hv6]; exact (Mod.refl _ w6).alloc _
    have HB7 := Lib.hid (HB6.out.keep hmv6)
    clear hm6 c0 c1 c2 c3 HPT ha ht hmv6
    have hyn : y.n = 0 := by rw [HU6.out.n]; rfl
    have hyd : (((y.n : Nat) : Int) == 0) = true := by rw [hyn]; rfl
    obtain ⟨c0, c1, c2, c3⟩ := HU6.out.bx.cells
    clear hyn
    go_wp2
    go_ret
    exact ⟨rfl, HB7.out.old.below (Nat.le_refl _) (fun _ _ => id)⟩
  have Hz := Lib.hid hz
  obtain ⟨hmay, hx0, ⟨hp0, hp1⟩, _, _⟩ := putE_zero hz
  rw [Hpl.out] at hp1
  obtain ⟨i, rfl⟩ : ∃ i : Nat, page = i := ⟨page.toNat, by omega⟩
  have hi : i < x.n := by omega
  have Hput := Lib.hid (put_may hz)
  obtain ⟨hg, hu0, hu1⟩ := nx_in hmay hx0
  have hk2 := hmay.k2
  have Hpg : Hid (atS (putT x.t i a).pg i = ⟨(nxG x.t : Int), nxU x.t, a⟩) := Lib.hid (put_pg (by rw [Hpl.out]; exact hi))
  have Hls : Hid ((putT x.t i a).pg.length = x.n ∧ (putT x.t i a).sg.length = x.m) := by
    rw [← Hpl.out, ← Hsl.out]
    exact Lib.hid ⟨List.length_set, List.length_set⟩
  have L2 : Hid ((putT x.t i a).pg.length ≤ 1000 ∧ (putT x.t i a).sg.length ≤ 1000) := by rw [Hls.out.1, Hls.out.2]; exact Lib.hid ⟨by omega, by omega⟩
  have Hnext := Lib.hid (fun hr => put_next hz hr)
  have Hfull := Lib.hid (fun hr he => put_next_full hz hr he)
  clear hz hmay hx0
  generalize hGG : nxG x.t = G at *
  generalize hUU : nxU x.t = U at *
  clear hGG hUU
  by_cases hr : U + 1 < x.t.sl
  · obtain ⟨n1, n2, n3⟩ := Hnext.out hr
    have hru : decide (U + 1 < x.t.sl) = true := by simpa using hr
    have N123 := Lib.hid (And.intro n1 (And.intro n2 n3))
    clear n1 n2 n3
    go_enter Try.func8, Try.ntmps8
    go_wp2_with fail
    refine (awake_ok _).mono ?_
    rintro e w2 ⟨rfl, hm2⟩
    have HB2 := Lib.hid (HB.out.keep hm2)
    obtain ⟨c0, c1, c2, c3⟩ := HB2.out.bx.cells
    clear hm2 hw1
    go_wp2_with fail
    refine (light_ok _ x).mono ?_
    rintro e w3 ⟨rfl, hm3⟩
    have HB3 := Lib.hid (HB2.out.keep hm3)
    clear hm3 c0 c1 c2 c3
    rw [hlt]
    have HPT := Lib.hid (l_put HB3.out L.out i a)
    rw [Hz.out] at HPT
    obtain ⟨c0, c1, c2, c3⟩ := HB3.out.bx.cells
    go_wp2_with fail
    refine HPT.out.mono ?_
    rintro e w6 ⟨y, rfl, ha, ht, hm6⟩
    have HB6 := Lib.hid (HB3.out.keep hm6)
    rw [if_pos rfl] at ht
    have HU6 := Lib.hid (Tbl.new (T := putT x.t i a) (HB6.out.old) ha ht)
    obtain ⟨v6, hv6⟩ : ∃ v6, w6.alloc (.cells #[.slice y.P y.n y.c, .slice y.S y.m y.d, .int .i64 y.t.sl, .int .i64 y.t.nw] 27) = v6 := ⟨_, rfl⟩
    rw [hv6] at HU6
    have hmv6 : Mod (fun _ => False) w6 v6 := by rw [← hv6]; exact (Mod.refl _ w6).alloc _
    have HB7 := Lib.hid (HB6.out.keep hmv6)
    clear hm6 c0 c1 c2 c3 HPT ha ht hmv6
    have hyn : y.n = x.n := by rw [HU6.out.n, Hls.out.1]
    have hym : y.m = x.m := by rw [HU6.out.m, Hls.out.2]
    have hysl : y.t.sl = x.t.sl := by rw [HU6.out.t]; rfl
    obtain ⟨b, o, hP, hcs⟩ := HU6.out.at_.pg.cells (by omega)
    rw [HU6.out.t] at hcs
    obtain ⟨s0, s1, s2⟩ := hcs i (by omega)
    rw [Hpg.out] at s0 s1 s2
    have s0 : v6.cell? ⟨b, o + i * 3, none⟩ = some (.int .i64 (G : Int)) := s0
    have s1 : v6.cell? ⟨b, o + i * 3 + 1, none⟩ = some (.int .i64 U) := s1
    have s2 : v6.cell? ⟨b, o + i * 3 + 2, none⟩ = some (.int .i64 a) := s2
    obtain ⟨e0, e1, e2, e3⟩ := HU6.out.bx.cells
    rw [hP] at e0
    rw [hysl] at e2
    have him : (i : Int) < (y.n : Int) := by omega
    have Hyl := Lib.hid (And.intro hyn (And.intro hym hysl))
    obtain ⟨v7, hv7⟩ : ∃ v7, v6.alloc (.cells #[.int .i64 (G : Int), .int .i64 U, .int .i64 a] 34) = v7 := ⟨_, rfl⟩
    have hm7 : Mod (fun _ => False) v6 v7 := by rw [← hv7]; exact (Mod.refl _ v6).alloc _
    have HU7 := Lib.hid (HU6.out.keep hm7)
    have HR7 : Hid (RBx v7 v6.heap.size 34 ⟨(G : Int), U, a⟩) := by rw [← hv7]; exact RBx.new v6 _ ⟨(G : Int), U, a⟩
    have HNX := Lib.hid (l_next HU7.out L2.out)
    obtain ⟨f0, f1, f2, f3⟩ := HU7.out.bx.cells
    have hbs := HU6.out.bx.lt
    have hPs := Lib.hid hP
    clear hcs hyn hym hysl hm7
    rw [hP] at f0 HNX
    rw [Hyl.out.2.2] at f2
    rw [Hyl.out.2.2] at HNX
    clear hP
    rw [N123.out.1, N123.out.2.1, N123.out.2.2] at HNX
    go_wp2_with fail
    clear hv7 hv6 s0 s1 s2 e0 e1 e2 e3
    refine HNX.out.mono ?_
    rintro e w8 ⟨rfl, hm8⟩
    have HM8 := Lib.hid (HU7.out.old.trans hm8 (fun _ _ h => h))
    obtain ⟨g0, g1, g2, g3⟩ := (HU7.out.keep hm8).bx.cells
    rw [Hyl.out.2.2] at g2
    have h8 := HR7.out.keep hm8
    have r0 : w8.cell? ⟨v6.heap.size, 0, none⟩ = some (.int .i64 (G : Int)) := h8.cells.1
    have r1 : w8.cell? ⟨v6.heap.size, 1, none⟩ = some (.int .i64 U) := h8.cells.2.1
    clear hm8 h8 f0 f1 f2 f3 hr
    go_wp2
    go_ret
    exact ⟨by simp, HM8.out.below (Nat.le_refl _) (fun _ _ => id)⟩
  have hru : decide (U + 1 < x.t.sl) = false := by simpa using hr
  have Hfr := Lib.hid (fun he => Hfull.out hr he)
  by_cases hx1 : nxE (putT x.t i a) = 0
  rotate_left
  · obtain ⟨n4, n0, _⟩ := nx_no Hput.out hx1
    have Hf0 : Hid (freesI (putT x.t i a) = 0) := by rw [freesI_may Hput.out, n0]; exact Lib.hid rfl
    have N4 := Lib.hid n4
    clear n4 n0 hx1 hr
    go_enter Try.func8, Try.ntmps8
    go_wp2_with fail
    refine (awake_ok _).mono ?_
    rintro e w2 ⟨rfl, hm2⟩
    have HB2 := Lib.hid (HB.out.keep hm2)
    obtain ⟨c0, c1, c2, c3⟩ := HB2.out.bx.cells
    clear hm2 hw1
    go_wp2_with fail
    refine (light_ok _ x).mono ?_
    rintro e w3 ⟨rfl, hm3⟩
    have HB3 := Lib.hid (HB2.out.keep hm3)
    clear hm3 c0 c1 c2 c3
    rw [hlt]
    have HPT := Lib.hid (l_put HB3.out L.out i a)
    rw [Hz.out] at HPT
    obtain ⟨c0, c1, c2, c3⟩ := HB3.out.bx.cells
    go_wp2_with fail
    refine HPT.out.mono ?_
    rintro e w6 ⟨y, rfl, ha, ht, hm6⟩
    have HB6 := Lib.hid (HB3.out.keep hm6)
    rw [if_pos rfl] at ht
    have HU6 := Lib.hid (Tbl.new (T := putT x.t i a) (HB6.out.old) ha ht)
    obtain ⟨v6, hv6⟩ : ∃ v6, w6.alloc (.cells #[.slice y.P y.n y.c, .slice y.S y.m y.d, .int .i64 y.t.sl, .int .i64 y.t.nw] 27) = v6 := ⟨_, rfl⟩
    rw [hv6] at HU6
    have hmv6 : Mod (fun _ => False) w6 v6 := by rw [← hv6]; exact (Mod.refl _ w6).alloc _
    have HB7 := Lib.hid (HB6.out.keep hmv6)
    clear hm6 c0 c1 c2 c3 HPT ha ht hmv6
    have hyn : y.n = x.n := by rw [HU6.out.n, Hls.out.1]
    have hym : y.m = x.m := by rw [HU6.out.m, Hls.out.2]
    have hysl : y.t.sl = x.t.sl := by rw [HU6.out.t]; rfl
    obtain ⟨b, o, hP, hcs⟩ := HU6.out.at_.pg.cells (by omega)
    rw [HU6.out.t] at hcs
    obtain ⟨s0, s1, s2⟩ := hcs i (by omega)
    rw [Hpg.out] at s0 s1 s2
    have s0 : v6.cell? ⟨b, o + i * 3, none⟩ = some (.int .i64 (G : Int)) := s0
    have s1 : v6.cell? ⟨b, o + i * 3 + 1, none⟩ = some (.int .i64 U) := s1
    have s2 : v6.cell? ⟨b, o + i * 3 + 2, none⟩ = some (.int .i64 a) := s2
    obtain ⟨e0, e1, e2, e3⟩ := HU6.out.bx.cells
    rw [hP] at e0
    rw [hysl] at e2
    have him : (i : Int) < (y.n : Int) := by omega
    have Hyl := Lib.hid (And.intro hyn (And.intro hym hysl))
    obtain ⟨v7, hv7⟩ : ∃ v7, v6.alloc (.cells #[.int .i64 (G : Int), .int .i64 U, .int .i64 a] 34) = v7 := ⟨_, rfl⟩
    have hm7 : Mod (fun _ => False) v6 v7 := by rw [← hv7]; exact (Mod.refl _ v6).alloc _
    have HU7 := Lib.hid (HU6.out.keep hm7)
    have HR7 : Hid (RBx v7 v6.heap.size 34 ⟨(G : Int), U, a⟩) := by rw [← hv7]; exact RBx.new v6 _ ⟨(G : Int), U, a⟩
    have HNX := Lib.hid (l_next HU7.out L2.out)
    obtain ⟨f0, f1, f2, f3⟩ := HU7.out.bx.cells
    have hbs := HU6.out.bx.lt
    have hPs := Lib.hid hP
    clear hcs hyn hym hysl hm7
    rw [hP] at f0 HNX
    rw [Hyl.out.2.2] at f2
    rw [Hyl.out.2.2] at HNX
    clear hP
    rw [N4.out] at HNX
    generalize nxG (putT x.t i a) = G2 at *
    generalize nxU (putT x.t i a) = U2 at *
    go_wp2_with fail
    clear hv7 hv6 s0 s1 s2 e0 e1 e2 e3
    refine HNX.out.mono ?_
    rintro e w8 ⟨rfl, hm8⟩
    have HU8 := Lib.hid (HU7.out.keep hm8)
    obtain ⟨g0, g1, g2, g3⟩ := HU8.out.bx.cells
    have h8 := HR7.out.keep hm8
    have r0 : w8.cell? ⟨v6.heap.size, 0, none⟩ = some (.int .i64 (G : Int)) := h8.cells.1
    have r1 : w8.cell? ⟨v6.heap.size, 1, none⟩ = some (.int .i64 U) := h8.cells.2.1
    have HFR := Lib.hid (l_frees HU8.out L2.out)
    rw [Hf0.out] at HFR
    rw [Hyl.out.2.2] at g2 HFR
    clear hm8 h8 f0 f1 f2 f3
    go_wp2_with fail
    refine HFR.out.mono ?_
    rintro e w9 ⟨rfl, hm9⟩
    have HM9 := Lib.hid (HU8.out.old.trans hm9 (fun _ _ h => h))
    clear hm9
    go_wp2
    go_ret
    exact ⟨by simp, HM9.out.below (Nat.le_refl _) (fun _ _ => id)⟩
  obtain ⟨m1, m2, m3, m4⟩ := Hfr.out hx1
  rw [Hls.out.2] at m2
  have M3 := Lib.hid m3
  have M4 := Lib.hid m4
  have HX1 := Lib.hid hx1
  have HU0 := Lib.hid m1
  clear m1 m3 m4 hx1 hr
  go_enter Try.func8, Try.ntmps8
  go_wp2_with fail
  refine (awake_ok _).mono ?_
  rintro e w2 ⟨rfl, hm2⟩
  have HB2 := Lib.hid (HB.out.keep hm2)
  obtain ⟨c0, c1, c2, c3⟩ := HB2.out.bx.cells
  clear hm2 hw1
  go_wp2_with fail
  refine (light_ok _ x).mono ?_
  rintro e w3 ⟨rfl, hm3⟩
  have HB3 := Lib.hid (HB2.out.keep hm3)
  clear hm3 c0 c1 c2 c3
  rw [hlt]
  have HPT := Lib.hid (l_put HB3.out L.out i a)
  rw [Hz.out] at HPT
  obtain ⟨c0, c1, c2, c3⟩ := HB3.out.bx.cells
  go_wp2_with fail
  refine HPT.out.mono ?_
  rintro e w6 ⟨y, rfl, ha, ht, hm6⟩
  have HB6 := Lib.hid (HB3.out.keep hm6)
  rw [if_pos rfl] at ht
  have HU6 := Lib.hid (Tbl.new (T := putT x.t i a) (HB6.out.old) ha ht)
  obtain ⟨v6, hv6⟩ : ∃ v6, w6.alloc (.cells #[.slice y.P y.n y.c, .slice y.S y.m y.d, .int .i64 y.t.sl, .int .i64 y.t.nw] 27) = v6 := ⟨_, rfl⟩
  rw [hv6] at HU6
  have hmv6 : Mod (fun _ => False) w6 v6 := by rw [← hv6]; exact (Mod.refl _ w6).alloc _
  have HB7 := Lib.hid (HB6.out.keep hmv6)
  clear hm6 c0 c1 c2 c3 HPT ha ht hmv6
  have hyn : y.n = x.n := by rw [HU6.out.n, Hls.out.1]
  have hym : y.m = x.m := by rw [HU6.out.m, Hls.out.2]
  have hysl : y.t.sl = x.t.sl := by rw [HU6.out.t]; rfl
  obtain ⟨b, o, hP, hcs⟩ := HU6.out.at_.pg.cells (by omega)
  rw [HU6.out.t] at hcs
  obtain ⟨s0, s1, s2⟩ := hcs i (by omega)
  rw [Hpg.out] at s0 s1 s2
  have s0 : v6.cell? ⟨b, o + i * 3, none⟩ = some (.int .i64 (G : Int)) := s0
  have s1 : v6.cell? ⟨b, o + i * 3 + 1, none⟩ = some (.int .i64 U) := s1
  have s2 : v6.cell? ⟨b, o + i * 3 + 2, none⟩ = some (.int .i64 a) := s2
  obtain ⟨e0, e1, e2, e3⟩ := HU6.out.bx.cells
  rw [hP] at e0
  rw [hysl] at e2
  have him : (i : Int) < (y.n : Int) := by omega
  have Hyl := Lib.hid (And.intro hyn (And.intro hym hysl))
  obtain ⟨v7, hv7⟩ : ∃ v7, v6.alloc (.cells #[.int .i64 (G : Int), .int .i64 U, .int .i64 a] 34) = v7 := ⟨_, rfl⟩
  have hm7 : Mod (fun _ => False) v6 v7 := by rw [← hv7]; exact (Mod.refl _ v6).alloc _
  have HU7 := Lib.hid (HU6.out.keep hm7)
  have HR7 : Hid (RBx v7 v6.heap.size 34 ⟨(G : Int), U, a⟩) := by rw [← hv7]; exact RBx.new v6 _ ⟨(G : Int), U, a⟩
  have HNX := Lib.hid (l_next HU7.out L2.out)
  obtain ⟨f0, f1, f2, f3⟩ := HU7.out.bx.cells
  have hbs := HU6.out.bx.lt
  have hPs := Lib.hid hP
  clear hcs hyn hym hysl hm7
  rw [hP] at f0 HNX
  rw [Hyl.out.2.2] at f2
  rw [Hyl.out.2.2] at HNX
  clear hP
  rw [HX1.out, HU0.out] at HNX
  generalize nxG (putT x.t i a) = G2 at *
  go_wp2_with fail
  clear hv7 hv6 s0 s1 s2 e0 e1 e2 e3
  refine HNX.out.mono ?_
  rintro e w8 ⟨rfl, hm8⟩
  have HU8 := Lib.hid (HU7.out.keep hm8)
  obtain ⟨g0, g1, g2, g3⟩ := HU8.out.bx.cells
  have h8 := HR7.out.keep hm8
  have r0 : w8.cell? ⟨v6.heap.size, 0, none⟩ = some (.int .i64 (G : Int)) := h8.cells.1
  have r1 : w8.cell? ⟨v6.heap.size, 1, none⟩ = some (.int .i64 U) := h8.cells.2.1
  rw [Hyl.out.2.2] at g2
  clear hm8 h8 f0 f1 f2 f3
  obtain ⟨b2, o2, hS, hcs2⟩ := HU8.out.at_.sg.cells (by rw [Hyl.out.2.1]; omega)
  rw [HU8.out.t] at hcs2
  rw [Hyl.out.2.1] at hcs2
  have hHcs := Lib.hid hcs2
  have hym : y.m = x.m := Hyl.out.2.1
  rw [hS, hym] at g1
  clear hcs2 hS hym
  go_wp2
  go_loopw [15] (fun k wr => ∃ j : Nat, j ≤ G2 ∧ k = .int .i64 j ∧ wr = w8) (fun k _ => G2 - (intOf k).toNat)
  case atStart => exact ⟨0, Nat.zero_le _, rfl, rfl⟩
  case round =>
    obtain ⟨j, hj, rfl, hw⟩ := hrel
    subst hw
    by_cases hlt2 : j < G2
    · obtain ⟨s0, s1, s2⟩ := hHcs.out j (by omega)
      have hne := M4.out j hlt2
      generalize hT : atS (putT x.t i a).sg j = s at *
      have hd0 : (s.a == 0) = false := by simpa using hne
      clear hT s1 s2 hne
      have hjm : (j : Int) < (x.m : Int) := by omega
      have hjg : (j : Int) < (G2 : Int) := by omega
      go_wp2
      go_roundw
      case rel => exact ⟨j + 1, by omega, by go_num, by first | trivial | rfl⟩
      case measure => simp [intOf]; omega
    · obtain rfl : j = G2 := by omega
      obtain ⟨s0, s1, s2⟩ := hHcs.out j (by omega)
      have h0 := M3.out
      generalize hT : atS (putT x.t i a).sg j = s at *
      have hd0 : (s.a == 0) = true := by simpa using h0
      clear hT s1 s2 h0
      have hjm : (j : Int) < (x.m : Int) := by omega
      go_wp2
      go_ret
      exact ⟨by simp, HU8.out.old.below (Nat.le_refl _) (fun _ _ => id)⟩
end Go.Proofs.Ytimkejjoggglpaa
