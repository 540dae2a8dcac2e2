/-
  bobbinref10.Set, of a table that may be.
-/
import Derived.Test.YthbcgbbcoanbdaaRPut
import Derived.Test.YthbcgbbcoanbdaaTSet
import Derived.BigQuiet
namespace Go.Proofs.Ythbcgbbcoanbdaa
open Go Go.RowKit

theorem Bxt.res {w W : World} {x y : TV} (h : Bxt w W x) (hy : y.At W) :
    y.At (stT W (w.heap.size + 2) y) ∧ TBx (stT W (w.heap.size + 2) y) (w.heap.size + 2) y ∧ Mod (fun _ => False) w (stT W (w.heap.size + 2) y) :=
  ⟨hy.store h.b2 (stT_mod W _ y), h.b2.set y, h.old1 (stT_mod W _ y) (fun k hk e => by omega)⟩

set_option maxRecDepth 100000 in
set_option maxHeartbeats 1600000 in
theorem rset_ok (w : World) (x : TV) (h : x.At w) (ht : x.t.May) (page : Int) (p : Tr) :
    Calls Try.prog 33 #[.agg #[.slice x.P x.n x.c, .slice x.S x.m x.d, .int .i64 x.t.sl, .int .i64 x.t.nw], .int .i64 page, .agg #[.int .i64 p.a, .int .i64 p.b, .int .i64 p.c]] w fun e w' => TbAns w w' (setE x.t page p) (setT x.t page p) e := by
  obtain ⟨w1, hw1⟩ : ∃ w1, ((w.alloc (.cells #[.slice x.P x.n x.c, .slice x.S x.m x.d, .int .i64 x.t.sl, .int .i64 x.t.nw] 27)).alloc (.cells #[.int .i64 p.a, .int .i64 p.b, .int .i64 p.c] 34)).alloc (.cells #[.slice none 0 0, .slice none 0 0, .int .i64 0, .int .i64 0] 27) = w1 := ⟨_, rfl⟩
  have hb : Bxt w w1 x := by
    rw [← hw1]
    refine ⟨((TBx.new w x).keep ((Mod.refl _ _).alloc _)).keep ((Mod.refl _ _).alloc _), ?_, (((Mod.refl _ w).alloc _).alloc _).alloc _, by simp⟩
    have := TBx.new ((w.alloc (.cells #[.slice x.P x.n x.c, .slice x.S x.m x.d, .int .i64 x.t.sl, .int .i64 x.t.nw] 27)).alloc (.cells #[.int .i64 p.a, .int .i64 p.b, .int .i64 p.c] 34)) z0
    rw [World.size_alloc, World.size_alloc] at this
    exact this
  have hr : RBx w1 (w.heap.size + 1) 34 p := by
    rw [← hw1]
    have := (RBx.new (w.alloc (.cells #[.slice x.P x.n x.c, .slice x.S x.m x.d, .int .i64 x.t.sl, .int .i64 x.t.nw] 27)) 34 p).keep ((Mod.refl _ _).alloc (.cells #[.slice none 0 0, .slice none 0 0, .int .i64 0, .int .i64 0] 27))
    rw [World.size_alloc] at this
    exact this
  obtain ⟨c0, c1, c2, c3⟩ := hb.b1.cells
  have HB := Lib.hid hb
  have HR := Lib.hid hr
  have HX := Lib.hid (h.keep hb.old)
  have HMY := Lib.hid (rmay_ok w1 x HX.out ht)
  have HT0 := Lib.hid ht
  have Hpl : Hid (x.t.pg.length = x.n) := h.pg.len
  have Hsl : Hid (x.t.sg.length = x.m) := h.sg.len
  have hn0 : 1 ≤ x.n := by rw [← Hpl.out]; exact ht.p1
  have hn1 : x.n ≤ 1000 := by rw [← Hpl.out]; exact Nat.le_trans ht.p2 (by decide)
  have hm0 : 2 ≤ x.m := by rw [← Hsl.out]; exact ht.s1
  have hm1 : x.m ≤ 1000 := by rw [← Hsl.out]; exact Nat.le_trans ht.s2 (by decide)
  have HPL := Lib.hid (fun W => rplace_ok W x p h.sg.len.symm)
  clear hb hr h
  have HE : Hid (setE x.t page p = if (inB page 0 ((x.n : Int) - 1) && (eqT p emT || plB x.t p)) = true then (if !eqT p emT && takB x.t.pg page p then 5 else 0) else 1) := by rw [← Hpl.out]; unfold setE; rw [mayB_iff.2 ht, Bool.true_and]; exact Lib.hid rfl
  clear ht
  by_cases h0 : page < 0
  · have He1 : setE x.t page p = 1 := by rw [HE.out, if_neg (fun e => by have := inB_iff.1 (Bool.and_eq_true_iff.1 e).1; omega)]
    rw [He1]
    clear He1 HE HPL
    obtain ⟨d0, d1, d2, d3⟩ := HB.out.b1.cells
    obtain ⟨e0, e1, e2⟩ := HR.out.cells
    go_enter Try.func33, Try.ntmps33
    go_wp2_with fail
    refine (HMY.out).mono ?_
    rintro e w2 ⟨rfl, hm2⟩
    have HB2 := Lib.hid (HB.out.keep hm2)
    have HR2 := Lib.hid (HR.out.keep hm2)
    have HX2 := Lib.hid (HX.out.keep hm2)
    clear hm2 hw1 c0 c1 c2 c3 d0 d1 d2 d3 e0 e1 e2
    obtain ⟨d0, d1, d2, d3⟩ := HB2.out.b1.cells
    obtain ⟨e0, e1, e2⟩ := HR2.out.cells
    clear d1 d2 d3 e0 e1 e2
    have fz0 := (HB2.out).b2.frozen 0
    have fz1 := (HB2.out).b2.frozen 1
    have fz2 := (HB2.out).b2.frozen 2
    have fz3 := (HB2.out).b2.frozen 3
    obtain ⟨z0c, z1c, z2c, z3c⟩ := (HB2.out).b2.cells
    have herr := (HB2.out).err
    obtain ⟨wf, hwf⟩ : ∃ wf, stT w2 (w.heap.size + 2) z0 = wf := ⟨_, rfl⟩
    rw [hwf] at herr
    unfold stT at hwf
    have Herr := Lib.hid herr
    have hwf : ((((w2).setCell ⟨w.heap.size + 2, 0, none⟩ (.slice none 0 0)).setCell ⟨w.heap.size + 2, 1, none⟩ (.slice none 0 0)).setCell ⟨w.heap.size + 2, 2, none⟩ (.int .i64 0)).setCell ⟨w.heap.size + 2, 3, none⟩ (.int .i64 0) = wf := hwf
    clear herr
    go_wp2
    clear hwf fz0 fz1 fz2 fz3 z0c z1c z2c z3c
    have q0 : wf.cell? ⟨w.heap.size + 2, 0, none⟩ = some (.slice none 0 0) := Herr.out.1.cells.1
    have q1 : wf.cell? ⟨w.heap.size + 2, 1, none⟩ = some (.slice none 0 0) := Herr.out.1.cells.2.1
    have q2 : wf.cell? ⟨w.heap.size + 2, 2, none⟩ = some (.int .i64 0) := Herr.out.1.cells.2.2.1
    have q3 : wf.cell? ⟨w.heap.size + 2, 3, none⟩ = some (.int .i64 0) := Herr.out.1.cells.2.2.2
    refine bodyPost_ret (v := .tuple #[.agg #[.slice none 0 0, .slice none 0 0, .int .i64 0, .int .i64 0], .int .i64 1]) (by simp [results, Try.results33, go_sem, q0, q1, q2, q3]) rfl ?_
    exact ⟨z0, rfl, z0_at _, rfl, Herr.out.2⟩
  by_cases h1 : (x.n : Int) ≤ page
  · have He1 : setE x.t page p = 1 := by rw [HE.out, if_neg (fun e => by have := inB_iff.1 (Bool.and_eq_true_iff.1 e).1; omega)]
    rw [He1]
    clear He1 HE HPL
    obtain ⟨d0, d1, d2, d3⟩ := HB.out.b1.cells
    obtain ⟨e0, e1, e2⟩ := HR.out.cells
    go_enter Try.func33, Try.ntmps33
    go_wp2_with fail
    refine (HMY.out).mono ?_
    rintro e w2 ⟨rfl, hm2⟩
    have HB2 := Lib.hid (HB.out.keep hm2)
    have HR2 := Lib.hid (HR.out.keep hm2)
    have HX2 := Lib.hid (HX.out.keep hm2)
    clear hm2 hw1 c0 c1 c2 c3 d0 d1 d2 d3 e0 e1 e2
    obtain ⟨d0, d1, d2, d3⟩ := HB2.out.b1.cells
    obtain ⟨e0, e1, e2⟩ := HR2.out.cells
    clear d1 d2 d3 e0 e1 e2
    have fz0 := (HB2.out).b2.frozen 0
    have fz1 := (HB2.out).b2.frozen 1
    have fz2 := (HB2.out).b2.frozen 2
    have fz3 := (HB2.out).b2.frozen 3
    obtain ⟨z0c, z1c, z2c, z3c⟩ := (HB2.out).b2.cells
    have herr := (HB2.out).err
    obtain ⟨wf, hwf⟩ : ∃ wf, stT w2 (w.heap.size + 2) z0 = wf := ⟨_, rfl⟩
    rw [hwf] at herr
    unfold stT at hwf
    have Herr := Lib.hid herr
    have hwf : ((((w2).setCell ⟨w.heap.size + 2, 0, none⟩ (.slice none 0 0)).setCell ⟨w.heap.size + 2, 1, none⟩ (.slice none 0 0)).setCell ⟨w.heap.size + 2, 2, none⟩ (.int .i64 0)).setCell ⟨w.heap.size + 2, 3, none⟩ (.int .i64 0) = wf := hwf
    clear herr
    go_wp2
    clear hwf fz0 fz1 fz2 fz3 z0c z1c z2c z3c
    have q0 : wf.cell? ⟨w.heap.size + 2, 0, none⟩ = some (.slice none 0 0) := Herr.out.1.cells.1
    have q1 : wf.cell? ⟨w.heap.size + 2, 1, none⟩ = some (.slice none 0 0) := Herr.out.1.cells.2.1
    have q2 : wf.cell? ⟨w.heap.size + 2, 2, none⟩ = some (.int .i64 0) := Herr.out.1.cells.2.2.1
    have q3 : wf.cell? ⟨w.heap.size + 2, 3, none⟩ = some (.int .i64 0) := Herr.out.1.cells.2.2.2
    refine bodyPost_ret (v := .tuple #[.agg #[.slice none 0 0, .slice none 0 0, .int .i64 0, .int .i64 0], .int .i64 1]) (by simp [results, Try.results33, go_sem, q0, q1, q2, q3]) rfl ?_
    exact ⟨z0, rfl, z0_at _, rfl, Herr.out.2⟩
  obtain ⟨i, rfl⟩ : ∃ i : Nat, page = i := ⟨page.toNat, by omega⟩
  have hi : i < x.n := by omega
  rw [inB_iff.2 ⟨by omega, by omega⟩, Bool.true_and] at HE
  cases hpl : (eqT p emT || plB x.t p) with
  | false =>
    rw [hpl] at HPL HE
    have He1 : setE x.t i p = 1 := by rw [HE.out]; rfl
    rw [He1]
    clear He1 HE hpl
    obtain ⟨d0, d1, d2, d3⟩ := HB.out.b1.cells
    obtain ⟨e0, e1, e2⟩ := HR.out.cells
    go_enter Try.func33, Try.ntmps33
    go_wp2_with fail
    refine (HMY.out).mono ?_
    rintro e w2 ⟨rfl, hm2⟩
    have HB2 := Lib.hid (HB.out.keep hm2)
    have HR2 := Lib.hid (HR.out.keep hm2)
    have HX2 := Lib.hid (HX.out.keep hm2)
    clear hm2 hw1 c0 c1 c2 c3 d0 d1 d2 d3 e0 e1 e2
    obtain ⟨d0, d1, d2, d3⟩ := HB2.out.b1.cells
    obtain ⟨e0, e1, e2⟩ := HR2.out.cells
    go_wp2_with fail
    refine (HPL.out w2).mono ?_
    rintro e w3 ⟨rfl, hm3⟩
    have HB3 := Lib.hid (HB2.out.keep hm3)
    have HR3 := Lib.hid (HR2.out.keep hm3)
    have HX3 := Lib.hid (HX2.out.keep hm3)
    clear hm3 d0 d1 d2 d3 e0 e1 e2
    obtain ⟨d0, d1, d2, d3⟩ := HB3.out.b1.cells
    obtain ⟨e0, e1, e2⟩ := HR3.out.cells
    clear d0 d1 d2 d3 e0 e1 e2
    have fz0 := (HB3.out).b2.frozen 0
    have fz1 := (HB3.out).b2.frozen 1
    have fz2 := (HB3.out).b2.frozen 2
    have fz3 := (HB3.out).b2.frozen 3
    obtain ⟨z0c, z1c, z2c, z3c⟩ := (HB3.out).b2.cells
    have herr := (HB3.out).err
    obtain ⟨wf, hwf⟩ : ∃ wf, stT w3 (w.heap.size + 2) z0 = wf := ⟨_, rfl⟩
    rw [hwf] at herr
    unfold stT at hwf
    have Herr := Lib.hid herr
    have hwf : ((((w3).setCell ⟨w.heap.size + 2, 0, none⟩ (.slice none 0 0)).setCell ⟨w.heap.size + 2, 1, none⟩ (.slice none 0 0)).setCell ⟨w.heap.size + 2, 2, none⟩ (.int .i64 0)).setCell ⟨w.heap.size + 2, 3, none⟩ (.int .i64 0) = wf := hwf
    clear herr
    go_wp2
    clear hwf fz0 fz1 fz2 fz3 z0c z1c z2c z3c
    have q0 : wf.cell? ⟨w.heap.size + 2, 0, none⟩ = some (.slice none 0 0) := Herr.out.1.cells.1
    have q1 : wf.cell? ⟨w.heap.size + 2, 1, none⟩ = some (.slice none 0 0) := Herr.out.1.cells.2.1
    have q2 : wf.cell? ⟨w.heap.size + 2, 2, none⟩ = some (.int .i64 0) := Herr.out.1.cells.2.2.1
    have q3 : wf.cell? ⟨w.heap.size + 2, 3, none⟩ = some (.int .i64 0) := Herr.out.1.cells.2.2.2
    refine bodyPost_ret (v := .tuple #[.agg #[.slice none 0 0, .slice none 0 0, .int .i64 0, .int .i64 0], .int .i64 1]) (by simp [results, Try.results33, go_sem, q0, q1, q2, q3]) rfl ?_
    exact ⟨z0, rfl, z0_at _, rfl, Herr.out.2⟩
  | true =>
  rw [hpl] at HPL HE
  rw [if_pos rfl] at HE
  by_cases hpn : p.a < 0
  · have hem : eqT p emT = true := by
      rw [Bool.or_eq_true] at hpl
      rcases hpl with e | e
      · exact e
      · unfold plB at e
        rw [Bool.and_eq_true, Bool.and_eq_true, inB_iff] at e
        omega
    have He0 : setE x.t i p = 0 := by rw [HE.out, hem]; rfl
    have HT : Hid (setT x.t i p = ⟨x.t.pg.set i p, x.t.sg, x.t.sl, x.t.nw⟩) := by unfold setT; rw [if_pos hem, Int.toNat_natCast]; exact Lib.hid rfl
    rw [He0]
    have hdn : decide (0 ≤ p.a) = false := by rw [decide_eq_false_iff_not]; omega
    clear He0 HE hpl hem
    obtain ⟨d0, d1, d2, d3⟩ := HB.out.b1.cells
    obtain ⟨e0, e1, e2⟩ := HR.out.cells
    go_enter Try.func33, Try.ntmps33
    go_wp2_with fail
    refine (HMY.out).mono ?_
    rintro e w2 ⟨rfl, hm2⟩
    have HB2 := Lib.hid (HB.out.keep hm2)
    have HR2 := Lib.hid (HR.out.keep hm2)
    have HX2 := Lib.hid (HX.out.keep hm2)
    clear hm2 hw1 c0 c1 c2 c3 d0 d1 d2 d3 e0 e1 e2
    obtain ⟨d0, d1, d2, d3⟩ := HB2.out.b1.cells
    obtain ⟨e0, e1, e2⟩ := HR2.out.cells
    go_wp2_with fail
    refine (HPL.out w2).mono ?_
    rintro e w3 ⟨rfl, hm3⟩
    have HB3 := Lib.hid (HB2.out.keep hm3)
    have HR3 := Lib.hid (HR2.out.keep hm3)
    have HX3 := Lib.hid (HX2.out.keep hm3)
    clear hm3 d0 d1 d2 d3 e0 e1 e2
    obtain ⟨d0, d1, d2, d3⟩ := HB3.out.b1.cells
    obtain ⟨e0, e1, e2⟩ := HR3.out.cells
    go_wp2_with fail
    go_loopw [10] (fun k wr => ∃ j : Nat, j ≤ x.n ∧ k = .int .i64 j ∧ (True) ∧ Mod (fun _ => False) w3 wr) (fun k _ => x.n - (intOf k).toNat)
    case atStart => exact ⟨0, Nat.zero_le _, rfl, trivial, Mod.refl _ _⟩
    case round =>
      obtain ⟨j, hj, rfl, hno, hmr⟩ := hrel
      have Hno := Lib.hid hno
      have HMr := Lib.hid hmr
      have HBr := Lib.hid (HB3.out.keep hmr)
      have HRr := Lib.hid (HR3.out.keep hmr)
      have HXr := Lib.hid (HX3.out.keep hmr)
      clear hmr hno d0 d1 d2 d3 e0 e1 e2
      obtain ⟨d0, d1, d2, d3⟩ := HBr.out.b1.cells
      obtain ⟨e0, e1, e2⟩ := HRr.out.cells
      by_cases hlt : j < x.n
      · have hjI : (j : Int) < (x.n : Int) := by omega
        have hj0 : (0 : Int) ≤ (j : Int) := by omega
        by_cases hji : (j : Int) = (i : Int)
        · have hd : ((j : Int) != (i : Int)) = false := by simpa using hji
          clear hji
          go_wp2_with fail
          go_quiet (fail)
          go_wp2
          go_roundw
          case rel => exact ⟨j + 1, by omega, by go_num, trivial, HMr.out.drewN _⟩
          case measure => simp [intOf]; omega
        · have hd : ((j : Int) != (i : Int)) = true := by simpa using hji
          clear hji
          go_wp2_with fail
          go_quiet (fail)
          go_wp2
          go_roundw
          case rel => exact ⟨j + 1, by omega, by go_num, trivial, HMr.out.drewN _⟩
          case measure => simp [intOf]; omega
      · obtain rfl : j = x.n := by omega
        have HW := Lib.hid (rwith_p wr x HXr.out hn1 hm1 (by omega) (by omega) i hi p noT)
        go_wp2_with fail
        refine HW.out.mono ?_
        rintro e w5 ⟨y, rfl, hy, hyt, hm5⟩
        have HB5 := Lib.hid (HBr.out.keep hm5)
        clear d0 d1 d2 d3 e0 e1 e2 hm5 HW
        have fz0 := HB5.out.b2.frozen 0
        have fz1 := HB5.out.b2.frozen 1
        have fz2 := HB5.out.b2.frozen 2
        have fz3 := HB5.out.b2.frozen 3
        obtain ⟨z0c, z1c, z2c, z3c⟩ := HB5.out.b2.cells
        have hfin := HB5.out.res hy
        obtain ⟨wf, hwf⟩ : ∃ wf, stT w5 (w.heap.size + 2) y = wf := ⟨_, rfl⟩
        rw [hwf] at hfin
        unfold stT at hwf
        have Hfin := Lib.hid hfin
        have Hyt := Lib.hid hyt
        clear hfin hy hyt
        go_wp2
        clear hwf fz0 fz1 fz2 fz3 z0c z1c z2c z3c
        obtain ⟨q0, q1, q2, q3⟩ := Hfin.out.2.1.cells
        refine bodyPost_ret (v := .tuple #[.agg #[.slice y.P y.n y.c, .slice y.S y.m y.d, .int .i64 y.t.sl, .int .i64 y.t.nw], .int .i64 0]) (by simp [results, Try.results33, go_sem, q0, q1, q2, q3]) rfl ?_
        exact ⟨y, rfl, Hfin.out.1, by rw [if_pos rfl, HT.out, Hyt.out], Hfin.out.2.2⟩
  have hem : eqT p emT = false := by
    cases e : eqT p emT with
    | false => rfl
    | true =>
      have := eqT_iff.1 e
      rw [this] at hpn
      exact absurd (show emT.a < 0 by decide) hpn
  rw [hem, Bool.false_or] at hpl
  have hpb := hpl
  unfold plB at hpb
  rw [Bool.and_eq_true, Bool.and_eq_true, inB_iff, Hsl.out] at hpb
  have hp0 : 0 ≤ p.a := by omega
  have hp1 : p.a ≤ (x.m : Int) - 1 := by omega
  have hpa : ((p.a.toNat : Nat) : Int) = p.a := Int.toNat_of_nonneg hp0
  have HT : Hid (setT x.t i p = ⟨x.t.pg.set i p, x.t.sg.set p.a.toNat (fillT x.t.sl x.t.sl (ageT x.t p.a.toNat)), x.t.sl, x.t.nw⟩) := by unfold setT; rw [if_neg (by rw [hem]; decide), Int.toNat_natCast]; exact Lib.hid rfl
  rw [hem] at HE
  rw [show (!false && takB x.t.pg i p) = takB x.t.pg i p from rfl] at HE
  have hdn : decide (0 ≤ p.a) = true := by rw [decide_eq_true_eq]; exact hp0
  clear hem hpl hpb
  by_cases htk : takB x.t.pg i p = true
  · have He5 : setE x.t i p = 5 := by rw [HE.out, if_pos htk]
    rw [He5]
    have HTK : Hid (¬ ∀ j, j < x.n → takF x.t.pg i p j = false) := Lib.hid (fun hall => by
      obtain ⟨k, hk, h1, h2, h3⟩ := takB_iff.1 htk
      have := hall k (by rw [← Hpl.out]; exact hk)
      unfold takF slB at this
      rw [decide_eq_false h1, decide_eq_true h2, decide_eq_true h3] at this
      cases this)
    clear He5 HE htk
    obtain ⟨d0, d1, d2, d3⟩ := HB.out.b1.cells
    obtain ⟨e0, e1, e2⟩ := HR.out.cells
    go_enter Try.func33, Try.ntmps33
    go_wp2_with fail
    refine (HMY.out).mono ?_
    rintro e w2 ⟨rfl, hm2⟩
    have HB2 := Lib.hid (HB.out.keep hm2)
    have HR2 := Lib.hid (HR.out.keep hm2)
    have HX2 := Lib.hid (HX.out.keep hm2)
    clear hm2 hw1 c0 c1 c2 c3 d0 d1 d2 d3 e0 e1 e2
    obtain ⟨d0, d1, d2, d3⟩ := HB2.out.b1.cells
    obtain ⟨e0, e1, e2⟩ := HR2.out.cells
    go_wp2_with fail
    refine (HPL.out w2).mono ?_
    rintro e w3 ⟨rfl, hm3⟩
    have HB3 := Lib.hid (HB2.out.keep hm3)
    have HR3 := Lib.hid (HR2.out.keep hm3)
    have HX3 := Lib.hid (HX2.out.keep hm3)
    clear hm3 d0 d1 d2 d3 e0 e1 e2
    obtain ⟨d0, d1, d2, d3⟩ := HB3.out.b1.cells
    obtain ⟨e0, e1, e2⟩ := HR3.out.cells
    go_wp2_with fail
    go_loopw [10] (fun k wr => ∃ j : Nat, j ≤ x.n ∧ k = .int .i64 j ∧ (∀ q, q < j → takF x.t.pg i p q = false) ∧ Mod (fun _ => False) w3 wr) (fun k _ => x.n - (intOf k).toNat)
    case atStart => exact ⟨0, Nat.zero_le _, rfl, fun q hq => absurd hq (by omega), Mod.refl _ _⟩
    case round =>
      obtain ⟨j, hj, rfl, hno, hmr⟩ := hrel
      have Hno := Lib.hid hno
      have HMr := Lib.hid hmr
      have HBr := Lib.hid (HB3.out.keep hmr)
      have HRr := Lib.hid (HR3.out.keep hmr)
      have HXr := Lib.hid (HX3.out.keep hmr)
      clear hmr hno d0 d1 d2 d3 e0 e1 e2
      obtain ⟨d0, d1, d2, d3⟩ := HBr.out.b1.cells
      obtain ⟨e0, e1, e2⟩ := HRr.out.cells
      by_cases hlt : j < x.n
      · have hjI : (j : Int) < (x.n : Int) := by omega
        have hj0 : (0 : Int) ≤ (j : Int) := by omega
        obtain ⟨b, o, hP, hc⟩ := HXr.out.pg.cells (by omega)
        obtain ⟨q0, q1, q2⟩ := hc j hlt
        have Htk : Hid (takF x.t.pg i p j = (!decide ((j : Int) = (i : Int)) && (decide ((atS x.t.pg j).a = p.a) && decide ((atS x.t.pg j).b = p.b)))) := Lib.hid rfl
        generalize hT : atS x.t.pg j = v at *
        rw [hP] at d0
        clear hc hT q2 hP
        by_cases hji : (j : Int) = (i : Int)
        · have hd : ((j : Int) != (i : Int)) = false := by simpa using hji
          have Hf : Hid (takF x.t.pg i p j = false) := by rw [Htk.out, decide_eq_true hji]; exact Lib.hid rfl
          clear hji Htk
          go_wp2_with fail
          go_quiet (fail)
          go_wp2
          go_roundw
          case rel => exact ⟨j + 1, by omega, by go_num, fun q hq => (by rcases Nat.lt_succ_iff_lt_or_eq.1 hq with h | h; exact Hno.out q h; rw [h]; exact Hf.out), HMr.out.drewN _⟩
          case measure => simp [intOf]; omega
        have hd : ((j : Int) != (i : Int)) = true := by simpa using hji
        by_cases hva : v.a = p.a
        rotate_left
        · have hda : (v.a == p.a) = false := by simpa using hva
          have Hf : Hid (takF x.t.pg i p j = false) := by rw [Htk.out, decide_eq_false hva]; exact Lib.hid (by simp)
          clear hji hva Htk
          go_wp2_with fail
          go_quiet (fail)
          go_wp2
          go_roundw
          case rel => exact ⟨j + 1, by omega, by go_num, fun q hq => (by rcases Nat.lt_succ_iff_lt_or_eq.1 hq with h | h; exact Hno.out q h; rw [h]; exact Hf.out), HMr.out.drewN _⟩
          case measure => simp [intOf]; omega
        have hda : (v.a == p.a) = true := by simpa using hva
        by_cases hvb : v.b = p.b
        rotate_left
        · have hdb : (v.b == p.b) = false := by simpa using hvb
          have Hf : Hid (takF x.t.pg i p j = false) := by rw [Htk.out, decide_eq_false hvb]; exact Lib.hid (by simp)
          clear hji hva hvb Htk
          go_wp2_with fail
          go_quiet (fail)
          go_wp2
          go_roundw
          case rel => exact ⟨j + 1, by omega, by go_num, fun q hq => (by rcases Nat.lt_succ_iff_lt_or_eq.1 hq with h | h; exact Hno.out q h; rw [h]; exact Hf.out), HMr.out.drewN _⟩
          case measure => simp [intOf]; omega
        have hdb : (v.b == p.b) = true := by simpa using hvb
        have Htrue : takF x.t.pg i p j = true := by rw [Htk.out, decide_eq_false hji, decide_eq_true hva, decide_eq_true hvb]; rfl
        clear hji hva hvb Htk Htrue
        go_wp2_with fail
        go_quiet (fail)
        generalize hw4 : wr.drewN _ = w4
        have hm4 : Mod (fun _ => False) wr w4 := by rw [← hw4]; exact (Mod.refl _ wr).drewN _
        have HB4 := Lib.hid (HBr.out.keep hm4)
        clear hw4 hm4 q0 q1
        clear d0 d1 d2 d3 e0 e1 e2
        have fz0 := (HB4.out).b2.frozen 0
        have fz1 := (HB4.out).b2.frozen 1
        have fz2 := (HB4.out).b2.frozen 2
        have fz3 := (HB4.out).b2.frozen 3
        obtain ⟨z0c, z1c, z2c, z3c⟩ := (HB4.out).b2.cells
        have herr := (HB4.out).err
        obtain ⟨wf, hwf⟩ : ∃ wf, stT w4 (w.heap.size + 2) z0 = wf := ⟨_, rfl⟩
        rw [hwf] at herr
        unfold stT at hwf
        have Herr := Lib.hid herr
        have hwf : ((((w4).setCell ⟨w.heap.size + 2, 0, none⟩ (.slice none 0 0)).setCell ⟨w.heap.size + 2, 1, none⟩ (.slice none 0 0)).setCell ⟨w.heap.size + 2, 2, none⟩ (.int .i64 0)).setCell ⟨w.heap.size + 2, 3, none⟩ (.int .i64 0) = wf := hwf
        clear herr
        go_wp2
        clear hwf fz0 fz1 fz2 fz3 z0c z1c z2c z3c
        have q0 : wf.cell? ⟨w.heap.size + 2, 0, none⟩ = some (.slice none 0 0) := Herr.out.1.cells.1
        have q1 : wf.cell? ⟨w.heap.size + 2, 1, none⟩ = some (.slice none 0 0) := Herr.out.1.cells.2.1
        have q2 : wf.cell? ⟨w.heap.size + 2, 2, none⟩ = some (.int .i64 0) := Herr.out.1.cells.2.2.1
        have q3 : wf.cell? ⟨w.heap.size + 2, 3, none⟩ = some (.int .i64 0) := Herr.out.1.cells.2.2.2
        refine bodyPost_ret (v := .tuple #[.agg #[.slice none 0 0, .slice none 0 0, .int .i64 0, .int .i64 0], .int .i64 5]) (by simp [results, Try.results33, go_sem, q0, q1, q2, q3]) rfl ?_
        exact ⟨z0, rfl, z0_at _, rfl, Herr.out.2⟩
      · obtain rfl : j = x.n := by omega
        exact absurd Hno.out HTK.out
  · have He0 : setE x.t i p = 0 := by rw [HE.out, if_neg htk]
    rw [He0]
    have HNT : Hid (∀ j, j < x.n → takF x.t.pg i p j = false) := Lib.hid (fun j hj => by
      cases e : takF x.t.pg i p j with
      | false => rfl
      | true =>
        exfalso
        refine htk (takB_iff.2 ⟨j, by rw [Hpl.out]; exact hj, ?_⟩)
        unfold takF slB at e
        rw [Bool.and_eq_true, Bool.and_eq_true, Bool.not_eq_true', decide_eq_false_iff_not, decide_eq_true_eq, decide_eq_true_eq] at e
        exact e)
    clear He0 HE htk
    obtain ⟨d0, d1, d2, d3⟩ := HB.out.b1.cells
    obtain ⟨e0, e1, e2⟩ := HR.out.cells
    go_enter Try.func33, Try.ntmps33
    go_wp2_with fail
    refine (HMY.out).mono ?_
    rintro e w2 ⟨rfl, hm2⟩
    have HB2 := Lib.hid (HB.out.keep hm2)
    have HR2 := Lib.hid (HR.out.keep hm2)
    have HX2 := Lib.hid (HX.out.keep hm2)
    clear hm2 hw1 c0 c1 c2 c3 d0 d1 d2 d3 e0 e1 e2
    obtain ⟨d0, d1, d2, d3⟩ := HB2.out.b1.cells
    obtain ⟨e0, e1, e2⟩ := HR2.out.cells
    go_wp2_with fail
    refine (HPL.out w2).mono ?_
    rintro e w3 ⟨rfl, hm3⟩
    have HB3 := Lib.hid (HB2.out.keep hm3)
    have HR3 := Lib.hid (HR2.out.keep hm3)
    have HX3 := Lib.hid (HX2.out.keep hm3)
    clear hm3 d0 d1 d2 d3 e0 e1 e2
    obtain ⟨d0, d1, d2, d3⟩ := HB3.out.b1.cells
    obtain ⟨e0, e1, e2⟩ := HR3.out.cells
    go_wp2_with fail
    go_loopw [10] (fun k wr => ∃ j : Nat, j ≤ x.n ∧ k = .int .i64 j ∧ (∀ q, q < j → takF x.t.pg i p q = false) ∧ Mod (fun _ => False) w3 wr) (fun k _ => x.n - (intOf k).toNat)
    case atStart => exact ⟨0, Nat.zero_le _, rfl, fun q hq => absurd hq (by omega), Mod.refl _ _⟩
    case round =>
      obtain ⟨j, hj, rfl, hno, hmr⟩ := hrel
      have Hno := Lib.hid hno
      have HMr := Lib.hid hmr
      have HBr := Lib.hid (HB3.out.keep hmr)
      have HRr := Lib.hid (HR3.out.keep hmr)
      have HXr := Lib.hid (HX3.out.keep hmr)
      clear hmr hno d0 d1 d2 d3 e0 e1 e2
      obtain ⟨d0, d1, d2, d3⟩ := HBr.out.b1.cells
      obtain ⟨e0, e1, e2⟩ := HRr.out.cells
      by_cases hlt : j < x.n
      · have hjI : (j : Int) < (x.n : Int) := by omega
        have hj0 : (0 : Int) ≤ (j : Int) := by omega
        obtain ⟨b, o, hP, hc⟩ := HXr.out.pg.cells (by omega)
        obtain ⟨q0, q1, q2⟩ := hc j hlt
        have Htk : Hid (takF x.t.pg i p j = (!decide ((j : Int) = (i : Int)) && (decide ((atS x.t.pg j).a = p.a) && decide ((atS x.t.pg j).b = p.b)))) := Lib.hid rfl
        generalize hT : atS x.t.pg j = v at *
        rw [hP] at d0
        clear hc hT q2 hP
        by_cases hji : (j : Int) = (i : Int)
        · have hd : ((j : Int) != (i : Int)) = false := by simpa using hji
          have Hf : Hid (takF x.t.pg i p j = false) := by rw [Htk.out, decide_eq_true hji]; exact Lib.hid rfl
          clear hji Htk
          go_wp2_with fail
          go_quiet (fail)
          go_wp2
          go_roundw
          case rel => exact ⟨j + 1, by omega, by go_num, fun q hq => (by rcases Nat.lt_succ_iff_lt_or_eq.1 hq with h | h; exact Hno.out q h; rw [h]; exact Hf.out), HMr.out.drewN _⟩
          case measure => simp [intOf]; omega
        have hd : ((j : Int) != (i : Int)) = true := by simpa using hji
        by_cases hva : v.a = p.a
        rotate_left
        · have hda : (v.a == p.a) = false := by simpa using hva
          have Hf : Hid (takF x.t.pg i p j = false) := by rw [Htk.out, decide_eq_false hva]; exact Lib.hid (by simp)
          clear hji hva Htk
          go_wp2_with fail
          go_quiet (fail)
          go_wp2
          go_roundw
          case rel => exact ⟨j + 1, by omega, by go_num, fun q hq => (by rcases Nat.lt_succ_iff_lt_or_eq.1 hq with h | h; exact Hno.out q h; rw [h]; exact Hf.out), HMr.out.drewN _⟩
          case measure => simp [intOf]; omega
        have hda : (v.a == p.a) = true := by simpa using hva
        by_cases hvb : v.b = p.b
        rotate_left
        · have hdb : (v.b == p.b) = false := by simpa using hvb
          have Hf : Hid (takF x.t.pg i p j = false) := by rw [Htk.out, decide_eq_false hvb]; exact Lib.hid (by simp)
          clear hji hva hvb Htk
          go_wp2_with fail
          go_quiet (fail)
          go_wp2
          go_roundw
          case rel => exact ⟨j + 1, by omega, by go_num, fun q hq => (by rcases Nat.lt_succ_iff_lt_or_eq.1 hq with h | h; exact Hno.out q h; rw [h]; exact Hf.out), HMr.out.drewN _⟩
          case measure => simp [intOf]; omega
        have hdb : (v.b == p.b) = true := by simpa using hvb
        have Htrue : takF x.t.pg i p j = true := by rw [Htk.out, decide_eq_false hji, decide_eq_true hva, decide_eq_true hvb]; rfl
        rw [HNT.out j hlt] at Htrue
        exact absurd Htrue (by decide)
      · obtain rfl : j = x.n := by omega
        obtain ⟨b, o, hS, hcs⟩ := HXr.out.sg.cells (by omega)
        have hcs' := hcs p.a.toNat (by omega)
        generalize hT : atS x.t.sg p.a.toNat = v at *
        have HS := Lib.hid hS
        rw [hS] at d1
        have hpa0 : p.a < (x.m : Int) := by omega
        have HIg : Hid (∀ W, Mod (fun _ => False) wr W → (fun W : World => (W.cell? ⟨w.heap.size, 0, none⟩ = some (.slice x.P x.n x.c) ∧ W.cell? ⟨w.heap.size, 1, none⟩ = some (.slice (some ⟨b, o, none⟩) x.m x.d) ∧ W.cell? ⟨w.heap.size, 2, none⟩ = some (.int .i64 x.t.sl) ∧ W.cell? ⟨w.heap.size, 3, none⟩ = some (.int .i64 x.t.nw)) ∧ W.cell? ⟨w.heap.size + 1, 0, none⟩ = some (.int .i64 p.a) ∧ W.cell? ⟨b, o + p.a.toNat * 3, none⟩ = some (.int .i64 v.a) ∧ W.cell? ⟨b, o + p.a.toNat * 3 + 2, none⟩ = some (.int .i64 v.c)) W) := Lib.hid (fun W hW => by
          have hb1 := (HBr.out.keep hW).b1.cells
          rw [hS] at hb1
          obtain ⟨b', o', hS', hcs2⟩ := (HXr.out.keep hW).sg.cells (by omega)
          rw [hS] at hS'
          injection hS' with hS'
          injection hS' with h1 h2 _
          have h3 := hcs2 p.a.toNat (by omega)
          rw [hT, ← h1, ← h2] at h3
          exact ⟨hb1, (HRr.out.keep hW).cells.1, h3.1, h3.2.2⟩)
        clear hcs hcs'
        go_wp2_with fail
        go_region_held3 (fun W : World => (W.cell? ⟨w.heap.size, 0, none⟩ = some (.slice x.P x.n x.c) ∧ W.cell? ⟨w.heap.size, 1, none⟩ = some (.slice (some ⟨b, o, none⟩) x.m x.d) ∧ W.cell? ⟨w.heap.size, 2, none⟩ = some (.int .i64 x.t.sl) ∧ W.cell? ⟨w.heap.size, 3, none⟩ = some (.int .i64 x.t.nw)) ∧ W.cell? ⟨w.heap.size + 1, 0, none⟩ = some (.int .i64 p.a) ∧ W.cell? ⟨b, o + p.a.toNat * 3, none⟩ = some (.int .i64 v.a) ∧ W.cell? ⟨b, o + p.a.toNat * 3 + 2, none⟩ = some (.int .i64 v.c)) (first | exact HIg.out _ ((Mod.refl _ wr).drew) | exact HIg.out _ (((Mod.refl _ wr).alloc _).drew) | exact HIg.out _ (((Mod.refl _ wr).drew).alloc _) | exact HIg.out _ (((Mod.refl _ wr).alloc _)) | exact HIg.out _ (((((((Mod.refl (fun k => k = wr.heap.size) wr).alloc _).drew).one (fun _ => rfl) 0 _).one (fun _ => rfl) 1 _).one (fun _ => rfl) 2 _).mono (fun k hk e => by omega)) | exact HIg.out _ ((((((Mod.refl (fun k => k = wr.heap.size) wr).alloc _).one (fun _ => rfl) 0 _).one (fun _ => rfl) 1 _).one (fun _ => rfl) 2 _).mono (fun k hk e => by omega))) (fail)
        all_goals
          have hr4 : RBx ((wr.alloc (.cells #[.int .i64 2, .int .i64 x.t.sl, .int .i64 v.c] 45)).drew) wr.heap.size 45 ⟨2, x.t.sl, v.c⟩ := (RBx.new wr 45 ⟨2, x.t.sl, v.c⟩).keep ((Mod.refl _ _).drew)
          have hm4 : Mod (fun _ => False) wr ((wr.alloc (.cells #[.int .i64 2, .int .i64 x.t.sl, .int .i64 v.c] 45)).drew) := ((Mod.refl _ wr).alloc _).drew
          generalize (wr.alloc (.cells #[.int .i64 2, .int .i64 x.t.sl, .int .i64 v.c] 45)).drew = w4 at *
          obtain ⟨r0, r1, r2⟩ := hr4.cells
          obtain ⟨⟨a0, a1, a2, a3⟩, _, s0, _⟩ := HIg.out w4 hm4
          obtain ⟨k0, k1, k2⟩ := (HRr.out.keep hm4).cells
          have Hage : Hid (v.a = 0 → v = noT) := Lib.hid (fun h0 => by rw [← hT] at h0 ⊢; exact HT0.out.freeSeg (by rw [Hsl.out]; omega) h0)
          have Hfl : Hid (fillT x.t.sl x.t.sl (ageT x.t p.a.toNat) = ⟨2, x.t.sl, if eqT v noT = true then x.t.nw else v.c⟩) := by rw [← hT]; unfold fillT ageT; rw [if_pos rfl]; exact Lib.hid rfl
          clear d0 d1 d2 d3 e0 e1 e2 HIg hT hS
          by_cases hva : v.a = 0
          rotate_left
          · have hda : (v.a == 0) = false := by simpa using hva
            have Hft : Hid (fillT x.t.sl x.t.sl (ageT x.t p.a.toNat) = ⟨2, x.t.sl, v.c⟩) := by rw [Hfl.out, if_neg (fun e => hva (by rw [eqT_iff.1 e]; rfl))]; exact Lib.hid rfl
            clear hva Hfl Hage
            have hr5 := hr4
            have hm5 := hm4
            have HB5 := Lib.hid (HBr.out.keep hm5)
            have HRR5 := Lib.hid (HRr.out.keep hm5)
            have HX5 := Lib.hid (HXr.out.keep hm5)
            have HR5 := Lib.hid hr5
            have HW := Lib.hid (rwith_ps w4 x HX5.out hn1 hm1 (by omega) (by omega) i hi p.a.toNat (by omega) p ⟨2, x.t.sl, v.c⟩)
            rw [hpa, HS.out] at HW
            clear hr4 hr5 hm4 hm5
            go_wp2_with fail
            refine HW.out.mono ?_
            rintro e w6 ⟨y, rfl, hy, hyt, hm6⟩
            have HB6 := Lib.hid (HB5.out.keep hm6)
            clear a0 a1 a2 a3 k0 k1 k2 r0 r1 r2 s0 HW hm6
            have fz0 := HB6.out.b2.frozen 0
            have fz1 := HB6.out.b2.frozen 1
            have fz2 := HB6.out.b2.frozen 2
            have fz3 := HB6.out.b2.frozen 3
            obtain ⟨z0c, z1c, z2c, z3c⟩ := HB6.out.b2.cells
            have hfin := HB6.out.res hy
            obtain ⟨wf, hwf⟩ : ∃ wf, stT w6 (w.heap.size + 2) y = wf := ⟨_, rfl⟩
            rw [hwf] at hfin
            unfold stT at hwf
            have Hfin := Lib.hid hfin
            have Hyt := Lib.hid hyt
            clear hfin hy hyt
            go_wp2
            clear hwf fz0 fz1 fz2 fz3 z0c z1c z2c z3c
            obtain ⟨q0, q1, q2, q3⟩ := Hfin.out.2.1.cells
            refine bodyPost_ret (v := .tuple #[.agg #[.slice y.P y.n y.c, .slice y.S y.m y.d, .int .i64 y.t.sl, .int .i64 y.t.nw], .int .i64 0]) (by simp [results, Try.results33, go_sem, q0, q1, q2, q3]) rfl ?_
            exact ⟨y, rfl, Hfin.out.1, by rw [if_pos rfl, HT.out, Hyt.out, Hft.out], Hfin.out.2.2⟩
          · have hda : (v.a == 0) = true := by simpa using hva
            have Hft : Hid (fillT x.t.sl x.t.sl (ageT x.t p.a.toNat) = ⟨2, x.t.sl, x.t.nw⟩) := by rw [Hfl.out, if_pos (eqT_iff.2 (Hage.out hva))]; exact Lib.hid rfl
            clear hva Hfl Hage
            have rf2 := hr4.frozen 2
            have hr5 : RBx (w4.setCell ⟨wr.heap.size, 2, none⟩ (.int .i64 x.t.nw)) wr.heap.size 45 ⟨2, x.t.sl, x.t.nw⟩ := heap_set hr4 2 (.int .i64 x.t.nw)
            have hm5 : Mod (fun _ => False) wr (w4.setCell ⟨wr.heap.size, 2, none⟩ (.int .i64 x.t.nw)) := (((hm4.mono (G := fun k => k = wr.heap.size) (fun _ _ h => h.elim))).one (fun _ => rfl) 2 _).mono (fun k hk e => by omega)
            obtain ⟨w5, hw5⟩ : ∃ w5, w4.setCell ⟨wr.heap.size, 2, none⟩ (.int .i64 x.t.nw) = w5 := ⟨_, rfl⟩
            rw [hw5] at hr5 hm5
            have HB5 := Lib.hid (HBr.out.keep hm5)
            have HRR5 := Lib.hid (HRr.out.keep hm5)
            have HX5 := Lib.hid (HXr.out.keep hm5)
            have HR5 := Lib.hid hr5
            have HW := Lib.hid (rwith_ps w5 x HX5.out hn1 hm1 (by omega) (by omega) i hi p.a.toNat (by omega) p ⟨2, x.t.sl, x.t.nw⟩)
            rw [hpa, HS.out] at HW
            clear hr4 hr5 hm4 hm5
            obtain ⟨g0, g1, g2, g3⟩ := HB5.out.b1.cells
            obtain ⟨t0, t1, t2⟩ := HR5.out.cells
            obtain ⟨u0, u1, u2⟩ := HRR5.out.cells
            rw [HS.out] at g1
            go_wp2_with fail
            refine HW.out.mono ?_
            rintro e w6 ⟨y, rfl, hy, hyt, hm6⟩
            have HB6 := Lib.hid (HB5.out.keep hm6)
            clear a0 a1 a2 a3 k0 k1 k2 r0 r1 r2 s0 HW hm6 g0 g1 g2 g3 t0 t1 t2 u0 u1 u2 rf2 hw5
            have fz0 := HB6.out.b2.frozen 0
            have fz1 := HB6.out.b2.frozen 1
            have fz2 := HB6.out.b2.frozen 2
            have fz3 := HB6.out.b2.frozen 3
            obtain ⟨z0c, z1c, z2c, z3c⟩ := HB6.out.b2.cells
            have hfin := HB6.out.res hy
            obtain ⟨wf, hwf⟩ : ∃ wf, stT w6 (w.heap.size + 2) y = wf := ⟨_, rfl⟩
            rw [hwf] at hfin
            unfold stT at hwf
            have Hfin := Lib.hid hfin
            have Hyt := Lib.hid hyt
            clear hfin hy hyt
            go_wp2
            clear hwf fz0 fz1 fz2 fz3 z0c z1c z2c z3c
            obtain ⟨q0, q1, q2, q3⟩ := Hfin.out.2.1.cells
            refine bodyPost_ret (v := .tuple #[.agg #[.slice y.P y.n y.c, .slice y.S y.m y.d, .int .i64 y.t.sl, .int .i64 y.t.nw], .int .i64 0]) (by simp [results, Try.results33, go_sem, q0, q1, q2, q3]) rfl ?_
            exact ⟨y, rfl, Hfin.out.1, by rw [if_pos rfl, HT.out, Hyt.out, Hft.out], Hfin.out.2.2⟩
end Go.Proofs.Ythbcgbbcoanbdaa
