/-
  bobbinref10.nowhere, place, Live, Count; May of a table that may be.
-/
import Derived.Test.YthbcgbbcoanbdaaTMem
import Derived.BigQuiet
import Derived.Deep.RegionHeld3
namespace Go.Proofs.Ythbcgbbcoanbdaa
open Go Go.RowKit

set_option maxRecDepth 100000 in
theorem rnowhere_ok (w : World) (p : Tr) : Calls Try.prog 68 #[.agg #[.int .i64 p.a, .int .i64 p.b, .int .i64 p.c]] w fun e w' => e = .returned (.bool (eqT p emT)) ∧ Mod (fun _ => False) w w' := by
  have HM : Hid (Mod (fun _ => False) w (w.alloc (.cells #[.int .i64 p.a, .int .i64 p.b, .int .i64 p.c] 34))) := (Mod.refl _ w).alloc _
  have he : eqT p emT = (decide (p.a = -1) && (decide (p.b = 0) && decide (p.c = 0))) := rfl
  rw [he]
  clear he
  by_cases h0 : p.a = -1
  · have d0 : (p.a == -1) = true := by simpa using h0
    rw [decide_eq_true h0]
    clear h0
    by_cases h1 : p.b = 0
    · have d1 : (p.b == 0) = true := by simpa using h1
      rw [decide_eq_true h1]
      clear h1
      by_cases h2 : p.c = 0
      · have d2 : (p.c == 0) = true := by simpa using h2
        rw [decide_eq_true h2]
        clear h2
        go_enter Try.func68, Try.ntmps68
        go_wp2
        go_ret
        exact ⟨rfl, HM.out⟩
      · have d2 : (p.c == 0) = false := by simpa using h2
        rw [decide_eq_false h2]
        clear h2
        go_enter Try.func68, Try.ntmps68
        go_wp2
        go_ret
        exact ⟨rfl, HM.out⟩
    · have d1 : (p.b == 0) = false := by simpa using h1
      rw [decide_eq_false h1]
      clear h1
      go_enter Try.func68, Try.ntmps68
      go_wp2
      go_ret
      exact ⟨rfl, HM.out⟩
  · have d0 : (p.a == -1) = false := by simpa using h0
    rw [decide_eq_false h0]
    clear h0
    go_enter Try.func68, Try.ntmps68
    go_wp2
    go_ret
    exact ⟨rfl, HM.out⟩

set_option maxRecDepth 100000 in
set_option maxHeartbeats 3200000 in
theorem rplace_ok (w : World) (x : TV) (p : Tr) (hs : x.m = x.t.sg.length) :
    Calls Try.prog 57 #[.agg #[.slice x.P x.n x.c, .slice x.S x.m x.d, .int .i64 x.t.sl, .int .i64 x.t.nw], .agg #[.int .i64 p.a, .int .i64 p.b, .int .i64 p.c]] w fun e w' => e = .returned (.bool (eqT p emT || plB x.t p)) ∧ Mod (fun _ => False) w w' := by
  have hm0 : Mod (fun _ => False) w ((w.alloc (.cells #[.slice x.P x.n x.c, .slice x.S x.m x.d, .int .i64 x.t.sl, .int .i64 x.t.nw] 27)).alloc (.cells #[.int .i64 p.a, .int .i64 p.b, .int .i64 p.c] 34)) := ((Mod.refl _ w).alloc _).alloc _
  have Hs := Lib.hid hs
  clear hs
  have HM := Lib.hid hm0
  have HB := Lib.hid ((TBx.new w x).keep ((Mod.refl _ _).alloc (.cells #[.int .i64 p.a, .int .i64 p.b, .int .i64 p.c] 34)))
  have HR := Lib.hid (RBx.new (w.alloc (.cells #[.slice x.P x.n x.c, .slice x.S x.m x.d, .int .i64 x.t.sl, .int .i64 x.t.nw] 27)) 34 p)
  clear hm0
  have HN := Lib.hid (fun W => rnowhere_ok W p)
  cases hE : eqT p emT with
  | true =>
    rw [hE] at HN
    clear hE
    go_enter Try.func57, Try.ntmps57
    go_wp2_with fail
    refine (HN.out _).mono ?_
    rintro e w1 ⟨rfl, hm1⟩
    have HM1 := Lib.hid (HM.out.trans hm1 (fun _ _ h => h))
    clear hm1
    go_wp2
    go_ret
    exact ⟨rfl, HM1.out⟩
  | false =>
    rw [hE] at HN
    clear hE
    have he : (false || plB x.t p) = (decide (0 ≤ p.a) && decide (p.a < (x.m : Int)) && decide (0 ≤ p.b) && decide (p.b < x.t.sl) && decide (0 ≤ p.c) && decide (p.c ≤ 4294967295)) := by
      rw [Bool.false_or, Bool.eq_iff_iff, plB_iff]
      simp only [Bool.and_eq_true, decide_eq_true_eq]
      rw [← Hs.out]
      exact ⟨fun h => ⟨⟨⟨⟨⟨h.1, h.2.1⟩, h.2.2.1⟩, h.2.2.2.1⟩, h.2.2.2.2.1⟩, h.2.2.2.2.2⟩, fun h => ⟨h.1.1.1.1.1, h.1.1.1.1.2, h.1.1.1.2, h.1.1.2, h.1.2, h.2⟩⟩
    rw [he]
    clear he
    rcases hb1 : decide (0 ≤ p.a) with _ | _
    rotate_left
    rcases hb2 : decide (p.a < (x.m : Int)) with _ | _
    rotate_left
    rcases hb3 : decide (0 ≤ p.b) with _ | _
    rotate_left
    rcases hb4 : decide (p.b < x.t.sl) with _ | _
    rotate_left
    rcases hb5 : decide (0 ≤ p.c) with _ | _
    rotate_left
    rcases hb6 : decide (p.c ≤ 4294967295) with _ | _
    all_goals
      go_enter Try.func57, Try.ntmps57
      go_wp2_with fail
      refine (HN.out _).mono ?_
      rintro e w1 ⟨rfl, hm1⟩
      have HM1 := Lib.hid (HM.out.trans hm1 (fun _ _ h => h))
      obtain ⟨c0, c1, c2, c3⟩ := (HB.out.keep hm1).cells
      obtain ⟨d0, d1, d2⟩ := (HR.out.keep hm1).cells
      rw [World.size_alloc] at d0 d1 d2
      clear hm1
      go_wp2
      go_ret
      exact ⟨rfl, HM1.out⟩

set_option maxRecDepth 100000 in
set_option maxHeartbeats 1600000 in
theorem rlive_ok (w : World) (x : TV) (h : x.At w) (hn : x.n ≤ 1000) (seg : Int) (hs : 0 ≤ seg) :
    Calls Try.prog 37 #[.agg #[.slice x.P x.n x.c, .slice x.S x.m x.d, .int .i64 x.t.sl, .int .i64 x.t.nw], .int .i64 seg] w fun e w' => e = .returned (.int .i64 ((cnt (lvF seg x.t) x.n : Nat) : Int)) ∧ Mod (fun _ => False) w w' := by
  obtain ⟨w1, hw1⟩ : ∃ w1, w.alloc (.cells #[.slice x.P x.n x.c, .slice x.S x.m x.d, .int .i64 x.t.sl, .int .i64 x.t.nw] 27) = w1 := ⟨_, rfl⟩
  have hm1 : Mod (fun _ => False) w w1 := by rw [← hw1]; exact (Mod.refl _ w).alloc _
  have hbx : TBx w1 w.heap.size x := by rw [← hw1]; exact TBx.new w x
  obtain ⟨c0, c1, c2, c3⟩ := hbx.cells
  have HM := Lib.hid hm1
  have HX := Lib.hid (h.keep hm1)
  clear hbx hm1 h
  go_enter Try.func37, Try.ntmps37
  go_wp2
  go_loopw [5, 6] (fun k i wr => ∃ j : Nat, j ≤ x.n ∧ i = .int .i64 j ∧ k = .int .i64 ((cnt (lvF seg x.t) j : Nat) : Int) ∧ wr = w1) (fun _ i _ => x.n - (intOf i).toNat)
  case atStart => exact ⟨0, Nat.zero_le _, rfl, rfl, rfl⟩
  case round =>
    obtain ⟨j, hj, rfl, rfl, hw⟩ := hrel
    subst hw
    by_cases hlt : j < x.n
    · obtain ⟨b, o, hP, hc⟩ := HX.out.pg.cells (by omega)
      obtain ⟨s0, s1, s2⟩ := hc j hlt
      have Hlv : Hid (lvF seg x.t j = decide ((atS x.t.pg j).a = seg)) := Lib.hid rfl
      have hcb := cnt_le (lvF seg x.t) j
      generalize hT : atS x.t.pg j = s at *
      rw [hP] at c0
      clear hc hP hT hw1 s1 s2
      have hji : (j : Int) < (x.n : Int) := by omega
      by_cases hs' : s.a = seg
      · have hd : (s.a == seg) = true := by simpa using hs'
        have Hcy : Hid (cnt (lvF seg x.t) (j + 1) = cnt (lvF seg x.t) j + 1) := cnt_yes (Hlv.out.trans (by simpa using hs'))
        clear hs' Hlv
        generalize cnt (lvF seg x.t) j = q at *
        go_wp2
        go_roundw
        case rel => exact ⟨j + 1, by omega, by go_num, by rw [Hcy.out]; go_num, by first | trivial | rfl⟩
        case measure => simp [intOf]; omega
      · have hd : (s.a == seg) = false := by simpa using hs'
        have Hcy : Hid (cnt (lvF seg x.t) (j + 1) = cnt (lvF seg x.t) j) := cnt_no (Hlv.out.trans (by simpa using hs'))
        clear hs' Hlv
        generalize cnt (lvF seg x.t) j = q at *
        go_wp2
        go_roundw
        case rel => exact ⟨j + 1, by omega, by go_num, by rw [Hcy.out], by first | trivial | rfl⟩
        case measure => simp [intOf]; omega
    · obtain rfl : j = x.n := by omega
      go_wp2
      go_ret
      exact ⟨rfl, HM.out⟩

set_option maxRecDepth 100000 in
set_option maxHeartbeats 1600000 in
theorem rcount_ok (w : World) (x : TV) (h : x.At w) (hn : x.m ≤ 1000) (seg : Int) :
    Calls Try.prog 58 #[.agg #[.slice x.P x.n x.c, .slice x.S x.m x.d, .int .i64 x.t.sl, .int .i64 x.t.nw], .int .i64 seg] w fun e w' => e = .returned (.int .i64 ((cnt (stF seg x.t) x.m : Nat) : Int)) ∧ Mod (fun _ => False) w w' := by
  obtain ⟨w1, hw1⟩ : ∃ w1, w.alloc (.cells #[.slice x.P x.n x.c, .slice x.S x.m x.d, .int .i64 x.t.sl, .int .i64 x.t.nw] 27) = w1 := ⟨_, rfl⟩
  have hm1 : Mod (fun _ => False) w w1 := by rw [← hw1]; exact (Mod.refl _ w).alloc _
  have hbx : TBx w1 w.heap.size x := by rw [← hw1]; exact TBx.new w x
  obtain ⟨c0, c1, c2, c3⟩ := hbx.cells
  have HM := Lib.hid hm1
  have HX := Lib.hid (h.keep hm1)
  clear hbx hm1 h
  go_enter Try.func58, Try.ntmps58
  go_wp2
  go_loopw [5, 6] (fun k i wr => ∃ j : Nat, j ≤ x.m ∧ i = .int .i64 j ∧ k = .int .i64 ((cnt (stF seg x.t) j : Nat) : Int) ∧ wr = w1) (fun _ i _ => x.m - (intOf i).toNat)
  case atStart => exact ⟨0, Nat.zero_le _, rfl, rfl, rfl⟩
  case round =>
    obtain ⟨j, hj, rfl, rfl, hw⟩ := hrel
    subst hw
    by_cases hlt : j < x.m
    · obtain ⟨b, o, hP, hc⟩ := HX.out.sg.cells (by omega)
      obtain ⟨s0, s1, s2⟩ := hc j hlt
      have Hlv : Hid (stF seg x.t j = decide ((atS x.t.sg j).a = seg)) := Lib.hid rfl
      have hcb := cnt_le (stF seg x.t) j
      generalize hT : atS x.t.sg j = s at *
      rw [hP] at c1
      clear hc hP hT hw1 s1 s2
      have hji : (j : Int) < (x.m : Int) := by omega
      by_cases hs' : s.a = seg
      · have hd : (s.a == seg) = true := by simpa using hs'
        have Hcy : Hid (cnt (stF seg x.t) (j + 1) = cnt (stF seg x.t) j + 1) := cnt_yes (Hlv.out.trans (by simpa using hs'))
        clear hs' Hlv
        generalize cnt (stF seg x.t) j = q at *
        go_wp2
        go_roundw
        case rel => exact ⟨j + 1, by omega, by go_num, by rw [Hcy.out]; go_num, by first | trivial | rfl⟩
        case measure => simp [intOf]; omega
      · have hd : (s.a == seg) = false := by simpa using hs'
        have Hcy : Hid (cnt (stF seg x.t) (j + 1) = cnt (stF seg x.t) j) := cnt_no (Hlv.out.trans (by simpa using hs'))
        clear hs' Hlv
        generalize cnt (stF seg x.t) j = q at *
        go_wp2
        go_roundw
        case rel => exact ⟨j + 1, by omega, by go_num, by rw [Hcy.out], by first | trivial | rfl⟩
        case measure => simp [intOf]; omega
    · obtain rfl : j = x.m := by omega
      go_wp2
      go_ret
      exact ⟨rfl, HM.out⟩

set_option maxRecDepth 100000 in
set_option maxHeartbeats 6400000 in
theorem rmay_ok (w : World) (x : TV) (h : x.At w) (ht : x.t.May) :
    Calls Try.prog 36 #[.agg #[.slice x.P x.n x.c, .slice x.S x.m x.d, .int .i64 x.t.sl, .int .i64 x.t.nw]] w fun e w' => e = .returned (.bool true) ∧ Mod (fun _ => False) w w' := by
  obtain ⟨w1, hw1⟩ : ∃ w1, w.alloc (.cells #[.slice x.P x.n x.c, .slice x.S x.m x.d, .int .i64 x.t.sl, .int .i64 x.t.nw] 27) = w1 := ⟨_, rfl⟩
  have hm1 : Mod (fun _ => False) w w1 := by rw [← hw1]; exact (Mod.refl _ w).alloc _
  have hbx : TBx w1 w.heap.size x := by rw [← hw1]; exact TBx.new w x
  obtain ⟨c0, c1, c2, c3⟩ := hbx.cells
  have HM := Lib.hid hm1
  have HB := Lib.hid hbx
  have HX := Lib.hid (h.keep hm1)
  have Hpl : Hid (x.t.pg.length = x.n) := h.pg.len
  have Hsl : Hid (x.t.sg.length = x.m) := h.sg.len
  have HT := Lib.hid ht
  have p1 := ht.p1
  have p2 := ht.p2
  have s1 := ht.s1
  have s2 := ht.s2
  rw [Hpl.out] at p1 p2
  rw [Hsl.out] at s1 s2
  have k1 := ht.k1
  have k2 := ht.k2
  have n1 := ht.n1
  have n2 := ht.n2
  have a1 : decide ((x.n : Int) < 1) = false := by rw [decide_eq_false_iff_not]; omega
  have a2 : decide ((16 : Int) < (x.n : Int)) = false := by rw [decide_eq_false_iff_not]; omega
  have a3 : decide ((x.m : Int) < 2) = false := by rw [decide_eq_false_iff_not]; omega
  have a4 : decide ((32 : Int) < (x.m : Int)) = false := by rw [decide_eq_false_iff_not]; omega
  have a5 : decide (x.t.sl < 1) = false := by rw [decide_eq_false_iff_not]; omega
  have a6 : decide (16 < x.t.sl) = false := by rw [decide_eq_false_iff_not]; omega
  have a7 : decide (x.t.nw < 0) = false := by rw [decide_eq_false_iff_not]; omega
  have a8 : decide (1099511627776 < x.t.nw) = false := by rw [decide_eq_false_iff_not]; omega
  have HPL := Lib.hid (fun W p => rplace_ok W x p Hsl.out.symm)
  clear hbx hm1 h ht
  go_enter Try.func36, Try.ntmps36
  go_wp2
  clear a1 a2 a3 a4 a5 a6 a7 a8 hw1
  go_loopw [3] (fun i wr => ∃ j : Nat, j ≤ x.m ∧ i = .int .i64 j ∧ Mod (fun _ => False) w1 wr) (fun i _ => x.m - (intOf i).toNat)
  case atStart => exact ⟨0, Nat.zero_le _, rfl, Mod.refl _ _⟩
  clear c0 c1 c2 c3
  case round =>
    obtain ⟨j, hj, rfl, hmr⟩ := hrel
    have Hmr := Lib.hid hmr
    obtain ⟨c0, c1, c2, c3⟩ := (HB.out.keep hmr).cells
    have hsz := (HB.out.keep hmr).lt
    have HXr := Lib.hid (HX.out.keep hmr)
    clear hmr
    by_cases hlt : j < x.m
    · obtain ⟨b, o, hS, hc⟩ := HXr.out.sg.cells (by omega)
      obtain ⟨q0, q1, q2⟩ := hc j hlt
      have hway := HT.out.segs (i := j) (by rw [Hsl.out]; exact hlt)
      have hlb := (hc j hlt).lt
      generalize hT : atS x.t.sg j = s at *
      rw [hS] at c1
      clear hc hS hT
      have hji : (j : Int) < (x.m : Int) := by omega
      have hne : b ≠ wr.heap.size := by omega
      have hmb : Mod (fun _ => False) w1 (wr.alloc (.cells #[.int .i64 s.a, .int .i64 s.b, .int .i64 s.c] 45)) := Hmr.out.alloc _
      have Hmb := Lib.hid hmb
      clear hmb
      rcases hway with hw | ⟨w0, w1', w2', w3', w4'⟩ | ⟨w0, w1', w2', w3'⟩
      · rw [hw] at q0 q1 q2 Hmb
        have q0 : wr.cell? ⟨b, o + j * 3, none⟩ = some (.int .i64 0) := q0
        have q1 : wr.cell? ⟨b, o + j * 3 + 1, none⟩ = some (.int .i64 0) := q1
        have q2 : wr.cell? ⟨b, o + j * 3 + 2, none⟩ = some (.int .i64 0) := q2
        have hd2 : decide (x.t.nw < 0) = false := by rw [decide_eq_false_iff_not]; omega
        clear hw
        go_wp2
        go_roundw
        case rel => exact ⟨j + 1, by omega, by go_num, Hmb.out⟩
        case measure => simp [intOf]; omega
      · have e0 : (s.a == 0) = false := by rw [w0]; rfl
        have e1 : (s.a == 1) = true := by rw [w0]; rfl
        have e2 : (s.a == 2) = false := by rw [w0]; rfl
        have e3 : decide (1 ≤ s.b) = true := by simpa using w1'
        have e4 : decide (s.b < x.t.sl) = true := by rw [decide_eq_true_eq]; omega
        have e5 : decide (s.c < 0) = false := by rw [decide_eq_false_iff_not]; omega
        have e6 : decide (x.t.nw < s.c) = false := by rw [decide_eq_false_iff_not]; omega
        clear w0 w1' w2' w3' w4'
        go_wp2
        go_roundw
        case rel => exact ⟨j + 1, by omega, by go_num, Hmb.out⟩
        case measure => simp [intOf]; omega
      · have e0 : (s.a == 0) = false := by rw [w0]; rfl
        have e1 : (s.a == 1) = false := by rw [w0]; rfl
        have e2 : (s.a == 2) = true := by rw [w0]; rfl
        have e3 : (s.b == x.t.sl) = true := by simpa using w1'
        have e5 : decide (s.c < 0) = false := by rw [decide_eq_false_iff_not]; omega
        have e6 : decide (x.t.nw < s.c) = false := by rw [decide_eq_false_iff_not]; omega
        clear w0 w1' w2' w3'
        go_wp2
        go_roundw
        case rel => exact ⟨j + 1, by omega, by go_num, Hmb.out⟩
        case measure => simp [intOf]; omega
    · obtain rfl : j = x.m := by omega
      go_wp2
      clear c0 c1 c2 c3
      go_loopw [8] (fun i wr => ∃ k : Nat, k ≤ x.n ∧ i = .int .i64 k ∧ Mod (fun _ => False) w1 wr) (fun i _ => x.n - (intOf i).toNat)
      case atStart => exact ⟨0, Nat.zero_le _, rfl, Hmr.out⟩
      case round =>
        obtain ⟨k, hk, rfl, hmv⟩ := hrel
        have Hmv := Lib.hid hmv
        have HBv := Lib.hid (HB.out.keep hmv)
        have HXv := Lib.hid (HX.out.keep hmv)
        clear hmv
        obtain ⟨c0, c1, c2, c3⟩ := HBv.out.cells
        by_cases hlt2 : k < x.n
        · obtain ⟨b, o, hP, hc⟩ := HXv.out.pg.cells (by omega)
          obtain ⟨q0, q1, q2⟩ := hc k hlt2
          have hkl : k < x.t.pg.length := by rw [Hpl.out]; exact hlt2
          have Hpg := Lib.hid (fun h0 => HT.out.page hkl h0)
          have Hno := Lib.hid (fun h0 => HT.out.nopage hkl h0)
          have hpb := HT.out.pag k hkl
          have hok : (eqT (atS x.t.pg k) emT || plB x.t (atS x.t.pg k)) = true := by
            unfold pgB havB at hpb
            rw [Bool.or_eq_true] at hpb ⊢
            rcases hpb with e | e
            · exact .inl e
            · rw [Bool.and_eq_true, Bool.and_eq_true] at e
              exact .inr e.1.1
          have HPK := Lib.hid (fun W => HPL.out W (atS x.t.pg k))
          rw [hok] at HPK
          generalize hTk : atS x.t.pg k = p at *
          rw [hP] at c0 HPK
          clear hc hTk hpb hok hkl
          have HP := Lib.hid hP
          clear hP
          have hki : (k : Int) < (x.n : Int) := by omega
          obtain ⟨w2, hw2⟩ : ∃ w2, wr.alloc (.cells #[.int .i64 p.a, .int .i64 p.b, .int .i64 p.c] 34) = w2 := ⟨_, rfl⟩
          have hm2 : Mod (fun _ => False) wr w2 := by rw [← hw2]; exact (Mod.refl _ wr).alloc _
          have hr2 : RBx w2 wr.heap.size 34 p := by rw [← hw2]; exact RBx.new wr _ p
          have HR2 := Lib.hid hr2
          have HM2 := Lib.hid (Hmv.out.trans hm2 (fun _ _ h => h))
          have HX2 := Lib.hid (HXv.out.keep hm2)
          obtain ⟨e0, e1, e2, e3⟩ := (HBv.out.keep hm2).cells
          obtain ⟨r0, r1, r2⟩ := hr2.cells
          have HB2 := Lib.hid (HBv.out.keep hm2)
          rw [HP.out] at e0
          clear hm2 hr2
          go_wp2_with fail
          clear hw2 q0 q1 q2 c0 c1 c2 c3 e0 e1 e2 e3 r0 r1 r2
          refine (HPK.out _).mono ?_
          rintro e w3 ⟨rfl, hm3⟩
          have HM3 := Lib.hid (HM2.out.trans hm3 (fun _ _ h => h))
          have HX3 := Lib.hid (HX2.out.keep hm3)
          have HB3 := Lib.hid (HB2.out.keep hm3)
          have HR3 := Lib.hid (HR2.out.keep hm3)
          obtain ⟨e0, e1, e2, e3⟩ := HB3.out.cells
          obtain ⟨r0, r1, r2⟩ := HR3.out.cells
          clear hm3 HPK
          by_cases h0 : 0 ≤ p.a
          rotate_left
          · have hd : decide (0 ≤ p.a) = false := by simpa using h0
            clear h0
            go_wp2_with fail
            go_quiet (fail)
            generalize hw4 : w3.drewN _ = w4
            have HM4 : Hid (Mod (fun _ => False) w3 w4) := by rw [← hw4]; exact (Mod.refl _ w3).drewN _
            obtain ⟨e0', e1', e2', e3'⟩ := (HB3.out.keep HM4.out).cells
            obtain ⟨r0', r1', r2'⟩ := (HR3.out.keep HM4.out).cells
            clear hw4 e0 e1 e2 e3 r0 r1 r2
            go_wp2
            clear e0' e1' e2' e3' r0' r1' r2'
            go_loopw [11] (fun i wz => ∃ q : Nat, q ≤ k ∧ i = .int .i64 q ∧ Mod (fun _ => False) w3 wz) (fun i _ => k - (intOf i).toNat)
            case atStart => exact ⟨0, Nat.zero_le _, rfl, HM4.out⟩
            case round =>
              obtain ⟨q, hq, rfl, hmz⟩ := hrel
              have Hmz := Lib.hid hmz
              obtain ⟨e0, e1, e2, e3⟩ := (HB3.out.keep hmz).cells
              obtain ⟨r0, r1, r2⟩ := (HR3.out.keep hmz).cells
              clear hmz
              by_cases hlt3 : q < k
              · go_wp2_with fail
                go_quiet (fail)
                go_wp2
                go_roundw
                case rel => exact ⟨q + 1, by omega, by go_num, Hmz.out.drewN _⟩
                case measure => simp [intOf]; omega
              · obtain rfl : q = k := by omega
                go_wp2
                go_roundw
                case rel => exact ⟨q + 1, by omega, by go_num, HM3.out.trans Hmz.out (fun _ _ h => h)⟩
                case measure => simp [intOf]; omega
          · obtain ⟨b1, b2, b3, b4, b5, b6, b7⟩ := Hpg.out h0
            rw [Hsl.out] at b1
            obtain ⟨bs, os, hS, hcs⟩ := HX3.out.sg.cells (by omega)
            obtain ⟨t0, t1, t2⟩ := hcs p.a.toNat (by omega)
            have hseg := HT.out.segs (i := p.a.toNat) (by rw [Hsl.out]; omega)
            generalize hsg : atS x.t.sg p.a.toNat = sgm at *
            have hna : (sgm.a == 0) = false := by
              rcases hseg with e | e | e
              · rw [e] at b6
                have : noT.b = 0 := rfl
                omega
              · rw [e.1]; rfl
              · rw [e.1]; rfl
            have hnb : decide (sgm.b ≤ p.b) = false := by rw [decide_eq_false_iff_not]; omega
            have hd : decide (0 ≤ p.a) = true := by simpa using h0
            rw [hS] at e1
            have B7 := Lib.hid b7
            clear hseg hsg b7 hcs b4 b5 t2 hS
            go_wp2_with fail
            go_quiet (fail)
            generalize hw4 : w3.drewN _ = w4
            have HM4 : Hid (Mod (fun _ => False) w3 w4) := by rw [← hw4]; exact (Mod.refl _ w3).drewN _
            clear hw4 e0 e1 e2 e3 r0 r1 r2 t0 t1 hna hnb
            go_wp2
            go_loopw [11] (fun i wz => ∃ q : Nat, q ≤ k ∧ i = .int .i64 q ∧ Mod (fun _ => False) w3 wz) (fun i _ => k - (intOf i).toNat)
            case atStart => exact ⟨0, Nat.zero_le _, rfl, HM4.out⟩
            case round =>
              obtain ⟨q, hq, rfl, hmz⟩ := hrel
              have Hmz := Lib.hid hmz
              obtain ⟨e0, e1, e2, e3⟩ := (HB3.out.keep hmz).cells
              obtain ⟨r0, r1, r2⟩ := (HR3.out.keep hmz).cells
              have HXz := Lib.hid (HX3.out.keep hmz)
              clear hmz
              by_cases hlt3 : q < k
              · obtain ⟨b', o', hP', hc'⟩ := HXz.out.pg.cells (by omega)
                obtain ⟨t0, t1, t2⟩ := hc' q (by omega)
                have Hb7 := Lib.hid (B7.out q (by rw [Hpl.out]; omega))
                generalize hTq : atS x.t.pg q = z at *
                rw [hP'] at e0
                have hqi : (q : Int) < (x.n : Int) := by omega
                have hq0 : (0 : Int) ≤ (q : Int) := by omega
                clear hc' hP' hTq t2
                by_cases g0 : z.a = p.a
                · have gd : (z.a == p.a) = true := by simpa using g0
                  have g1 : (z.b == p.b) = false := by
                    have : ¬ z.b = p.b := fun e => by have := Hb7.out g0 e; omega
                    simpa using this
                  clear g0
                  go_wp2_with fail
                  go_quiet (fail)
                  go_wp2
                  go_roundw
                  case rel => exact ⟨q + 1, by omega, by go_num, Hmz.out.drewN _⟩
                  case measure => simp [intOf]; omega
                · have gd : (z.a == p.a) = false := by simpa using g0
                  clear g0
                  go_wp2_with fail
                  go_quiet (fail)
                  go_wp2
                  go_roundw
                  case rel => exact ⟨q + 1, by omega, by go_num, Hmz.out.drewN _⟩
                  case measure => simp [intOf]; omega
              · obtain rfl : q = k := by omega
                go_wp2
                go_roundw
                case rel => exact ⟨q + 1, by omega, by go_num, HM3.out.trans Hmz.out (fun _ _ h => h)⟩
                case measure => simp [intOf]; omega
        · obtain rfl : k = x.n := by omega
          have HCN := Lib.hid (rcount_ok wr x HXv.out (by omega) 1)
          have hone : cnt (stF 1 x.t) x.m ≤ 1 := by rw [← Hsl.out]; exact HT.out.one
          have hone' : ((cnt (stF 1 x.t) x.m : Nat) : Int) ≤ 1 := by omega
          generalize cnt (stF 1 x.t) x.m = q4 at *
          go_wp2_with fail
          refine HCN.out.mono ?_
          rintro e w5 ⟨rfl, hm5⟩
          have HM5 := Lib.hid (HM.out.trans (Hmv.out.trans hm5 (fun _ _ h => h)) (fun _ _ h => h))
          clear hm5
          go_wp2
          go_ret
          exact ⟨by simp, HM5.out⟩
end Go.Proofs.Ythbcgbbcoanbdaa
