/-
  bobbinref10.May of any table.
-/
import Derived.Test.YthbcgbbcoanbdaaRMay
import Derived.BigQuiet
namespace Go.Proofs.Ythbcgbbcoanbdaa
open Go Go.RowKit

/-- What May asks of one page, those ahead of it included. -/
def okQ (t : Tb) (p : Tr) (k : Nat) : Prop := (p = emT ∨ ((0 ≤ p.a ∧ p.a < t.sg.length ∧ 0 ≤ p.b ∧ p.b < t.sl ∧ 0 ≤ p.c ∧ p.c ≤ 4294967295) ∧ p.b < (atS t.sg p.a.toNat).b)) ∧ ∀ q, q < k → ¬ (0 ≤ p.a ∧ (atS t.pg q).a = p.a ∧ (atS t.pg q).b = p.b)
def okP (t : Tb) (k : Nat) : Prop := okQ t (atS t.pg k) k
theorem ok_all {t : Tb} (h : ∀ k, k < t.pg.length → okP t k) : ∀ i, i < t.pg.length → pgB t i = true := fun i hi => by
  refine pgB_mk ?_
  obtain ⟨h1, h2⟩ := h i hi
  rcases h1 with h1 | ⟨⟨a1, a2, a3, a4, a5, a6⟩, a7⟩
  · exact .inl h1
  · refine .inr ⟨a1, a2, a3, a4, a5, a6, a7, fun j hj e1 e2 => ?_⟩
    by_cases hlt : j < i
    · exact absurd ⟨a1, e1, e2⟩ (h2 j hlt)
    · by_cases hgt : i < j
      · exact absurd ⟨by rw [e1]; exact a1, e1.symm, e2.symm⟩ ((h j hj).2 i hgt)
      · omega

set_option maxRecDepth 100000 in
set_option maxHeartbeats 12800000 in
theorem rmayN_ok (w : World) (x : TV) (h : x.At w) (hno : ¬ x.t.May) :
    Calls Try.prog 36 #[.agg #[.slice x.P x.n x.c, .slice x.S x.m x.d, .int .i64 x.t.sl, .int .i64 x.t.nw]] w fun e w' => e = .returned (.bool false) ∧ Mod (fun _ => False) w w' := by
  obtain ⟨w1, hw1⟩ : ∃ w1, w.alloc (.cells #[.slice x.P x.n x.c, .slice x.S x.m x.d, .int .i64 x.t.sl, .int .i64 x.t.nw] 27) = w1 := ⟨_, rfl⟩
  have hm1 : Mod (fun _ => False) w w1 := by rw [← hw1]; exact (Mod.refl _ w).alloc _
  have hbx : TBx w1 w.heap.size x := by rw [← hw1]; exact TBx.new w x
  obtain ⟨c0, c1, c2, c3⟩ := hbx.cells
  have HM := Lib.hid hm1
  have HB := Lib.hid hbx
  have HX := Lib.hid (h.keep hm1)
  have Hpl : Hid (x.t.pg.length = x.n) := h.pg.len
  have Hsl : Hid (x.t.sg.length = x.m) := h.sg.len
  have HNO := Lib.hid hno
  clear hbx hm1 h hno
  by_cases q0 : (x.n : Int) < 1
  · have a0 : decide ((x.n : Int) < 1) = true := decide_eq_true q0
    clear q0 HNO
    go_enter Try.func36, Try.ntmps36
    go_wp2
    go_ret
    exact ⟨rfl, HM.out⟩
  have a0 : decide ((x.n : Int) < 1) = false := decide_eq_false q0
  by_cases q1 : (16 : Int) < (x.n : Int)
  · have a1 : decide ((16 : Int) < (x.n : Int)) = true := decide_eq_true q1
    clear q1 HNO
    go_enter Try.func36, Try.ntmps36
    go_wp2
    go_ret
    exact ⟨rfl, HM.out⟩
  have a1 : decide ((16 : Int) < (x.n : Int)) = false := decide_eq_false q1
  by_cases q2 : (x.m : Int) < 2
  · have a2 : decide ((x.m : Int) < 2) = true := decide_eq_true q2
    clear q2 HNO
    go_enter Try.func36, Try.ntmps36
    go_wp2
    go_ret
    exact ⟨rfl, HM.out⟩
  have a2 : decide ((x.m : Int) < 2) = false := decide_eq_false q2
  by_cases q3 : (32 : Int) < (x.m : Int)
  · have a3 : decide ((32 : Int) < (x.m : Int)) = true := decide_eq_true q3
    clear q3 HNO
    go_enter Try.func36, Try.ntmps36
    go_wp2
    go_ret
    exact ⟨rfl, HM.out⟩
  have a3 : decide ((32 : Int) < (x.m : Int)) = false := decide_eq_false q3
  by_cases q4 : x.t.sl < 1
  · have a4 : decide (x.t.sl < 1) = true := decide_eq_true q4
    clear q4 HNO
    go_enter Try.func36, Try.ntmps36
    go_wp2
    go_ret
    exact ⟨rfl, HM.out⟩
  have a4 : decide (x.t.sl < 1) = false := decide_eq_false q4
  by_cases q5 : 16 < x.t.sl
  · have a5 : decide (16 < x.t.sl) = true := decide_eq_true q5
    clear q5 HNO
    go_enter Try.func36, Try.ntmps36
    go_wp2
    go_ret
    exact ⟨rfl, HM.out⟩
  have a5 : decide (16 < x.t.sl) = false := decide_eq_false q5
  by_cases q6 : x.t.nw < 0
  · have a6 : decide (x.t.nw < 0) = true := decide_eq_true q6
    clear q6 HNO
    go_enter Try.func36, Try.ntmps36
    go_wp2
    go_ret
    exact ⟨rfl, HM.out⟩
  have a6 : decide (x.t.nw < 0) = false := decide_eq_false q6
  by_cases q7 : 1099511627776 < x.t.nw
  · have a7 : decide (1099511627776 < x.t.nw) = true := decide_eq_true q7
    clear q7 HNO
    go_enter Try.func36, Try.ntmps36
    go_wp2
    go_ret
    exact ⟨rfl, HM.out⟩
  have a7 : decide (1099511627776 < x.t.nw) = false := decide_eq_false q7
  have Hfin : Hid ((∀ i, i < x.m → sgF x.t i = true) → (∀ k, k < x.n → okP x.t k) → ¬ cnt (stF 1 x.t) x.m ≤ 1) := fun h1 h2 h3 => HNO.out ⟨by rw [Hpl.out]; omega, by rw [Hpl.out]; omega, by rw [Hsl.out]; omega, by rw [Hsl.out]; omega, by omega, by omega, by omega, by omega, by rw [Hsl.out]; exact h1, by rw [Hsl.out]; exact h3, ok_all (by rw [Hpl.out]; exact h2)⟩
  have HPL := Lib.hid (fun W p => rplace_ok W x p Hsl.out.symm)
  have hm32 : x.m ≤ 32 := by omega
  have hn16 : x.n ≤ 16 := by omega
  clear q0 q1 q2 q3 q4 q5 q6 q7 HNO
  go_enter Try.func36, Try.ntmps36
  go_wp2
  clear a0 a1 a2 a3 a4 a5 a7 hw1
  go_loopw [3] (fun i wr => ∃ j : Nat, j ≤ x.m ∧ i = .int .i64 j ∧ Mod (fun _ => False) w1 wr ∧ ∀ i, i < j → sgF x.t i = true) (fun i _ => x.m - (intOf i).toNat)
  case atStart => exact ⟨0, Nat.zero_le _, rfl, Mod.refl _ _, fun i hi => absurd hi (by omega)⟩
  clear c0 c1 c2 c3
  case round =>
    obtain ⟨j, hj, rfl, hmr, hinv⟩ := hrel
    have Hmr := Lib.hid hmr
    have Hinv := Lib.hid hinv
    obtain ⟨c0, c1, c2, c3⟩ := (HB.out.keep hmr).cells
    have hsz := (HB.out.keep hmr).lt
    have HXr := Lib.hid (HX.out.keep hmr)
    clear hmr hinv
    by_cases hlt : j < x.m
    · obtain ⟨b, o, hS, hc⟩ := HXr.out.sg.cells (by omega)
      obtain ⟨q0', q1', q2'⟩ := hc j hlt
      have hlb := (hc j hlt).lt
      have Hi1 : Hid (segB (atS x.t.sg j) x.t.sl x.t.nw = true → ∀ i, i < j + 1 → sgF x.t i = true) := fun h i hi => by
        by_cases e : i < j
        · exact Hinv.out i e
        · obtain rfl : i = j := by omega
          exact h
      generalize hT : atS x.t.sg j = s at *
      rw [hS] at c1
      clear hc hS hT Hinv
      have hji : (j : Int) < (x.m : Int) := by omega
      have hne : b ≠ wr.heap.size := by omega
      have hmb : Mod (fun _ => False) w1 (wr.alloc (.cells #[.int .i64 s.a, .int .i64 s.b, .int .i64 s.c] 45)) := Hmr.out.alloc _
      have Hmb := Lib.hid hmb
      clear hmb
      by_cases hst : segB s x.t.sl x.t.nw = true
      · have Hinv1 := Lib.hid (Hi1.out hst)
        clear Hi1
        rcases segB_iff.1 hst with hw | ⟨w0, w1', w2', w3', w4'⟩ | ⟨w0, w1', w2', w3'⟩
        · rw [hw] at q0' q1' q2' Hmb
          have q0'' : wr.cell? ⟨b, o + j * 3, none⟩ = some (.int .i64 0) := q0'
          have q1'' : wr.cell? ⟨b, o + j * 3 + 1, none⟩ = some (.int .i64 0) := q1'
          have q2'' : wr.cell? ⟨b, o + j * 3 + 2, none⟩ = some (.int .i64 0) := q2'
          have hd2 : decide (x.t.nw < 0) = false := a6
          clear hw hst q0' q1' q2'
          go_wp2
          go_roundw
          case rel => exact ⟨j + 1, by omega, by go_num, Hmb.out, Hinv1.out⟩
          case measure => simp [intOf]; omega
        · have e0 : (s.a == 0) = false := by rw [w0]; rfl
          have e1 : (s.a == 1) = true := by rw [w0]; rfl
          have e2 : (s.a == 2) = false := by rw [w0]; rfl
          have e3 : decide (1 ≤ s.b) = true := by simpa using w1'
          have e4 : decide (s.b < x.t.sl) = true := by rw [decide_eq_true_eq]; omega
          have e5 : decide (s.c < 0) = false := by rw [decide_eq_false_iff_not]; omega
          have e6 : decide (x.t.nw < s.c) = false := by rw [decide_eq_false_iff_not]; omega
          clear w0 w1' w2' w3' w4' hst
          go_wp2
          go_roundw
          case rel => exact ⟨j + 1, by omega, by go_num, Hmb.out, Hinv1.out⟩
          case measure => simp [intOf]; omega
        · have e0 : (s.a == 0) = false := by rw [w0]; rfl
          have e1 : (s.a == 1) = false := by rw [w0]; rfl
          have e2 : (s.a == 2) = true := by rw [w0]; rfl
          have e3 : (s.b == x.t.sl) = true := by simpa using w1'
          have e5 : decide (s.c < 0) = false := by rw [decide_eq_false_iff_not]; omega
          have e6 : decide (x.t.nw < s.c) = false := by rw [decide_eq_false_iff_not]; omega
          clear w0 w1' w2' w3' hst
          go_wp2
          go_roundw
          case rel => exact ⟨j + 1, by omega, by go_num, Hmb.out, Hinv1.out⟩
          case measure => simp [intOf]; omega
      · have hsf : ¬ segB s x.t.sl x.t.nw = true := hst
        clear hst Hi1
        by_cases h0 : s.a = 0
        · by_cases h1 : s.b = 0
          · have h2 : s.c ≠ 0 := fun e => hsf (segB_iff.2 (.inl (by cases s; simp only at h0 h1 e; subst h0; subst h1; subst e; rfl)))
            have e0 : (s.a == 0) = true := by rw [h0]; rfl
            have e1 : (s.a == 1) = false := by rw [h0]; rfl
            have e2 : (s.a == 2) = false := by rw [h0]; rfl
            have b0 : (s.b == 0) = true := by rw [h1]; rfl
            have c0' : (s.c == 0) = false := by simpa using h2
            clear h0 h1 h2 hsf
            go_wp2
            go_ret
            exact ⟨rfl, HM.out.trans Hmb.out (fun _ _ h => h)⟩
          · 
            have e0 : (s.a == 0) = true := by rw [h0]; rfl
            have e1 : (s.a == 1) = false := by rw [h0]; rfl
            have e2 : (s.a == 2) = false := by rw [h0]; rfl
            have b0 : (s.b == 0) = false := by simpa using h1
            clear h0 h1 hsf
            go_wp2
            go_ret
            exact ⟨rfl, HM.out.trans Hmb.out (fun _ _ h => h)⟩
        by_cases h1 : s.a = 1
        · by_cases g1 : 1 ≤ s.b
          rotate_left
          · 
            have e0 : (s.a == 0) = false := by rw [h1]; rfl
            have e1 : (s.a == 1) = true := by rw [h1]; rfl
            have e2 : (s.a == 2) = false := by rw [h1]; rfl
            have b0 : decide (1 ≤ s.b) = false := by simpa using g1
            clear h0 h1 g1 hsf
            go_wp2
            go_ret
            exact ⟨rfl, HM.out.trans Hmb.out (fun _ _ h => h)⟩
          by_cases g2 : s.b < x.t.sl
          rotate_left
          · 
            have e0 : (s.a == 0) = false := by rw [h1]; rfl
            have e1 : (s.a == 1) = true := by rw [h1]; rfl
            have e2 : (s.a == 2) = false := by rw [h1]; rfl
            have b0 : decide (1 ≤ s.b) = true := by simpa using g1
            have b1 : decide (s.b < x.t.sl) = false := by simpa using g2
            clear h0 h1 g1 g2 hsf
            go_wp2
            go_ret
            exact ⟨rfl, HM.out.trans Hmb.out (fun _ _ h => h)⟩
          by_cases g3 : s.c < 0
          · 
            have e0 : (s.a == 0) = false := by rw [h1]; rfl
            have e1 : (s.a == 1) = true := by rw [h1]; rfl
            have e2 : (s.a == 2) = false := by rw [h1]; rfl
            have b0 : decide (1 ≤ s.b) = true := by simpa using g1
            have b1 : decide (s.b < x.t.sl) = true := by simpa using g2
            have b2 : decide (s.c < 0) = true := by simpa using g3
            clear h0 h1 g1 g2 g3 hsf
            go_wp2
            go_ret
            exact ⟨rfl, HM.out.trans Hmb.out (fun _ _ h => h)⟩
          have g4 : x.t.nw < s.c := Classical.byContradiction fun e => hsf (segB_iff.2 (.inr (.inl ⟨h1, by omega, by omega, by omega, by omega⟩)))
          have e0 : (s.a == 0) = false := by rw [h1]; rfl
          have e1 : (s.a == 1) = true := by rw [h1]; rfl
          have e2 : (s.a == 2) = false := by rw [h1]; rfl
          have b0 : decide (1 ≤ s.b) = true := by simpa using g1
          have b1 : decide (s.b < x.t.sl) = true := by simpa using g2
          have b2 : decide (s.c < 0) = false := by simpa using g3
          have b3 : decide (x.t.nw < s.c) = true := by simpa using g4
          clear h0 h1 g1 g2 g3 g4 hsf
          go_wp2
          go_ret
          exact ⟨rfl, HM.out.trans Hmb.out (fun _ _ h => h)⟩
        by_cases h2 : s.a = 2
        · by_cases g1 : s.b = x.t.sl
          rotate_left
          · 
            have e0 : (s.a == 0) = false := by rw [h2]; rfl
            have e1 : (s.a == 1) = false := by rw [h2]; rfl
            have e2 : (s.a == 2) = true := by rw [h2]; rfl
            have b0 : (s.b == x.t.sl) = false := by simpa using g1
            clear h0 h1 h2 g1 hsf
            go_wp2
            go_ret
            exact ⟨rfl, HM.out.trans Hmb.out (fun _ _ h => h)⟩
          by_cases g3 : s.c < 0
          · 
            have e0 : (s.a == 0) = false := by rw [h2]; rfl
            have e1 : (s.a == 1) = false := by rw [h2]; rfl
            have e2 : (s.a == 2) = true := by rw [h2]; rfl
            have b0 : (s.b == x.t.sl) = true := by simpa using g1
            have b2 : decide (s.c < 0) = true := by simpa using g3
            clear h0 h1 h2 g1 g3 hsf
            go_wp2
            go_ret
            exact ⟨rfl, HM.out.trans Hmb.out (fun _ _ h => h)⟩
          have g4 : x.t.nw < s.c := Classical.byContradiction fun e => hsf (segB_iff.2 (.inr (.inr ⟨h2, g1, by omega, by omega⟩)))
          have e0 : (s.a == 0) = false := by rw [h2]; rfl
          have e1 : (s.a == 1) = false := by rw [h2]; rfl
          have e2 : (s.a == 2) = true := by rw [h2]; rfl
          have b0 : (s.b == x.t.sl) = true := by simpa using g1
          have b2 : decide (s.c < 0) = false := by simpa using g3
          have b3 : decide (x.t.nw < s.c) = true := by simpa using g4
          clear h0 h1 h2 g1 g3 g4 hsf
          go_wp2
          go_ret
          exact ⟨rfl, HM.out.trans Hmb.out (fun _ _ h => h)⟩
        have e0 : (s.a == 0) = false := by simpa using h0
        have e1 : (s.a == 1) = false := by simpa using h1
        have e2 : (s.a == 2) = false := by simpa using h2
        clear h0 h1 h2 hsf
        go_wp2
        go_ret
        exact ⟨rfl, HM.out.trans Hmb.out (fun _ _ h => h)⟩
    · obtain rfl : j = x.m := by omega
      have HALL := Hinv
      go_wp2
      clear c0 c1 c2 c3
      go_loopw [8] (fun i wr => ∃ k : Nat, k ≤ x.n ∧ i = .int .i64 k ∧ Mod (fun _ => False) w1 wr ∧ ∀ i, i < k → okP x.t i) (fun i _ => x.n - (intOf i).toNat)
      case atStart => exact ⟨0, Nat.zero_le _, rfl, Hmr.out, fun i hi => absurd hi (by omega)⟩
      case round =>
        obtain ⟨k, hk, rfl, hmv, hinv⟩ := hrel
        have Hmv := Lib.hid hmv
        have HBv := Lib.hid (HB.out.keep hmv)
        have HXv := Lib.hid (HX.out.keep hmv)
        have Hinv := Lib.hid hinv
        clear hmv hinv
        obtain ⟨c0, c1, c2, c3⟩ := HBv.out.cells
        by_cases hlt2 : k < x.n
        · 
          obtain ⟨b, o, hP, hc⟩ := HXv.out.pg.cells (by omega)
          obtain ⟨q0', q1', q2'⟩ := hc k hlt2
          have Hk : Hid (okP x.t k → ∀ i, i < k + 1 → okP x.t i) := fun h i hi => by
            by_cases e : i < k
            · exact Hinv.out i e
            · obtain rfl : i = k := by omega
              exact h
          have Hok : Hid (okP x.t k ↔ okQ x.t (atS x.t.pg k) k) := Lib.hid Iff.rfl
          have HPK := Lib.hid (fun W => HPL.out W (atS x.t.pg k))
          generalize hTk : atS x.t.pg k = p at *
          rw [hP] at c0 HPK
          clear hc hTk
          have HP := Lib.hid hP
          clear hP
          have hki : (k : Int) < (x.n : Int) := by omega
          obtain ⟨w2, hw2⟩ : ∃ w2, wr.alloc (.cells #[.int .i64 p.a, .int .i64 p.b, .int .i64 p.c] 34) = w2 := ⟨_, rfl⟩
          have hm2 : Mod (fun _ => False) wr w2 := by rw [← hw2]; exact (Mod.refl _ wr).alloc _
          have hr2 : RBx w2 wr.heap.size 34 p := by rw [← hw2]; exact RBx.new wr _ p
          have HR2 := Lib.hid hr2
          have HM2 := Lib.hid (Hmv.out.trans hm2 (fun _ _ h => h))
          have HX2 := Lib.hid (HXv.out.keep hm2)
          obtain ⟨e0, e1, e2, e3⟩ := (HBv.out.keep hm2).cells
          obtain ⟨r0, r1, r2⟩ := hr2.cells
          have HB2 := Lib.hid (HBv.out.keep hm2)
          rw [HP.out] at e0
          clear hm2 hr2
          cases hok : (eqT p emT || plB x.t p) with
          | false =>
            rw [hok] at HPK
            clear hok
            go_wp2_with fail
            clear hw2 q0' q1' q2' c0 c1 c2 c3 e0 e1 e2 e3 r0 r1 r2
            refine (HPK.out _).mono ?_
            rintro e w3 ⟨rfl, hm3⟩
            have HM3 := Lib.hid (HM2.out.trans hm3 (fun _ _ h => h))
            have HB3 := Lib.hid (HB2.out.keep hm3)
            have HR3 := Lib.hid (HR2.out.keep hm3)
            obtain ⟨e0, e1, e2, e3⟩ := HB3.out.cells
            obtain ⟨r0, r1, r2⟩ := HR3.out.cells
            clear hm3 HPK
            go_wp2_with fail
            go_quiet (fail)
            go_wp2
            go_ret
            exact ⟨rfl, (HM.out.trans HM3.out (fun _ _ h => h)).drewN _⟩
          | true =>
          rw [hok] at HPK
          have HOK := Lib.hid hok
          clear hok
          go_wp2_with fail
          clear hw2 q0' q1' q2' c0 c1 c2 c3 e0 e1 e2 e3 r0 r1 r2
          refine (HPK.out _).mono ?_
          rintro e w3 ⟨rfl, hm3⟩
          have HM3 := Lib.hid (HM2.out.trans hm3 (fun _ _ h => h))
          have HX3 := Lib.hid (HX2.out.keep hm3)
          have HB3 := Lib.hid (HB2.out.keep hm3)
          have HR3 := Lib.hid (HR2.out.keep hm3)
          obtain ⟨e0, e1, e2, e3⟩ := HB3.out.cells
          obtain ⟨r0, r1, r2⟩ := HR3.out.cells
          clear hm3 HPK
          by_cases h0 : 0 ≤ p.a
          rotate_left
          · have hd : decide (0 ≤ p.a) = false := by simpa using h0
            have hkk := Hk.out (Hok.out.2 ⟨.inl (by
              have h := HOK.out
              rw [Bool.or_eq_true] at h
              rcases h with h | h
              · exact eqT_iff.1 h
              · exact absurd (plB_iff.1 h).1 h0), fun q hq e => h0 e.1⟩)
            have Hkk := Lib.hid hkk
            clear h0 hkk
            go_wp2_with fail
            go_quiet (fail)
            generalize hw4 : w3.drewN _ = w4
            have HM4 : Hid (Mod (fun _ => False) w3 w4) := by rw [← hw4]; exact (Mod.refl _ w3).drewN _
            obtain ⟨e0', e1', e2', e3'⟩ := (HB3.out.keep HM4.out).cells
            obtain ⟨r0', r1', r2'⟩ := (HR3.out.keep HM4.out).cells
            clear hw4 e0 e1 e2 e3 r0 r1 r2
            go_wp2
            clear e0' e1' e2' e3' r0' r1' r2'
            go_loopw [11] (fun i wz => ∃ q : Nat, q ≤ k ∧ i = .int .i64 q ∧ Mod (fun _ => False) w3 wz) (fun i _ => k - (intOf i).toNat)
            case atStart => exact ⟨0, Nat.zero_le _, rfl, HM4.out⟩
            case round =>
              obtain ⟨q, hq, rfl, hmz⟩ := hrel
              have Hmz := Lib.hid hmz
              obtain ⟨e0, e1, e2, e3⟩ := (HB3.out.keep hmz).cells
              obtain ⟨r0, r1, r2⟩ := (HR3.out.keep hmz).cells
              clear hmz
              by_cases hlt3 : q < k
              · go_wp2_with fail
                go_quiet (fail)
                go_wp2
                go_roundw
                case rel => exact ⟨q + 1, by omega, by go_num, Hmz.out.drewN _⟩
                case measure => simp [intOf]; omega
              · obtain rfl : q = k := by omega
                go_wp2
                go_roundw
                case rel => exact ⟨q + 1, by omega, by go_num, HM3.out.trans Hmz.out (fun _ _ h => h), Hkk.out⟩
                case measure => simp [intOf]; omega
          have hpl : plB x.t p = true := by
            have h := HOK.out
            rw [Bool.or_eq_true] at h
            rcases h with h | h
            · rw [eqT_iff.1 h] at h0
              exact absurd h0 (by decide)
            · exact h
          have hpl' := plB_iff.1 hpl
          have b1 : p.a < (x.m : Int) := by have := hpl'.2.1; rw [Hsl.out] at this; exact this
          have Hpl' := Lib.hid hpl'
          obtain ⟨bs, os, hS, hcs⟩ := HX3.out.sg.cells (by omega)
          obtain ⟨t0, t1, t2⟩ := hcs p.a.toNat (by omega)
          have hseg := HALL.out p.a.toNat (by omega)
          unfold sgF at hseg
          generalize hsg : atS x.t.sg p.a.toNat = sgm at *
          have Hsg := Lib.hid hsg
          have hd : decide (0 ≤ p.a) = true := by simpa using h0
          rw [hS] at e1
          clear hcs t2 hS hpl hpl' hsg
          by_cases hn0 : sgm.a = 0
          · have hna : (sgm.a == 0) = true := by simpa using hn0
            clear hn0 hseg
            go_wp2_with fail
            go_quiet (fail)
            go_wp2
            go_ret
            exact ⟨rfl, (HM.out.trans HM3.out (fun _ _ h => h)).drewN _⟩
          have hna : (sgm.a == 0) = false := by simpa using hn0
          by_cases hn1 : sgm.b ≤ p.b
          · have hnb : decide (sgm.b ≤ p.b) = true := by simpa using hn1
            clear hn0 hn1 hseg
            go_wp2_with fail
            go_quiet (fail)
            go_wp2
            go_ret
            exact ⟨rfl, (HM.out.trans HM3.out (fun _ _ h => h)).drewN _⟩
          have hnb : decide (sgm.b ≤ p.b) = false := by simpa using hn1
          have HN1 := Lib.hid hn1
          clear hn0 hn1 hseg
          go_wp2_with fail
          go_quiet (fail)
          generalize hw4 : w3.drewN _ = w4
          have HM4 : Hid (Mod (fun _ => False) w3 w4) := by rw [← hw4]; exact (Mod.refl _ w3).drewN _
          clear hw4 e0 e1 e2 e3 r0 r1 r2 t0 t1 hna hnb
          go_wp2
          go_loopw [11] (fun i wz => ∃ q : Nat, q ≤ k ∧ i = .int .i64 q ∧ Mod (fun _ => False) w3 wz ∧ ∀ q', q' < q → ¬ ((atS x.t.pg q').a = p.a ∧ (atS x.t.pg q').b = p.b)) (fun i _ => k - (intOf i).toNat)
          case atStart => exact ⟨0, Nat.zero_le _, rfl, HM4.out, fun q' hq' => absurd hq' (by omega)⟩
          case round =>
            obtain ⟨q, hq, rfl, hmz, hnq⟩ := hrel
            have Hmz := Lib.hid hmz
            have Hnq := Lib.hid hnq
            obtain ⟨e0, e1, e2, e3⟩ := (HB3.out.keep hmz).cells
            obtain ⟨r0, r1, r2⟩ := (HR3.out.keep hmz).cells
            have HXz := Lib.hid (HX3.out.keep hmz)
            clear hmz hnq
            by_cases hlt3 : q < k
            · obtain ⟨b', o', hP', hc'⟩ := HXz.out.pg.cells (by omega)
              obtain ⟨t0, t1, t2⟩ := hc' q (by omega)
              have Hq1 : Hid (¬ ((atS x.t.pg q).a = p.a ∧ (atS x.t.pg q).b = p.b) → ∀ q', q' < q + 1 → ¬ ((atS x.t.pg q').a = p.a ∧ (atS x.t.pg q').b = p.b)) := fun h q' hq' => by
                by_cases e : q' < q
                · exact Hnq.out q' e
                · obtain rfl : q' = q := by omega
                  exact h
              generalize hTq : atS x.t.pg q = z at *
              rw [hP'] at e0
              have hqi : (q : Int) < (x.n : Int) := by omega
              have hq0 : (0 : Int) ≤ (q : Int) := by omega
              clear hc' hP' hTq t2 Hnq
              by_cases g0 : z.a = p.a
              · have gd : (z.a == p.a) = true := by simpa using g0
                by_cases g1 : z.b = p.b
                · have ge : (z.b == p.b) = true := by simpa using g1
                  clear g0 g1 Hq1
                  go_wp2_with fail
                  go_quiet (fail)
                  go_wp2
                  go_ret
                  exact ⟨rfl, (HM.out.trans (HM3.out.trans Hmz.out (fun _ _ h => h)) (fun _ _ h => h)).drewN _⟩
                · have ge : (z.b == p.b) = false := by simpa using g1
                  have Hq2 := Lib.hid (Hq1.out (fun e => g1 e.2))
                  clear g0 g1 Hq1
                  go_wp2_with fail
                  go_quiet (fail)
                  go_wp2
                  go_roundw
                  case rel => exact ⟨q + 1, by omega, by go_num, Hmz.out.drewN _, Hq2.out⟩
                  case measure => simp [intOf]; omega
              · have gd : (z.a == p.a) = false := by simpa using g0
                have Hq2 := Lib.hid (Hq1.out (fun e => g0 e.1))
                clear g0 Hq1
                go_wp2_with fail
                go_quiet (fail)
                go_wp2
                go_roundw
                case rel => exact ⟨q + 1, by omega, by go_num, Hmz.out.drewN _, Hq2.out⟩
                case measure => simp [intOf]; omega
            · obtain rfl : q = k := by omega
              have Hkk := Lib.hid (Hk.out (Hok.out.2 ⟨.inr ⟨Hpl'.out, by rw [Hsg.out]; have := HN1.out; omega⟩, fun q' hq' e => Hnq.out q' hq' e.2⟩))
              go_wp2
              go_roundw
              case rel => exact ⟨q + 1, by omega, by go_num, HM3.out.trans Hmz.out (fun _ _ h => h), Hkk.out⟩
              case measure => simp [intOf]; omega
        · obtain rfl : k = x.n := by omega
          have HCN := Lib.hid (rcount_ok wr x HXv.out (by omega) 1)
          have hone : ¬ cnt (stF 1 x.t) x.m ≤ 1 := Hfin.out HALL.out Hinv.out
          have hone' : decide (((cnt (stF 1 x.t) x.m : Nat) : Int) ≤ 1) = false := by rw [decide_eq_false_iff_not]; omega
          clear hone
          generalize cnt (stF 1 x.t) x.m = q4 at *
          go_wp2_with fail
          refine HCN.out.mono ?_
          rintro e w5 ⟨rfl, hm5⟩
          have HM5 := Lib.hid (HM.out.trans (Hmv.out.trans hm5 (fun _ _ h => h)) (fun _ _ h => h))
          clear hm5
          go_wp2
          go_ret
          exact ⟨rfl, HM5.out⟩
theorem rmayA_ok (w : World) (x : TV) (h : x.At w) :
    Calls Try.prog 36 #[.agg #[.slice x.P x.n x.c, .slice x.S x.m x.d, .int .i64 x.t.sl, .int .i64 x.t.nw]] w fun e w' => e = .returned (.bool (mayB x.t)) ∧ Mod (fun _ => False) w w' := by
  by_cases hm : x.t.May
  · rw [mayB_iff.2 hm]; exact rmay_ok w x h hm
  · rw [mayB_no hm]; exact rmayN_ok w x h hm
end Go.Proofs.Ythbcgbbcoanbdaa
