/-
  The reference: Save, Above.
-/
import Derived.Test.YtidcmolkolcliaaXRa
import Derived.BigQuiet
namespace Go.Proofs.Ytidcmolkolcliaa
open Go Go.RowKit

set_option maxRecDepth 100000 in
set_option maxHeartbeats 3200000 in
theorem rsave_no (b0 : Nat) (w : World) (x : TxD) (h : Kp b0 w x) (hm : x.m ≤ 1000) (hb1 : mayT x.p = false) :
    Calls Try.prog 17 #[.agg #[.int .i64 x.id, .int .i64 x.st, .int .i64 x.f, .int .i64 x.l, .slice x.A x.n x.c, .slice x.B x.m x.d]] w fun e w' => RsAns b0 w w' (saveE x.p) (x.m : Int) (saveT x.p) e := by
  obtain ⟨w1, hw1⟩ : ∃ w1, (w.alloc (.cells #[.int .i64 x.id, .int .i64 x.st, .int .i64 x.f, .int .i64 x.l, .slice x.A x.n x.c, .slice x.B x.m x.d] 25)).alloc (.cells #[.int .i64 0, .int .i64 0, .int .i64 0, .int .i64 0, .slice none 0 0, .slice none 0 0] 25) = w1 := ⟨_, rfl⟩
  have HB1 : Hid ((x : TxD).In w1 (w.heap.size)) := by
    rw [← hw1]
    have q := TxD.In.new (w) (x)
    exact q.keep ((Mod.refl (fun _ => False) _).alloc _)
  have HR1 : Hid ((TxD.zero : TxD).In w1 (w.heap.size + 1)) := by
    rw [← hw1]
    have q := TxD.In.new (w.alloc (.cells #[.int .i64 x.id, .int .i64 x.st, .int .i64 x.f, .int .i64 x.l, .slice x.A x.n x.c, .slice x.B x.m x.d] 25)) (TxD.zero)
    simp only [World.size_alloc] at q
    exact q.keep (Mod.refl (fun _ => False) _)
  have HM1 : Hid (Mod (fun _ => False) w w1) := by rw [← hw1]; exact ((Mod.refl (fun _ => False) w).alloc _).alloc _
  have hz1 : w.heap.size + 2 ≤ w1.heap.size := by rw [← hw1]; simp
  obtain ⟨c0, c1, c2, c3, c4, c5⟩ := HB1.out.cells
  have HMay := Lib.hid (fun V (hV : Mod (fun _ => False) w V) => rmay_ok V x (h.at_.keep hV))
  have HX := Lib.hid h
  have HM := Lib.hid hm
  have HE : Hid (saveE x.p = if mayT x.p then (if x.m = 4 then 4 else 0) else 1) := by unfold saveE; rw [h.at_.nS]; rfl
  clear h hm
  clear HX HM
  rw [hb1] at HMay HE
  clear hb1
  go_enter Try.func17, Try.ntmps17
  go_wp2_with fail
  refine (HMay.out _ HM1.out).mono ?_
  rintro e w2 ⟨rfl, hm2⟩
  have HM2 := Lib.hid (HM1.out.trans hm2 (fun _ _ h => h))
  have hz2 := hm2.size
  have HB2 := Lib.hid (HB1.out.keep hm2)
  have HR2 := Lib.hid (HR1.out.keep hm2)
  clear hm2
  clear hw1 c0 c1 c2 c3 c4 c5
  obtain ⟨c0, c1, c2, c3, c4, c5⟩ := HB2.out.cells
  obtain ⟨r0, r1, r2, r3, r4, r5⟩ : w2.cell? ⟨w.heap.size + 1, 0, none⟩ = some (.int .i64 0) ∧ w2.cell? ⟨w.heap.size + 1, 1, none⟩ = some (.int .i64 0) ∧ w2.cell? ⟨w.heap.size + 1, 2, none⟩ = some (.int .i64 0) ∧ w2.cell? ⟨w.heap.size + 1, 3, none⟩ = some (.int .i64 0) ∧ w2.cell? ⟨w.heap.size + 1, 4, none⟩ = some (.slice none 0 0) ∧ w2.cell? ⟨w.heap.size + 1, 5, none⟩ = some (.slice none 0 0) := HR2.out.cells
  have g0 := HR2.out.fz 0
  have g1 := HR2.out.fz 1
  have g2 := HR2.out.fz 2
  have g3 := HR2.out.fz 3
  have g4 := HR2.out.fz 4
  have g5 := HR2.out.fz 5
  obtain ⟨w3, hw3⟩ : ∃ w3, (((((w2.setCell ⟨w.heap.size + 1, 0, none⟩ (.int .i64 0)).setCell ⟨w.heap.size + 1, 1, none⟩ (.int .i64 0)).setCell ⟨w.heap.size + 1, 2, none⟩ (.int .i64 0)).setCell ⟨w.heap.size + 1, 3, none⟩ (.int .i64 0)).setCell ⟨w.heap.size + 1, 4, none⟩ (.slice none 0 0)).setCell ⟨w.heap.size + 1, 5, none⟩ (.slice none 0 0) = w3 := ⟨_, rfl⟩
  have hq3 : stT w2 (w.heap.size + 1) TxD.zero = w3 := hw3
  have hs3 : Mod (fun k => k = w.heap.size + 1) w2 w3 := by rw [← hq3]; exact stT_mod w2 (w.heap.size + 1) TxD.zero
  have HM3 : Hid (Mod (fun _ => False) w w3) := HM2.out.trans hs3 (fun k _ e => by omega)
  have hz3 := hs3.size
  have HB3 := Lib.hid (HB2.out.mod hs3 (fun e => by omega))
  have HR3 : Hid ((TxD.zero : TxD).In w3 (w.heap.size + 1)) := by rw [← hq3]; exact HR2.out.set TxD.zero
  clear hq3
  have hsR := hs3
  clear hs3
  have HW := Lib.hid hw3
  clear hw3
  go_wp2
  rw [HW.out]
  clear c0 c1 c2 c3 c4 c5 r0 r1 r2 r3 r4 r5 g0 g1 g2 g3 g4 g5
  obtain ⟨q0, q1, q2, q3, q4, q5⟩ : w3.cell? ⟨w.heap.size + 1, 0, none⟩ = some (.int .i64 0) ∧ w3.cell? ⟨w.heap.size + 1, 1, none⟩ = some (.int .i64 0) ∧ w3.cell? ⟨w.heap.size + 1, 2, none⟩ = some (.int .i64 0) ∧ w3.cell? ⟨w.heap.size + 1, 3, none⟩ = some (.int .i64 0) ∧ w3.cell? ⟨w.heap.size + 1, 4, none⟩ = some (.slice none 0 0) ∧ w3.cell? ⟨w.heap.size + 1, 5, none⟩ = some (.slice none 0 0) := HR3.out.cells
  refine bodyPost_ret (v := .tuple #[.agg #[.int .i64 0, .int .i64 0, .int .i64 0, .int .i64 0, .slice none 0 0, .slice none 0 0], .int .i64 0, .int .i64 1]) (by simp [results, Try.results17, go_sem, q0, q1, q2, q3, q4, q5]) rfl ?_
  clear hsR
  exact ⟨TxD.zero, by rw [HE.out]; rfl, TxD.zero_kp _ _, by rw [HE.out]; rfl, HM3.out⟩
set_option maxRecDepth 100000 in
set_option maxHeartbeats 3200000 in
theorem rsave_full (b0 : Nat) (w : World) (x : TxD) (h : Kp b0 w x) (hm : x.m ≤ 1000) (hb1 : mayT x.p = true) (h4 : x.m = 4) :
    Calls Try.prog 17 #[.agg #[.int .i64 x.id, .int .i64 x.st, .int .i64 x.f, .int .i64 x.l, .slice x.A x.n x.c, .slice x.B x.m x.d]] w fun e w' => RsAns b0 w w' (saveE x.p) (x.m : Int) (saveT x.p) e := by
  obtain ⟨w1, hw1⟩ : ∃ w1, (w.alloc (.cells #[.int .i64 x.id, .int .i64 x.st, .int .i64 x.f, .int .i64 x.l, .slice x.A x.n x.c, .slice x.B x.m x.d] 25)).alloc (.cells #[.int .i64 0, .int .i64 0, .int .i64 0, .int .i64 0, .slice none 0 0, .slice none 0 0] 25) = w1 := ⟨_, rfl⟩
  have HB1 : Hid ((x : TxD).In w1 (w.heap.size)) := by
    rw [← hw1]
    have q := TxD.In.new (w) (x)
    exact q.keep ((Mod.refl (fun _ => False) _).alloc _)
  have HR1 : Hid ((TxD.zero : TxD).In w1 (w.heap.size + 1)) := by
    rw [← hw1]
    have q := TxD.In.new (w.alloc (.cells #[.int .i64 x.id, .int .i64 x.st, .int .i64 x.f, .int .i64 x.l, .slice x.A x.n x.c, .slice x.B x.m x.d] 25)) (TxD.zero)
    simp only [World.size_alloc] at q
    exact q.keep (Mod.refl (fun _ => False) _)
  have HM1 : Hid (Mod (fun _ => False) w w1) := by rw [← hw1]; exact ((Mod.refl (fun _ => False) w).alloc _).alloc _
  have hz1 : w.heap.size + 2 ≤ w1.heap.size := by rw [← hw1]; simp
  obtain ⟨c0, c1, c2, c3, c4, c5⟩ := HB1.out.cells
  have HMay := Lib.hid (fun V (hV : Mod (fun _ => False) w V) => rmay_ok V x (h.at_.keep hV))
  have HX := Lib.hid h
  have HM := Lib.hid hm
  have HE : Hid (saveE x.p = if mayT x.p then (if x.m = 4 then 4 else 0) else 1) := by unfold saveE; rw [h.at_.nS]; rfl
  clear h hm
  clear HX HM
  rw [hb1] at HMay HE
  clear hb1
  have hd4 : decide ((4 : Int) ≤ (x.m : Int)) = true := decide_eq_true (by omega)
  have hd5 : decide (4 ≤ x.m) = true := decide_eq_true (by omega)
  rw [if_pos h4] at HE
  clear h4
  go_enter Try.func17, Try.ntmps17
  go_wp2_with fail
  refine (HMay.out _ HM1.out).mono ?_
  rintro e w2 ⟨rfl, hm2⟩
  have HM2 := Lib.hid (HM1.out.trans hm2 (fun _ _ h => h))
  have hz2 := hm2.size
  have HB2 := Lib.hid (HB1.out.keep hm2)
  have HR2 := Lib.hid (HR1.out.keep hm2)
  clear hm2
  clear hw1 c0 c1 c2 c3 c4 c5
  obtain ⟨c0, c1, c2, c3, c4, c5⟩ := HB2.out.cells
  obtain ⟨r0, r1, r2, r3, r4, r5⟩ : w2.cell? ⟨w.heap.size + 1, 0, none⟩ = some (.int .i64 0) ∧ w2.cell? ⟨w.heap.size + 1, 1, none⟩ = some (.int .i64 0) ∧ w2.cell? ⟨w.heap.size + 1, 2, none⟩ = some (.int .i64 0) ∧ w2.cell? ⟨w.heap.size + 1, 3, none⟩ = some (.int .i64 0) ∧ w2.cell? ⟨w.heap.size + 1, 4, none⟩ = some (.slice none 0 0) ∧ w2.cell? ⟨w.heap.size + 1, 5, none⟩ = some (.slice none 0 0) := HR2.out.cells
  have g0 := HR2.out.fz 0
  have g1 := HR2.out.fz 1
  have g2 := HR2.out.fz 2
  have g3 := HR2.out.fz 3
  have g4 := HR2.out.fz 4
  have g5 := HR2.out.fz 5
  obtain ⟨w3, hw3⟩ : ∃ w3, (((((w2.setCell ⟨w.heap.size + 1, 0, none⟩ (.int .i64 0)).setCell ⟨w.heap.size + 1, 1, none⟩ (.int .i64 0)).setCell ⟨w.heap.size + 1, 2, none⟩ (.int .i64 0)).setCell ⟨w.heap.size + 1, 3, none⟩ (.int .i64 0)).setCell ⟨w.heap.size + 1, 4, none⟩ (.slice none 0 0)).setCell ⟨w.heap.size + 1, 5, none⟩ (.slice none 0 0) = w3 := ⟨_, rfl⟩
  have hq3 : stT w2 (w.heap.size + 1) TxD.zero = w3 := hw3
  have hs3 : Mod (fun k => k = w.heap.size + 1) w2 w3 := by rw [← hq3]; exact stT_mod w2 (w.heap.size + 1) TxD.zero
  have HM3 : Hid (Mod (fun _ => False) w w3) := HM2.out.trans hs3 (fun k _ e => by omega)
  have hz3 := hs3.size
  have HB3 := Lib.hid (HB2.out.mod hs3 (fun e => by omega))
  have HR3 : Hid ((TxD.zero : TxD).In w3 (w.heap.size + 1)) := by rw [← hq3]; exact HR2.out.set TxD.zero
  clear hq3
  have hsR := hs3
  clear hs3
  have HW := Lib.hid hw3
  clear hw3
  go_wp2
  rw [HW.out]
  clear c0 c1 c2 c3 c4 c5 r0 r1 r2 r3 r4 r5 g0 g1 g2 g3 g4 g5
  obtain ⟨q0, q1, q2, q3, q4, q5⟩ : w3.cell? ⟨w.heap.size + 1, 0, none⟩ = some (.int .i64 0) ∧ w3.cell? ⟨w.heap.size + 1, 1, none⟩ = some (.int .i64 0) ∧ w3.cell? ⟨w.heap.size + 1, 2, none⟩ = some (.int .i64 0) ∧ w3.cell? ⟨w.heap.size + 1, 3, none⟩ = some (.int .i64 0) ∧ w3.cell? ⟨w.heap.size + 1, 4, none⟩ = some (.slice none 0 0) ∧ w3.cell? ⟨w.heap.size + 1, 5, none⟩ = some (.slice none 0 0) := HR3.out.cells
  refine bodyPost_ret (v := .tuple #[.agg #[.int .i64 0, .int .i64 0, .int .i64 0, .int .i64 0, .slice none 0 0, .slice none 0 0], .int .i64 0, .int .i64 4]) (by simp [results, Try.results17, go_sem, q0, q1, q2, q3, q4, q5]) rfl ?_
  clear hsR
  exact ⟨TxD.zero, by rw [HE.out]; rfl, TxD.zero_kp _ _, by rw [HE.out]; rfl, HM3.out⟩
set_option maxRecDepth 100000 in
set_option maxHeartbeats 3200000 in
theorem rsave_yes (b0 : Nat) (w : World) (x : TxD) (h : Kp b0 w x) (hm : x.m ≤ 1000) (hb1 : mayT x.p = true) (h4 : x.m < 4) :
    Calls Try.prog 17 #[.agg #[.int .i64 x.id, .int .i64 x.st, .int .i64 x.f, .int .i64 x.l, .slice x.A x.n x.c, .slice x.B x.m x.d]] w fun e w' => RsAns b0 w w' (saveE x.p) (x.m : Int) (saveT x.p) e := by
  obtain ⟨w1, hw1⟩ : ∃ w1, (w.alloc (.cells #[.int .i64 x.id, .int .i64 x.st, .int .i64 x.f, .int .i64 x.l, .slice x.A x.n x.c, .slice x.B x.m x.d] 25)).alloc (.cells #[.int .i64 0, .int .i64 0, .int .i64 0, .int .i64 0, .slice none 0 0, .slice none 0 0] 25) = w1 := ⟨_, rfl⟩
  have HB1 : Hid ((x : TxD).In w1 (w.heap.size)) := by
    rw [← hw1]
    have q := TxD.In.new (w) (x)
    exact q.keep ((Mod.refl (fun _ => False) _).alloc _)
  have HR1 : Hid ((TxD.zero : TxD).In w1 (w.heap.size + 1)) := by
    rw [← hw1]
    have q := TxD.In.new (w.alloc (.cells #[.int .i64 x.id, .int .i64 x.st, .int .i64 x.f, .int .i64 x.l, .slice x.A x.n x.c, .slice x.B x.m x.d] 25)) (TxD.zero)
    simp only [World.size_alloc] at q
    exact q.keep (Mod.refl (fun _ => False) _)
  have HM1 : Hid (Mod (fun _ => False) w w1) := by rw [← hw1]; exact ((Mod.refl (fun _ => False) w).alloc _).alloc _
  have hz1 : w.heap.size + 2 ≤ w1.heap.size := by rw [← hw1]; simp
  obtain ⟨c0, c1, c2, c3, c4, c5⟩ := HB1.out.cells
  have HMay := Lib.hid (fun V (hV : Mod (fun _ => False) w V) => rmay_ok V x (h.at_.keep hV))
  have HX := Lib.hid h
  have HM := Lib.hid hm
  have HE : Hid (saveE x.p = if mayT x.p then (if x.m = 4 then 4 else 0) else 1) := by unfold saveE; rw [h.at_.nS]; rfl
  clear h hm
  rw [hb1] at HMay HE
  clear hb1
  have hd4 : decide ((4 : Int) ≤ (x.m : Int)) = false := decide_eq_false (by omega)
  have hd5 : decide (4 ≤ x.m) = false := decide_eq_false (by omega)
  have HE0 : Hid (saveE x.p = 0) := by show _ = _; rw [HE.out, if_pos rfl, if_neg (by omega)]
  clear HE h4
  go_enter Try.func17, Try.ntmps17
  go_wp2_with fail
  refine (HMay.out _ HM1.out).mono ?_
  rintro e w2 ⟨rfl, hm2⟩
  have HM2 := Lib.hid (HM1.out.trans hm2 (fun _ _ h => h))
  have hz2 := hm2.size
  have HB2 := Lib.hid (HB1.out.keep hm2)
  have HR2 := Lib.hid (HR1.out.keep hm2)
  clear hm2
  clear hw1 c0 c1 c2 c3 c4 c5
  obtain ⟨c0, c1, c2, c3, c4, c5⟩ := HB2.out.cells
  have HS2 := Lib.hid (HX.out.at_.keep HM2.out).S.src
  go_wp2_with (at_builtin; refine Hid.out ?_)
  refine Lib.hid ?_
  refine wpList_app (.const (.slice none 0 0)) (.tmp 22) intElem rfl rfl rfl rfl (OwV.nil w2 w2.heap.size 3) HS2.out (by have := HM.out; omega) (by have := HM.out; unfold maxLen; omega) (Nat.le_refl _) ?_
  intro A1 e1c w3 hO hg _
  rw [Nat.zero_add, List.nil_append] at hO
  rw [Nat.zero_add]
  have hm3 : Mod (fun _ => False) w2 w3 := (Mod.refl _ w2).grown hg (fun k e _ => by simp [blkOf] at e)
  have HO3 := Lib.hid hO
  clear hg hO HS2
  have HM3 := Lib.hid (HM2.out.trans hm3 (fun _ _ h => h))
  have hz3 := hm3.size
  have HB3 := Lib.hid (HB2.out.keep hm3)
  have HR3 := Lib.hid (HR2.out.keep hm3)
  clear hm3 c0 c1 c2 c3 c4 c5
  obtain ⟨c0, c1, c2, c3, c4, c5⟩ := HB3.out.cells
  obtain ⟨w4, hw4⟩ : ∃ w4, w3.alloc (.cells #[.int .i64 (x.n : Int)] 3) = w4 := ⟨_, rfl⟩
  have hm4 : Mod (fun _ => False) w3 w4 := by rw [← hw4]; exact (Mod.refl _ w3).alloc _
  have HS4 : Hid (Src w4 (some ⟨w3.heap.size, 0, none⟩) 1 [.int .i64 (x.n : Int)]) := by rw [← hw4]; exact Src.one w3 (.int .i64 (x.n : Int)) 3 rfl
  have HO4 := Lib.hid (OwV.mod HO3.out hm4 (fun _ _ h => h))
  have HM4 := Lib.hid (HM3.out.trans hm4 (fun _ _ h => h))
  have hz4 := hm4.size
  have HB4 := Lib.hid (HB3.out.keep hm4)
  have HR4 := Lib.hid (HR3.out.keep hm4)
  clear hm4
  go_wp2_with (at_builtin; refine Hid.out ?_)
  refine Lib.hid ?_
  refine wpList_app (.tmp 24) (.tmp 28) intElem rfl rfl rfl rfl HO4.out HS4.out (by have := HM.out; omega) (by have := HM.out; unfold maxLen; omega) (show w2.heap.size ≤ w4.heap.size by omega) ?_
  intro A2 e2c w5 hO hg _
  have hs5 : Mod (fun k => blkOf A1 = some k) w4 w5 := (Mod.refl _ w4).grown hg (fun k e _ => e)
  have hlo : ∀ k, blkOf A1 = some k → w2.heap.size ≤ k := fun k hk => (OwV.lt HO3.out k hk).1
  have HM5 : Hid (Mod (fun _ => False) w w5) := HM4.out.trans hs5 (fun k _ e => by have := hlo k e; omega)
  have HB5 := Lib.hid (HB4.out.mod hs5 (fun e => by have := hlo _ e; omega))
  have HR5 := Lib.hid (HR4.out.mod hs5 (fun e => by have := hlo _ e; omega))
  have HO5 : Hid (OwI w5 w2.heap.size A2 (x.m + 1) e2c (x.S ++ [(x.n : Int)])) := by
    show OwV w5 w2.heap.size 3 A2 (x.m + 1) e2c (ivs (x.S ++ [(x.n : Int)]))
    rw [ivs_append]
    exact hO
  have hz5 := hs5.size
  clear hO hg hs5 hlo hw4 c0 c1 c2 c3 c4 c5
  obtain ⟨c0, c1, c2, c3, c4, c5⟩ := HB5.out.cells
  have f5 := HB5.out.fz 5
  obtain ⟨w6, hw6⟩ : ∃ w6, w5.setCell ⟨w.heap.size, 5, none⟩ (.slice A2 (x.m + 1) e2c) = w6 := ⟨_, rfl⟩
  have hs6 : Mod (fun k => k = w.heap.size) w5 w6 := by rw [← hw6]; exact (Mod.refl (fun k => k = w.heap.size) w5).one (fun _ => rfl) _ _
  have HM6 : Hid (Mod (fun _ => False) w w6) := HM5.out.trans hs6 (fun k _ e => by omega)
  have hz6 := hs6.size
  have HB6 : Hid ((⟨x.id, x.st, x.f, x.l, x.A, x.n, x.c, x.L, A2, x.m + 1, e2c, x.S ++ [(x.n : Int)]⟩ : TxD).In w6 (w.heap.size)) := by rw [← hw6]; exact heap_set HB5.out 5 (.slice A2 (x.m + 1) e2c)
  have HR6 := Lib.hid (HR5.out.mod hs6 (fun e => by omega))
  have HO6 := Lib.hid (OwV.mod HO5.out hs6 (fun k hk e => by have := (OwV.lt HO5.out k hk).1; omega))
  clear hs6
  obtain ⟨d0, d1, d2, d3, d4, d5⟩ : w6.cell? ⟨w.heap.size, 0, none⟩ = some (.int .i64 x.id) ∧ w6.cell? ⟨w.heap.size, 1, none⟩ = some (.int .i64 x.st) ∧ w6.cell? ⟨w.heap.size, 2, none⟩ = some (.int .i64 x.f) ∧ w6.cell? ⟨w.heap.size, 3, none⟩ = some (.int .i64 x.l) ∧ w6.cell? ⟨w.heap.size, 4, none⟩ = some (.slice x.A x.n x.c) ∧ w6.cell? ⟨w.heap.size, 5, none⟩ = some (.slice A2 (x.m + 1) e2c) := HB6.out.cells
  obtain ⟨r0, r1, r2, r3, r4, r5⟩ : w6.cell? ⟨w.heap.size + 1, 0, none⟩ = some (.int .i64 0) ∧ w6.cell? ⟨w.heap.size + 1, 1, none⟩ = some (.int .i64 0) ∧ w6.cell? ⟨w.heap.size + 1, 2, none⟩ = some (.int .i64 0) ∧ w6.cell? ⟨w.heap.size + 1, 3, none⟩ = some (.int .i64 0) ∧ w6.cell? ⟨w.heap.size + 1, 4, none⟩ = some (.slice none 0 0) ∧ w6.cell? ⟨w.heap.size + 1, 5, none⟩ = some (.slice none 0 0) := HR6.out.cells
  have g0 := HR6.out.fz 0
  have g1 := HR6.out.fz 1
  have g2 := HR6.out.fz 2
  have g3 := HR6.out.fz 3
  have g4 := HR6.out.fz 4
  have g5 := HR6.out.fz 5
  obtain ⟨w7, hw7⟩ : ∃ w7, (((((w6.setCell ⟨w.heap.size + 1, 0, none⟩ (.int .i64 x.id)).setCell ⟨w.heap.size + 1, 1, none⟩ (.int .i64 x.st)).setCell ⟨w.heap.size + 1, 2, none⟩ (.int .i64 x.f)).setCell ⟨w.heap.size + 1, 3, none⟩ (.int .i64 x.l)).setCell ⟨w.heap.size + 1, 4, none⟩ (.slice x.A x.n x.c)).setCell ⟨w.heap.size + 1, 5, none⟩ (.slice A2 (x.m + 1) e2c) = w7 := ⟨_, rfl⟩
  have hq7 : stT w6 (w.heap.size + 1) ⟨x.id, x.st, x.f, x.l, x.A, x.n, x.c, x.L, A2, x.m + 1, e2c, x.S ++ [(x.n : Int)]⟩ = w7 := hw7
  have hs7 : Mod (fun k => k = w.heap.size + 1) w6 w7 := by rw [← hq7]; exact stT_mod w6 (w.heap.size + 1) ⟨x.id, x.st, x.f, x.l, x.A, x.n, x.c, x.L, A2, x.m + 1, e2c, x.S ++ [(x.n : Int)]⟩
  have HM7 : Hid (Mod (fun _ => False) w w7) := HM6.out.trans hs7 (fun k _ e => by omega)
  have hz7 := hs7.size
  have HB7 := Lib.hid (HB6.out.mod hs7 (fun e => by omega))
  have HR7 : Hid ((⟨x.id, x.st, x.f, x.l, x.A, x.n, x.c, x.L, A2, x.m + 1, e2c, x.S ++ [(x.n : Int)]⟩ : TxD).In w7 (w.heap.size + 1)) := by rw [← hq7]; exact HR6.out.set ⟨x.id, x.st, x.f, x.l, x.A, x.n, x.c, x.L, A2, x.m + 1, e2c, x.S ++ [(x.n : Int)]⟩
  clear hq7
  have hsR := hs7
  clear hs7
  have HW := Lib.hid hw7
  clear hw7
  go_wp2
  rw [HW.out]
  clear hw6 f5 c0 c1 c2 c3 c4 c5 d0 d1 d2 d3 d4 d5 r0 r1 r2 r3 r4 r5 g0 g1 g2 g3 g4 g5
  obtain ⟨q0, q1, q2, q3, q4, q5⟩ : w7.cell? ⟨w.heap.size + 1, 0, none⟩ = some (.int .i64 x.id) ∧ w7.cell? ⟨w.heap.size + 1, 1, none⟩ = some (.int .i64 x.st) ∧ w7.cell? ⟨w.heap.size + 1, 2, none⟩ = some (.int .i64 x.f) ∧ w7.cell? ⟨w.heap.size + 1, 3, none⟩ = some (.int .i64 x.l) ∧ w7.cell? ⟨w.heap.size + 1, 4, none⟩ = some (.slice x.A x.n x.c) ∧ w7.cell? ⟨w.heap.size + 1, 5, none⟩ = some (.slice A2 (x.m + 1) e2c) := HR7.out.cells
  refine bodyPost_ret (v := .tuple #[.agg #[.int .i64 x.id, .int .i64 x.st, .int .i64 x.f, .int .i64 x.l, .slice x.A x.n x.c, .slice A2 (x.m + 1) e2c], .int .i64 (x.m : Int), .int .i64 0]) (by simp [results, Try.results17, go_sem, q0, q1, q2, q3, q4, q5]) rfl ?_
  have hO := OwV.mod HO6.out hsR (fun k hk e => by have := (OwV.lt HO5.out k hk).1; omega)
  refine ⟨⟨x.id, x.st, x.f, x.l, x.A, x.n, x.c, x.L, A2, x.m + 1, e2c, x.S ++ [(x.n : Int)]⟩, by rw [HE0.out]; rfl, Kp.withS (HX.out.keep HM7.out).at_ hO, ?_, HM7.out⟩
  rw [HE0.out, if_pos rfl]
  show (⟨x.id, x.st, x.f, x.l, pc x.L, x.S ++ [(x.n : Int)]⟩ : Tp) = ⟨x.id, x.st, x.f, x.l, pc x.L, x.S ++ [(x.p.L.length : Int)]⟩
  rw [HX.out.at_.nL]
theorem rsave_ok (b0 : Nat) (w : World) (x : TxD) (h : Kp b0 w x) (hm : x.m ≤ 1000) :
    Calls Try.prog 17 #[.agg #[.int .i64 x.id, .int .i64 x.st, .int .i64 x.f, .int .i64 x.l, .slice x.A x.n x.c, .slice x.B x.m x.d]] w fun e w' => RsAns b0 w w' (saveE x.p) (x.m : Int) (saveT x.p) e := by
  cases hb1 : mayT x.p with
  | false => exact rsave_no b0 w x h hm hb1
  | true =>
    have h5 : x.m ≤ 4 := by have := (may_len hb1).2; rwa [h.at_.nS] at this
    by_cases h4 : x.m = 4
    · exact rsave_full b0 w x h hm hb1 h4
    · exact rsave_yes b0 w x h hm hb1 (by omega)
set_option maxRecDepth 100000 in
set_option maxHeartbeats 3200000 in
theorem rabove_ok (w : World) (x : TxD) (h : x.At w) (hn : x.n ≤ 1000) (k : Int) :
    Calls Try.prog 19 #[.agg #[.int .i64 x.id, .int .i64 x.st, .int .i64 x.f, .int .i64 x.l, .slice x.A x.n x.c, .slice x.B x.m x.d], .int .i64 k] w fun e w' => AbAns w w' (aboveE x.p k) (aboveI x.p k) e := by
  obtain ⟨w1, hw1⟩ : ∃ w1, w.alloc (.cells #[.int .i64 x.id, .int .i64 x.st, .int .i64 x.f, .int .i64 x.l, .slice x.A x.n x.c, .slice x.B x.m x.d] 25) = w1 := ⟨_, rfl⟩
  have HB1 : Hid ((x : TxD).In w1 (w.heap.size)) := by
    rw [← hw1]
    have q := TxD.In.new (w) (x)
    exact q.keep (Mod.refl (fun _ => False) _)
  have HM1 : Hid (Mod (fun _ => False) w w1) := by rw [← hw1]; exact (Mod.refl (fun _ => False) w).alloc _
  have hz1 : w.heap.size + 1 ≤ w1.heap.size := by rw [← hw1]; simp
  clear hz1
  obtain ⟨c0, c1, c2, c3, c4, c5⟩ := HB1.out.cells
  have HMay := Lib.hid (fun V (hV : Mod (fun _ => False) w V) => rmay_ok V x (h.keep hV))
  have HX := Lib.hid h
  have HE : Hid (aboveE x.p k = if mayT x.p then (if inB k 0 ((x.m : Int) - 1) then 0 else 3) else 1) := by unfold aboveE; rw [h.nS]; rfl
  have HI : Hid (aboveI x.p k = (x.n : Int) - atI x.S k.toNat) := by unfold aboveI; rw [h.nL]; rfl
  have HN := Lib.hid hn
  have hlS : Hid (x.S.length = x.m) := h.nS
  have hb0 : Hid (mayT x.p = true → inB k 0 ((x.m : Int) - 1) = true → 0 ≤ atI x.S k.toNat ∧ atI x.S k.toNat ≤ (x.n : Int)) := fun h1 h2 => by
    have h3 := inB_iff.1 h2
    have h4 := sL_bd (mayT_iff.1 h1).2.2.2.2.2 (i := k.toNat) (by have := h.nS; omega)
    rw [h.nL] at h4
    exact h4
  clear h hn
  cases hb1 : mayT x.p with
  | false =>
    rw [hb1] at HMay HE hb0
    clear hb1
    clear hb0 HI
    go_enter Try.func19, Try.ntmps19
    go_wp2_with fail
    refine (HMay.out _ HM1.out).mono ?_
    rintro e w2 ⟨rfl, hm2⟩
    have HM2 := Lib.hid (HM1.out.trans hm2 (fun _ _ h => h))
    have HB2 := Lib.hid (HB1.out.keep hm2)
    clear hm2
    clear hw1 c0 c1 c2 c3 c4 c5
    obtain ⟨c0, c1, c2, c3, c4, c5⟩ := HB2.out.cells
    go_wp2
    go_ret2
    exact ⟨by rw [HE.out]; rfl, HM2.out⟩
  | true =>
  rw [hb1] at HMay HE hb0
  clear hb1
  by_cases k1 : k < 0
  · have e1 : decide (k < 0) = true := decide_eq_true k1
    have hin : inB k 0 ((x.m : Int) - 1) = false := by unfold inB; rw [decide_eq_false (by omega), Bool.false_and]
    rw [hin] at HE
    clear k1 hin hb0 HI
    go_enter Try.func19, Try.ntmps19
    go_wp2_with fail
    refine (HMay.out _ HM1.out).mono ?_
    rintro e w2 ⟨rfl, hm2⟩
    have HM2 := Lib.hid (HM1.out.trans hm2 (fun _ _ h => h))
    have HB2 := Lib.hid (HB1.out.keep hm2)
    clear hm2
    clear hw1 c0 c1 c2 c3 c4 c5
    obtain ⟨c0, c1, c2, c3, c4, c5⟩ := HB2.out.cells
    go_wp2
    go_ret2
    exact ⟨by rw [HE.out]; rfl, HM2.out⟩
  have e1 : decide (k < 0) = false := decide_eq_false k1
  by_cases k2 : (x.m : Int) ≤ k
  · have e2 : decide ((x.m : Int) ≤ k) = true := decide_eq_true k2
    have hin : inB k 0 ((x.m : Int) - 1) = false := by unfold inB; rw [Bool.and_eq_false_iff]; exact .inr (decide_eq_false (by omega))
    rw [hin] at HE
    clear k1 k2 hin hb0 HI
    go_enter Try.func19, Try.ntmps19
    go_wp2_with fail
    refine (HMay.out _ HM1.out).mono ?_
    rintro e w2 ⟨rfl, hm2⟩
    have HM2 := Lib.hid (HM1.out.trans hm2 (fun _ _ h => h))
    have HB2 := Lib.hid (HB1.out.keep hm2)
    clear hm2
    clear hw1 c0 c1 c2 c3 c4 c5
    obtain ⟨c0, c1, c2, c3, c4, c5⟩ := HB2.out.cells
    go_wp2
    go_ret2
    exact ⟨by rw [HE.out]; rfl, HM2.out⟩
  have hin : inB k 0 ((x.m : Int) - 1) = true := inB_iff.2 (by omega)
  rw [hin] at HE hb0
  obtain ⟨j, rfl⟩ : ∃ j : Nat, k = (j : Int) := ⟨k.toNat, by omega⟩
  have hj : j < x.m := by omega
  have e1' : decide ((j : Int) < 0) = false := decide_eq_false (by omega)
  have e2 : decide ((x.m : Int) ≤ (j : Int)) = false := decide_eq_false (by omega)
  have e2' : decide (x.m ≤ j) = false := decide_eq_false (by omega)
  have hb := hb0.out (by trivial) (by trivial)
  rw [Int.toNat_natCast] at hb
  have HI2 : Hid (aboveI x.p (j : Int) = (x.n : Int) - atI x.S j) := by have := HI.out; rwa [Int.toNat_natCast] at this
  have ev : IntKind.i64.wrap ((x.n : Int) - atI x.S j) = (x.n : Int) - atI x.S j := by have := HN.out; rw [IntKind.wrap_i64]; omega
  clear k1 k2 hb0 hin HI hb e1'
  go_enter Try.func19, Try.ntmps19
  go_wp2_with fail
  refine (HMay.out _ HM1.out).mono ?_
  rintro e w2 ⟨rfl, hm2⟩
  have HM2 := Lib.hid (HM1.out.trans hm2 (fun _ _ h => h))
  have HB2 := Lib.hid (HB1.out.keep hm2)
  clear hm2
  clear hw1 c0 c1 c2 c3 c4 c5
  obtain ⟨c0, c1, c2, c3, c4, c5⟩ := HB2.out.cells
  obtain ⟨b, o, hB, hc⟩ := (HX.out.keep HM2.out).S.2.2 (by omega)
  have hs : w2.cell? ⟨b, o + j, none⟩ = some (.int .i64 (atI x.S j)) := hc j _ (atI_at (by have := hlS.out; omega))
  clear hc
  rw [hB] at c5
  go_wp2_with fail
  go_quiet (fail)
  go_wp2
  go_ret2
  exact ⟨by rw [HE.out, HI2.out]; rfl, HM2.out.drewN _⟩
end Go.Proofs.Ytidcmolkolcliaa
