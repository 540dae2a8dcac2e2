/-
  Package txn: Save, Above.
-/
import Derived.Test.YtidcmolkolcliaaXKp
import Derived.BigQuiet
namespace Go.Proofs.Ytidcmolkolcliaa
open Go Go.RowKit

set_option maxRecDepth 100000 in
set_option maxHeartbeats 3200000 in
theorem save_no (w : World) (x : TxD) (h : x.At w) (hn : x.n ≤ 1000) (hm : x.m ≤ 1000) (hb1 : mayT x.p = false) :
    Calls Try.prog 16 #[.agg #[.int .i64 x.id, .int .i64 x.st, .int .i64 x.f, .int .i64 x.l, .slice x.A x.n x.c, .slice x.B x.m x.d]] w fun e w' => SvAns w w' (saveE x.p) (x.m : Int) (saveT x.p) e := by
  obtain ⟨w1, hw1⟩ : ∃ w1, (w.alloc (.cells #[.int .i64 x.id, .int .i64 x.st, .int .i64 x.f, .int .i64 x.l, .slice x.A x.n x.c, .slice x.B x.m x.d] 25)).alloc (.cells #[.int .i64 0, .int .i64 0, .int .i64 0, .int .i64 0, .slice none 0 0, .slice none 0 0] 25) = w1 := ⟨_, rfl⟩
  have HB1 : Hid ((x : TxD).In w1 (w.heap.size)) := by
    rw [← hw1]
    have q := TxD.In.new (w) (x)
    exact q.keep ((Mod.refl (fun _ => False) _).alloc _)
  have HR1 : Hid ((TxD.zero : TxD).In w1 (w.heap.size + 1)) := by
    rw [← hw1]
    have q := TxD.In.new (w.alloc (.cells #[.int .i64 x.id, .int .i64 x.st, .int .i64 x.f, .int .i64 x.l, .slice x.A x.n x.c, .slice x.B x.m x.d] 25)) (TxD.zero)
    simp only [World.size_alloc] at q
    exact q.keep (Mod.refl (fun _ => False) _)
  have HM1 : Hid (Mod (fun _ => False) w w1) := by rw [← hw1]; exact ((Mod.refl (fun _ => False) w).alloc _).alloc _
  have hz1 : w.heap.size + 2 ≤ w1.heap.size := by rw [← hw1]; simp
  obtain ⟨c0, c1, c2, c3, c4, c5⟩ := HB1.out.cells
  have HMay := Lib.hid (fun V (hV : Mod (fun _ => False) w V) => may_ok V x (h.keep hV) hn hm)
  have HX := Lib.hid h
  have HN := Lib.hid hn
  have HM := Lib.hid hm
  have Hsm := Lib.hid h.small
  have HE : Hid (saveE x.p = if mayT x.p then (if x.m = 4 then 4 else 0) else 1) := by unfold saveE; rw [h.nS]; rfl
  clear h hn hm
  clear HX HN HM
  rw [hb1] at HMay HE Hsm
  clear hb1
  clear Hsm
  go_enter Try.func16, Try.ntmps16
  go_wp2_with fail
  refine (HMay.out _ HM1.out).mono ?_
  rintro e w2 ⟨rfl, hm2⟩
  have HM2 := Lib.hid (HM1.out.trans hm2 (fun _ _ h => h))
  have hz2 := hm2.size
  have HB2 := Lib.hid (HB1.out.keep hm2)
  have HR2 := Lib.hid (HR1.out.keep hm2)
  clear hm2
  clear hw1 c0 c1 c2 c3 c4 c5
  obtain ⟨c0, c1, c2, c3, c4, c5⟩ := HB2.out.cells
  obtain ⟨r0, r1, r2, r3, r4, r5⟩ : w2.cell? ⟨w.heap.size + 1, 0, none⟩ = some (.int .i64 0) ∧ w2.cell? ⟨w.heap.size + 1, 1, none⟩ = some (.int .i64 0) ∧ w2.cell? ⟨w.heap.size + 1, 2, none⟩ = some (.int .i64 0) ∧ w2.cell? ⟨w.heap.size + 1, 3, none⟩ = some (.int .i64 0) ∧ w2.cell? ⟨w.heap.size + 1, 4, none⟩ = some (.slice none 0 0) ∧ w2.cell? ⟨w.heap.size + 1, 5, none⟩ = some (.slice none 0 0) := HR2.out.cells
  have g0 := HR2.out.fz 0
  have g1 := HR2.out.fz 1
  have g2 := HR2.out.fz 2
  have g3 := HR2.out.fz 3
  have g4 := HR2.out.fz 4
  have g5 := HR2.out.fz 5
  obtain ⟨w3, hw3⟩ : ∃ w3, (((((w2.setCell ⟨w.heap.size + 1, 0, none⟩ (.int .i64 0)).setCell ⟨w.heap.size + 1, 1, none⟩ (.int .i64 0)).setCell ⟨w.heap.size + 1, 2, none⟩ (.int .i64 0)).setCell ⟨w.heap.size + 1, 3, none⟩ (.int .i64 0)).setCell ⟨w.heap.size + 1, 4, none⟩ (.slice none 0 0)).setCell ⟨w.heap.size + 1, 5, none⟩ (.slice none 0 0) = w3 := ⟨_, rfl⟩
  have hq3 : stT w2 (w.heap.size + 1) TxD.zero = w3 := hw3
  have hs3 : Mod (fun k => k = w.heap.size + 1) w2 w3 := by rw [← hq3]; exact stT_mod w2 (w.heap.size + 1) TxD.zero
  have HM3 : Hid (Mod (fun _ => False) w w3) := HM2.out.trans hs3 (fun k _ e => by omega)
  have hz3 := hs3.size
  have HB3 := Lib.hid (HB2.out.mod hs3 (fun e => by omega))
  have HR3 : Hid ((TxD.zero : TxD).In w3 (w.heap.size + 1)) := by rw [← hq3]; exact HR2.out.set TxD.zero
  clear hq3
  have hsR := hs3
  clear hs3
  have HW := Lib.hid hw3
  clear hw3
  go_wp2
  rw [HW.out]
  clear c0 c1 c2 c3 c4 c5 r0 r1 r2 r3 r4 r5 g0 g1 g2 g3 g4 g5
  obtain ⟨q0, q1, q2, q3, q4, q5⟩ : w3.cell? ⟨w.heap.size + 1, 0, none⟩ = some (.int .i64 0) ∧ w3.cell? ⟨w.heap.size + 1, 1, none⟩ = some (.int .i64 0) ∧ w3.cell? ⟨w.heap.size + 1, 2, none⟩ = some (.int .i64 0) ∧ w3.cell? ⟨w.heap.size + 1, 3, none⟩ = some (.int .i64 0) ∧ w3.cell? ⟨w.heap.size + 1, 4, none⟩ = some (.slice none 0 0) ∧ w3.cell? ⟨w.heap.size + 1, 5, none⟩ = some (.slice none 0 0) := HR3.out.cells
  refine bodyPost_ret (v := .tuple #[.agg #[.int .i64 0, .int .i64 0, .int .i64 0, .int .i64 0, .slice none 0 0, .slice none 0 0], .int .i64 0, .int .i64 1]) (by simp [results, Try.results16, go_sem, q0, q1, q2, q3, q4, q5]) rfl ?_
  clear hsR
  exact ⟨TxD.zero, by rw [HE.out]; rfl, TxD.zero_own _ _, by rw [HE.out]; rfl, HM3.out⟩
set_option maxRecDepth 100000 in
set_option maxHeartbeats 3200000 in
theorem save_full (w : World) (x : TxD) (h : x.At w) (hn : x.n ≤ 1000) (hm : x.m ≤ 1000) (hb1 : mayT x.p = true) (h4 : x.m = 4) :
    Calls Try.prog 16 #[.agg #[.int .i64 x.id, .int .i64 x.st, .int .i64 x.f, .int .i64 x.l, .slice x.A x.n x.c, .slice x.B x.m x.d]] w fun e w' => SvAns w w' (saveE x.p) (x.m : Int) (saveT x.p) e := by
  obtain ⟨w1, hw1⟩ : ∃ w1, (w.alloc (.cells #[.int .i64 x.id, .int .i64 x.st, .int .i64 x.f, .int .i64 x.l, .slice x.A x.n x.c, .slice x.B x.m x.d] 25)).alloc (.cells #[.int .i64 0, .int .i64 0, .int .i64 0, .int .i64 0, .slice none 0 0, .slice none 0 0] 25) = w1 := ⟨_, rfl⟩
  have HB1 : Hid ((x : TxD).In w1 (w.heap.size)) := by
    rw [← hw1]
    have q := TxD.In.new (w) (x)
    exact q.keep ((Mod.refl (fun _ => False) _).alloc _)
  have HR1 : Hid ((TxD.zero : TxD).In w1 (w.heap.size + 1)) := by
    rw [← hw1]
    have q := TxD.In.new (w.alloc (.cells #[.int .i64 x.id, .int .i64 x.st, .int .i64 x.f, .int .i64 x.l, .slice x.A x.n x.c, .slice x.B x.m x.d] 25)) (TxD.zero)
    simp only [World.size_alloc] at q
    exact q.keep (Mod.refl (fun _ => False) _)
  have HM1 : Hid (Mod (fun _ => False) w w1) := by rw [← hw1]; exact ((Mod.refl (fun _ => False) w).alloc _).alloc _
  have hz1 : w.heap.size + 2 ≤ w1.heap.size := by rw [← hw1]; simp
  obtain ⟨c0, c1, c2, c3, c4, c5⟩ := HB1.out.cells
  have HMay := Lib.hid (fun V (hV : Mod (fun _ => False) w V) => may_ok V x (h.keep hV) hn hm)
  have HX := Lib.hid h
  have HN := Lib.hid hn
  have HM := Lib.hid hm
  have Hsm := Lib.hid h.small
  have HE : Hid (saveE x.p = if mayT x.p then (if x.m = 4 then 4 else 0) else 1) := by unfold saveE; rw [h.nS]; rfl
  clear h hn hm
  clear HX HN HM
  rw [hb1] at HMay HE Hsm
  clear hb1
  clear Hsm
  have hd4 : ((x.m : Int) == 4) = true := by simp [h4]
  rw [if_pos h4] at HE
  clear h4
  go_enter Try.func16, Try.ntmps16
  go_wp2_with fail
  refine (HMay.out _ HM1.out).mono ?_
  rintro e w2 ⟨rfl, hm2⟩
  have HM2 := Lib.hid (HM1.out.trans hm2 (fun _ _ h => h))
  have hz2 := hm2.size
  have HB2 := Lib.hid (HB1.out.keep hm2)
  have HR2 := Lib.hid (HR1.out.keep hm2)
  clear hm2
  clear hw1 c0 c1 c2 c3 c4 c5
  obtain ⟨c0, c1, c2, c3, c4, c5⟩ := HB2.out.cells
  obtain ⟨r0, r1, r2, r3, r4, r5⟩ : w2.cell? ⟨w.heap.size + 1, 0, none⟩ = some (.int .i64 0) ∧ w2.cell? ⟨w.heap.size + 1, 1, none⟩ = some (.int .i64 0) ∧ w2.cell? ⟨w.heap.size + 1, 2, none⟩ = some (.int .i64 0) ∧ w2.cell? ⟨w.heap.size + 1, 3, none⟩ = some (.int .i64 0) ∧ w2.cell? ⟨w.heap.size + 1, 4, none⟩ = some (.slice none 0 0) ∧ w2.cell? ⟨w.heap.size + 1, 5, none⟩ = some (.slice none 0 0) := HR2.out.cells
  have g0 := HR2.out.fz 0
  have g1 := HR2.out.fz 1
  have g2 := HR2.out.fz 2
  have g3 := HR2.out.fz 3
  have g4 := HR2.out.fz 4
  have g5 := HR2.out.fz 5
  obtain ⟨w3, hw3⟩ : ∃ w3, (((((w2.setCell ⟨w.heap.size + 1, 0, none⟩ (.int .i64 0)).setCell ⟨w.heap.size + 1, 1, none⟩ (.int .i64 0)).setCell ⟨w.heap.size + 1, 2, none⟩ (.int .i64 0)).setCell ⟨w.heap.size + 1, 3, none⟩ (.int .i64 0)).setCell ⟨w.heap.size + 1, 4, none⟩ (.slice none 0 0)).setCell ⟨w.heap.size + 1, 5, none⟩ (.slice none 0 0) = w3 := ⟨_, rfl⟩
  have hq3 : stT w2 (w.heap.size + 1) TxD.zero = w3 := hw3
  have hs3 : Mod (fun k => k = w.heap.size + 1) w2 w3 := by rw [← hq3]; exact stT_mod w2 (w.heap.size + 1) TxD.zero
  have HM3 : Hid (Mod (fun _ => False) w w3) := HM2.out.trans hs3 (fun k _ e => by omega)
  have hz3 := hs3.size
  have HB3 := Lib.hid (HB2.out.mod hs3 (fun e => by omega))
  have HR3 : Hid ((TxD.zero : TxD).In w3 (w.heap.size + 1)) := by rw [← hq3]; exact HR2.out.set TxD.zero
  clear hq3
  have hsR := hs3
  clear hs3
  have HW := Lib.hid hw3
  clear hw3
  go_wp2
  rw [HW.out]
  clear c0 c1 c2 c3 c4 c5 r0 r1 r2 r3 r4 r5 g0 g1 g2 g3 g4 g5
  obtain ⟨q0, q1, q2, q3, q4, q5⟩ : w3.cell? ⟨w.heap.size + 1, 0, none⟩ = some (.int .i64 0) ∧ w3.cell? ⟨w.heap.size + 1, 1, none⟩ = some (.int .i64 0) ∧ w3.cell? ⟨w.heap.size + 1, 2, none⟩ = some (.int .i64 0) ∧ w3.cell? ⟨w.heap.size + 1, 3, none⟩ = some (.int .i64 0) ∧ w3.cell? ⟨w.heap.size + 1, 4, none⟩ = some (.slice none 0 0) ∧ w3.cell? ⟨w.heap.size + 1, 5, none⟩ = some (.slice none 0 0) := HR3.out.cells
  refine bodyPost_ret (v := .tuple #[.agg #[.int .i64 0, .int .i64 0, .int .i64 0, .int .i64 0, .slice none 0 0, .slice none 0 0], .int .i64 0, .int .i64 4]) (by simp [results, Try.results16, go_sem, q0, q1, q2, q3, q4, q5]) rfl ?_
  clear hsR
  exact ⟨TxD.zero, by rw [HE.out]; rfl, TxD.zero_own _ _, by rw [HE.out]; rfl, HM3.out⟩
set_option maxRecDepth 100000 in
set_option maxHeartbeats 3200000 in
theorem save_yes (w : World) (x : TxD) (h : x.At w) (hn : x.n ≤ 1000) (hm : x.m ≤ 1000) (hb1 : mayT x.p = true) (h4 : ¬ x.m = 4) :
    Calls Try.prog 16 #[.agg #[.int .i64 x.id, .int .i64 x.st, .int .i64 x.f, .int .i64 x.l, .slice x.A x.n x.c, .slice x.B x.m x.d]] w fun e w' => SvAns w w' (saveE x.p) (x.m : Int) (saveT x.p) e := by
  obtain ⟨w1, hw1⟩ : ∃ w1, (w.alloc (.cells #[.int .i64 x.id, .int .i64 x.st, .int .i64 x.f, .int .i64 x.l, .slice x.A x.n x.c, .slice x.B x.m x.d] 25)).alloc (.cells #[.int .i64 0, .int .i64 0, .int .i64 0, .int .i64 0, .slice none 0 0, .slice none 0 0] 25) = w1 := ⟨_, rfl⟩
  have HB1 : Hid ((x : TxD).In w1 (w.heap.size)) := by
    rw [← hw1]
    have q := TxD.In.new (w) (x)
    exact q.keep ((Mod.refl (fun _ => False) _).alloc _)
  have HR1 : Hid ((TxD.zero : TxD).In w1 (w.heap.size + 1)) := by
    rw [← hw1]
    have q := TxD.In.new (w.alloc (.cells #[.int .i64 x.id, .int .i64 x.st, .int .i64 x.f, .int .i64 x.l, .slice x.A x.n x.c, .slice x.B x.m x.d] 25)) (TxD.zero)
    simp only [World.size_alloc] at q
    exact q.keep (Mod.refl (fun _ => False) _)
  have HM1 : Hid (Mod (fun _ => False) w w1) := by rw [← hw1]; exact ((Mod.refl (fun _ => False) w).alloc _).alloc _
  have hz1 : w.heap.size + 2 ≤ w1.heap.size := by rw [← hw1]; simp
  obtain ⟨c0, c1, c2, c3, c4, c5⟩ := HB1.out.cells
  have HMay := Lib.hid (fun V (hV : Mod (fun _ => False) w V) => may_ok V x (h.keep hV) hn hm)
  have HX := Lib.hid h
  have HN := Lib.hid hn
  have HM := Lib.hid hm
  have Hsm := Lib.hid h.small
  have HE : Hid (saveE x.p = if mayT x.p then (if x.m = 4 then 4 else 0) else 1) := by unfold saveE; rw [h.nS]; rfl
  clear h hn hm
  rw [hb1] at HMay HE Hsm
  clear hb1
  have hd4 : ((x.m : Int) == 4) = false := by simpa using (fun e => h4 (by omega) : ¬ (x.m : Int) = 4)
  have HE0 : Hid (saveE x.p = 0) := by show _ = _; rw [HE.out, if_neg h4]; rfl
  clear HE h4
  go_enter Try.func16, Try.ntmps16
  go_wp2_with fail
  refine (HMay.out _ HM1.out).mono ?_
  rintro e w2 ⟨rfl, hm2⟩
  have HM2 := Lib.hid (HM1.out.trans hm2 (fun _ _ h => h))
  have hz2 := hm2.size
  have HB2 := Lib.hid (HB1.out.keep hm2)
  have HR2 := Lib.hid (HR1.out.keep hm2)
  clear hm2
  clear hw1 c0 c1 c2 c3 c4 c5
  obtain ⟨c0, c1, c2, c3, c4, c5⟩ := HB2.out.cells
  have HC := Lib.hid (copied_ok w2 x (HX.out.keep HM2.out) HN.out HM.out (Hsm.out trivial))
  go_wp2_with fail
  refine HC.out.mono ?_
  rintro e w3 ⟨z, rfl, hz, hzp, hm3⟩
  have HZ := Lib.hid hz
  have HZp := Lib.hid hzp
  have HM3 := Lib.hid (HM2.out.trans hm3 (fun _ _ h => h))
  have hz3 := hm3.size
  have HB3 := Lib.hid (HB2.out.keep hm3)
  have HR3 := Lib.hid (HR2.out.keep hm3)
  clear HC hz hzp hm3 hd4 c0 c1 c2 c3 c4 c5
  obtain ⟨c0, c1, c2, c3, c4, c5⟩ := HB3.out.cells
  have f0 := HB3.out.fz 0
  have f1 := HB3.out.fz 1
  have f2 := HB3.out.fz 2
  have f3 := HB3.out.fz 3
  have f4 := HB3.out.fz 4
  have f5 := HB3.out.fz 5
  obtain ⟨w4, hw4⟩ : ∃ w4, (((((w3.setCell ⟨w.heap.size, 0, none⟩ (.int .i64 z.id)).setCell ⟨w.heap.size, 1, none⟩ (.int .i64 z.st)).setCell ⟨w.heap.size, 2, none⟩ (.int .i64 z.f)).setCell ⟨w.heap.size, 3, none⟩ (.int .i64 z.l)).setCell ⟨w.heap.size, 4, none⟩ (.slice z.A z.n z.c)).setCell ⟨w.heap.size, 5, none⟩ (.slice z.B z.m z.d) = w4 := ⟨_, rfl⟩
  have hq4 : stT w3 (w.heap.size) z = w4 := hw4
  have hs4 : Mod (fun k => k = w.heap.size) w3 w4 := by rw [← hq4]; exact stT_mod w3 (w.heap.size) z
  have HM4 : Hid (Mod (fun _ => False) w w4) := HM3.out.trans hs4 (fun k _ e => by omega)
  have hz4 := hs4.size
  have HB4 : Hid ((z : TxD).In w4 (w.heap.size)) := by rw [← hq4]; exact HB3.out.set z
  have HR4 := Lib.hid (HR3.out.mod hs4 (fun e => by omega))
  clear hq4
  have HZ4 := Lib.hid (HZ.out.old hs4 (by omega))
  clear hs4
  obtain ⟨d0, d1, d2, d3, d4, d5⟩ := HB4.out.cells
  have hzm : z.m = x.m := by have h1 := HZ.out.at_.nS; have h2 := HZp.out; have h3 := HX.out.nS; rw [h2] at h1; omega
  have hzn : z.n = x.n := by have h1 := HZ.out.at_.nL; have h2 := HZp.out; have h3 := HX.out.nL; rw [h2] at h1; omega
  have Hzm := Lib.hid hzm
  have Hlm : Hid (z.m ≤ 1000) := by show z.m ≤ 1000; rw [hzm]; exact HM.out
  clear hzm hzn
  obtain ⟨w5, hw5⟩ : ∃ w5, w4.alloc (.cells #[.int .i64 (z.n : Int)] 3) = w5 := ⟨_, rfl⟩
  have hm5 : Mod (fun _ => False) w4 w5 := by rw [← hw5]; exact (Mod.refl _ w4).alloc _
  have HS5 : Hid (Src w5 (some ⟨w4.heap.size, 0, none⟩) 1 [.int .i64 (z.n : Int)]) := by rw [← hw5]; exact Src.one w4 (.int .i64 (z.n : Int)) 3 rfl
  have HM5 := Lib.hid (HM4.out.trans hm5 (fun _ _ h => h))
  have hz5 := hm5.size
  have HB5 := Lib.hid (HB4.out.keep hm5)
  have HR5 := Lib.hid (HR4.out.keep hm5)
  have HZ5 := Lib.hid (HZ4.out.keep hm5)
  clear hm5
  go_wp2_with (at_builtin; refine Hid.out ?_)
  refine Lib.hid ?_
  refine wpList_app (.tmp 19) (.tmp 23) intElem rfl rfl rfl rfl HZ5.out.S HS5.out (by have := Hlm.out; omega) (by have := Hlm.out; unfold maxLen; omega) (show w2.heap.size ≤ w5.heap.size by omega) ?_
  intro A' c' w6 hO hg _
  have hs6 : Mod (fun k => blkOf z.B = some k) w5 w6 := (Mod.refl _ w5).grown hg (fun k e _ => e)
  have hlo : ∀ k, blkOf z.B = some k → w2.heap.size ≤ k := fun k hk => (OwV.lt HZ.out.S k hk).1
  have HM6 : Hid (Mod (fun _ => False) w w6) := HM5.out.trans hs6 (fun k _ e => by have := hlo k e; omega)
  have HB6 := Lib.hid (HB5.out.mod hs6 (fun e => by have := hlo _ e; omega))
  have HR6 := Lib.hid (HR5.out.mod hs6 (fun e => by have := hlo _ e; omega))
  have HZ6 := Lib.hid (HZ5.out.appS hO hg)
  have hz6 := hs6.size
  clear hO hg hs6 hlo hw4 hw5 c0 c1 c2 c3 c4 c5 f0 f1 f2 f3 f4 f5 d0 d1 d2 d3 d4 d5
  obtain ⟨c0, c1, c2, c3, c4, c5⟩ := HB6.out.cells
  have f5 := HB6.out.fz 5
  obtain ⟨w7, hw7⟩ : ∃ w7, w6.setCell ⟨w.heap.size, 5, none⟩ (.slice A' (z.m + 1) c') = w7 := ⟨_, rfl⟩
  have hs7 : Mod (fun k => k = w.heap.size) w6 w7 := by rw [← hw7]; exact (Mod.refl (fun k => k = w.heap.size) w6).one (fun _ => rfl) _ _
  have HM7 : Hid (Mod (fun _ => False) w w7) := HM6.out.trans hs7 (fun k _ e => by omega)
  have hz7 := hs7.size
  have HB7 : Hid ((⟨z.id, z.st, z.f, z.l, z.A, z.n, z.c, z.L, A', z.m + 1, c', z.S ++ [(z.n : Int)]⟩ : TxD).In w7 (w.heap.size)) := by rw [← hw7]; exact heap_set HB6.out 5 (.slice A' (z.m + 1) c')
  have HR7 := Lib.hid (HR6.out.mod hs7 (fun e => by omega))
  have HZ7 := Lib.hid (HZ6.out.old hs7 (by omega))
  clear hs7
  obtain ⟨d0, d1, d2, d3, d4, d5⟩ : w7.cell? ⟨w.heap.size, 0, none⟩ = some (.int .i64 z.id) ∧ w7.cell? ⟨w.heap.size, 1, none⟩ = some (.int .i64 z.st) ∧ w7.cell? ⟨w.heap.size, 2, none⟩ = some (.int .i64 z.f) ∧ w7.cell? ⟨w.heap.size, 3, none⟩ = some (.int .i64 z.l) ∧ w7.cell? ⟨w.heap.size, 4, none⟩ = some (.slice z.A z.n z.c) ∧ w7.cell? ⟨w.heap.size, 5, none⟩ = some (.slice A' (z.m + 1) c') := HB7.out.cells
  obtain ⟨r0, r1, r2, r3, r4, r5⟩ : w7.cell? ⟨w.heap.size + 1, 0, none⟩ = some (.int .i64 0) ∧ w7.cell? ⟨w.heap.size + 1, 1, none⟩ = some (.int .i64 0) ∧ w7.cell? ⟨w.heap.size + 1, 2, none⟩ = some (.int .i64 0) ∧ w7.cell? ⟨w.heap.size + 1, 3, none⟩ = some (.int .i64 0) ∧ w7.cell? ⟨w.heap.size + 1, 4, none⟩ = some (.slice none 0 0) ∧ w7.cell? ⟨w.heap.size + 1, 5, none⟩ = some (.slice none 0 0) := HR7.out.cells
  have g0 := HR7.out.fz 0
  have g1 := HR7.out.fz 1
  have g2 := HR7.out.fz 2
  have g3 := HR7.out.fz 3
  have g4 := HR7.out.fz 4
  have g5 := HR7.out.fz 5
  obtain ⟨w8, hw8⟩ : ∃ w8, (((((w7.setCell ⟨w.heap.size + 1, 0, none⟩ (.int .i64 z.id)).setCell ⟨w.heap.size + 1, 1, none⟩ (.int .i64 z.st)).setCell ⟨w.heap.size + 1, 2, none⟩ (.int .i64 z.f)).setCell ⟨w.heap.size + 1, 3, none⟩ (.int .i64 z.l)).setCell ⟨w.heap.size + 1, 4, none⟩ (.slice z.A z.n z.c)).setCell ⟨w.heap.size + 1, 5, none⟩ (.slice A' (z.m + 1) c') = w8 := ⟨_, rfl⟩
  have hq8 : stT w7 (w.heap.size + 1) ⟨z.id, z.st, z.f, z.l, z.A, z.n, z.c, z.L, A', z.m + 1, c', z.S ++ [(z.n : Int)]⟩ = w8 := hw8
  have hs8 : Mod (fun k => k = w.heap.size + 1) w7 w8 := by rw [← hq8]; exact stT_mod w7 (w.heap.size + 1) ⟨z.id, z.st, z.f, z.l, z.A, z.n, z.c, z.L, A', z.m + 1, c', z.S ++ [(z.n : Int)]⟩
  have HM8 : Hid (Mod (fun _ => False) w w8) := HM7.out.trans hs8 (fun k _ e => by omega)
  have hz8 := hs8.size
  have HB8 := Lib.hid (HB7.out.mod hs8 (fun e => by omega))
  have HR8 : Hid ((⟨z.id, z.st, z.f, z.l, z.A, z.n, z.c, z.L, A', z.m + 1, c', z.S ++ [(z.n : Int)]⟩ : TxD).In w8 (w.heap.size + 1)) := by rw [← hq8]; exact HR7.out.set ⟨z.id, z.st, z.f, z.l, z.A, z.n, z.c, z.L, A', z.m + 1, c', z.S ++ [(z.n : Int)]⟩
  clear hq8
  have hsR := hs8
  clear hs8
  have HW := Lib.hid hw8
  clear hw8
  go_wp2
  rw [HW.out]
  clear hw7 f5 c0 c1 c2 c3 c4 c5 d0 d1 d2 d3 d4 d5 r0 r1 r2 r3 r4 r5 g0 g1 g2 g3 g4 g5
  obtain ⟨q0, q1, q2, q3, q4, q5⟩ : w8.cell? ⟨w.heap.size + 1, 0, none⟩ = some (.int .i64 z.id) ∧ w8.cell? ⟨w.heap.size + 1, 1, none⟩ = some (.int .i64 z.st) ∧ w8.cell? ⟨w.heap.size + 1, 2, none⟩ = some (.int .i64 z.f) ∧ w8.cell? ⟨w.heap.size + 1, 3, none⟩ = some (.int .i64 z.l) ∧ w8.cell? ⟨w.heap.size + 1, 4, none⟩ = some (.slice z.A z.n z.c) ∧ w8.cell? ⟨w.heap.size + 1, 5, none⟩ = some (.slice A' (z.m + 1) c') := HR8.out.cells
  refine bodyPost_ret (v := .tuple #[.agg #[.int .i64 z.id, .int .i64 z.st, .int .i64 z.f, .int .i64 z.l, .slice z.A z.n z.c, .slice A' (z.m + 1) c'], .int .i64 (x.m : Int), .int .i64 0]) (by simp [results, Try.results16, go_sem, q0, q1, q2, q3, q4, q5]) rfl ?_
  refine ⟨⟨z.id, z.st, z.f, z.l, z.A, z.n, z.c, z.L, A', z.m + 1, c', z.S ++ [(z.n : Int)]⟩, by rw [HE0.out]; rfl, ?_, ?_, HM8.out⟩
  · exact (HZ7.out.old hsR (by omega)).rebase (by omega)
  · rw [HE0.out, if_pos rfl, ← HZp.out]
    show (⟨z.id, z.st, z.f, z.l, pc z.L, z.S ++ [(z.n : Int)]⟩ : Tp) = ⟨z.id, z.st, z.f, z.l, pc z.L, z.S ++ [(z.p.L.length : Int)]⟩
    rw [HZ.out.at_.nL]
theorem save_ok (w : World) (x : TxD) (h : x.At w) (hn : x.n ≤ 1000) (hm : x.m ≤ 1000) :
    Calls Try.prog 16 #[.agg #[.int .i64 x.id, .int .i64 x.st, .int .i64 x.f, .int .i64 x.l, .slice x.A x.n x.c, .slice x.B x.m x.d]] w fun e w' => SvAns w w' (saveE x.p) (x.m : Int) (saveT x.p) e := by
  cases hb1 : mayT x.p with
  | false => exact save_no w x h hn hm hb1
  | true =>
    by_cases h4 : x.m = 4
    · exact save_full w x h hn hm hb1 h4
    · exact save_yes w x h hn hm hb1 h4
set_option maxRecDepth 100000 in
set_option maxHeartbeats 3200000 in
theorem above_ok (w : World) (x : TxD) (h : x.At w) (hn : x.n ≤ 1000) (hm : x.m ≤ 1000) (k : Int) :
    Calls Try.prog 18 #[.agg #[.int .i64 x.id, .int .i64 x.st, .int .i64 x.f, .int .i64 x.l, .slice x.A x.n x.c, .slice x.B x.m x.d], .int .i64 k] w fun e w' => AbAns w w' (aboveE x.p k) (aboveI x.p k) e := by
  obtain ⟨w1, hw1⟩ : ∃ w1, w.alloc (.cells #[.int .i64 x.id, .int .i64 x.st, .int .i64 x.f, .int .i64 x.l, .slice x.A x.n x.c, .slice x.B x.m x.d] 25) = w1 := ⟨_, rfl⟩
  have HB1 : Hid ((x : TxD).In w1 (w.heap.size)) := by
    rw [← hw1]
    have q := TxD.In.new (w) (x)
    exact q.keep (Mod.refl (fun _ => False) _)
  have HM1 : Hid (Mod (fun _ => False) w w1) := by rw [← hw1]; exact (Mod.refl (fun _ => False) w).alloc _
  have hz1 : w.heap.size + 1 ≤ w1.heap.size := by rw [← hw1]; simp
  obtain ⟨c0, c1, c2, c3, c4, c5⟩ := HB1.out.cells
  have HMay := Lib.hid (fun V (hV : Mod (fun _ => False) w V) => may_ok V x (h.keep hV) hn hm)
  have HX := Lib.hid h
  have HW := Lib.hid (fun V => within_ok V k 0 ((x.m : Int) - 1))
  have HE : Hid (aboveE x.p k = if mayT x.p then (if inB k 0 ((x.m : Int) - 1) then 0 else 3) else 1) := by unfold aboveE; rw [h.nS]; rfl
  have HI : Hid (aboveI x.p k = (x.n : Int) - atI x.S k.toNat) := by unfold aboveI; rw [h.nL]; rfl
  have ew : IntKind.i64.wrap ((x.m : Int) - 1) = (x.m : Int) - 1 := by rw [IntKind.wrap_i64]; omega
  have HN := Lib.hid hn
  have hlS : Hid (x.S.length = x.m) := h.nS
  have hb0 : Hid (mayT x.p = true → inB k 0 ((x.m : Int) - 1) = true → 0 ≤ atI x.S k.toNat ∧ atI x.S k.toNat ≤ (x.n : Int)) := fun h1 h2 => by
    have h3 := inB_iff.1 h2
    have h4 := sL_bd (mayT_iff.1 h1).2.2.2.2.2 (i := k.toNat) (by have := h.nS; omega)
    rw [h.nL] at h4
    exact h4
  have Hin : Hid (inB k 0 ((x.m : Int) - 1) = true → 0 ≤ k ∧ k ≤ (x.m : Int) - 1) := fun h2 => inB_iff.1 h2
  clear h hn hm
  generalize mayT x.p = b1 at *
  generalize inB k 0 ((x.m : Int) - 1) = b2 at *
  cases b1 with
  | false =>
    go_enter Try.func18, Try.ntmps18
    go_wp2_with fail
    refine (HMay.out _ HM1.out).mono ?_
    rintro e w2 ⟨rfl, hm2⟩
    have HM2 := Lib.hid (HM1.out.trans hm2 (fun _ _ h => h))
    have hz2 := hm2.size
    have HB2 := Lib.hid (HB1.out.keep hm2)
    clear hm2
    clear hw1 c0 c1 c2 c3 c4 c5
    obtain ⟨c0, c1, c2, c3, c4, c5⟩ := HB2.out.cells
    go_wp2
    go_ret2
    exact ⟨by rw [HE.out]; rfl, HM2.out⟩
  | true =>
  cases b2 with
  | false =>
    go_enter Try.func18, Try.ntmps18
    go_wp2_with fail
    refine (HMay.out _ HM1.out).mono ?_
    rintro e w2 ⟨rfl, hm2⟩
    have HM2 := Lib.hid (HM1.out.trans hm2 (fun _ _ h => h))
    have hz2 := hm2.size
    have HB2 := Lib.hid (HB1.out.keep hm2)
    clear hm2
    clear hw1 c0 c1 c2 c3 c4 c5
    obtain ⟨c0, c1, c2, c3, c4, c5⟩ := HB2.out.cells
    go_wp2_with fail
    refine (HW.out _).mono ?_
    rintro e w' ⟨rfl, hww⟩
    subst w'
    go_wp2
    go_ret2
    exact ⟨by rw [HE.out]; rfl, HM2.out⟩
  | true =>
  obtain ⟨h1, h2⟩ := Hin.out rfl
  obtain ⟨j, rfl⟩ : ∃ j : Nat, k = (j : Int) := ⟨k.toNat, by omega⟩
  have hj : j < x.m := by omega
  have hb := hb0.out rfl rfl
  rw [Int.toNat_natCast] at hb
  have HI2 : Hid (aboveI x.p (j : Int) = (x.n : Int) - atI x.S j) := by have := HI.out; rwa [Int.toNat_natCast] at this
  have ev : IntKind.i64.wrap ((x.n : Int) - atI x.S j) = (x.n : Int) - atI x.S j := by have := HN.out; rw [IntKind.wrap_i64]; omega
  clear h1 h2 hb0 Hin HI hb
  go_enter Try.func18, Try.ntmps18
  go_wp2_with fail
  refine (HMay.out _ HM1.out).mono ?_
  rintro e w2 ⟨rfl, hm2⟩
  have HM2 := Lib.hid (HM1.out.trans hm2 (fun _ _ h => h))
  have hz2 := hm2.size
  have HB2 := Lib.hid (HB1.out.keep hm2)
  clear hm2
  clear hw1 c0 c1 c2 c3 c4 c5
  obtain ⟨c0, c1, c2, c3, c4, c5⟩ := HB2.out.cells
  go_wp2_with fail
  refine (HW.out _).mono ?_
  rintro e w' ⟨rfl, hww⟩
  subst w'
  obtain ⟨b, o, hB, hc⟩ := (HX.out.keep HM2.out).S.2.2 (by omega)
  have hs : w2.cell? ⟨b, o + j, none⟩ = some (.int .i64 (atI x.S j)) := hc j _ (atI_at (by have := hlS.out; omega))
  clear hc
  rw [hB] at c5
  go_wp2_with fail
  go_quiet (fail)
  go_wp2
  go_ret2
  exact ⟨by rw [HE.out, HI2.out]; rfl, HM2.out.drewN _⟩
end Go.Proofs.Ytidcmolkolcliaa
