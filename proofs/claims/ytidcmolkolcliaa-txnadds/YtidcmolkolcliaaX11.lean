/-
  The reference: Note.
-/
import Derived.Test.YtidcmolkolcliaaXRa
import Derived.BigQuiet
namespace Go.Proofs.Ytidcmolkolcliaa
open Go Go.RowKit

set_option maxRecDepth 100000 in
set_option maxHeartbeats 3200000 in
theorem rnote_no1 (b0 : Nat) (w : World) (x : TxD) (y : ChD) (h : Kp b0 w x) (hy : y.At w) (hn : x.n ≤ 1000) (hb1 : mayT x.p = false) :
    Calls Try.prog 13 #[.agg #[.int .i64 x.id, .int .i64 x.st, .int .i64 x.f, .int .i64 x.l, .slice x.A x.n x.c, .slice x.B x.m x.d], .agg #[.int .i64 y.lsn, .int .i64 y.page, .int .i64 y.key, .bool y.o.is, .slice y.o.B y.o.m y.o.d, .bool y.v.is, .slice y.v.B y.v.m y.v.d]] w fun e w' => RnAns b0 w w' (noteE x.p y.p) (noteT x.p y.p) e := by
  obtain ⟨w1, hw1⟩ : ∃ w1, ((w.alloc (.cells #[.int .i64 x.id, .int .i64 x.st, .int .i64 x.f, .int .i64 x.l, .slice x.A x.n x.c, .slice x.B x.m x.d] 25)).alloc (.cells #[.int .i64 y.lsn, .int .i64 y.page, .int .i64 y.key, .bool y.o.is, .slice y.o.B y.o.m y.o.d, .bool y.v.is, .slice y.v.B y.v.m y.v.d] 30)).alloc (.cells #[.int .i64 0, .int .i64 0, .int .i64 0, .int .i64 0, .slice none 0 0, .slice none 0 0] 25) = w1 := ⟨_, rfl⟩
  have HB1 : Hid ((x : TxD).In w1 (w.heap.size)) := by
    rw [← hw1]
    have q := TxD.In.new (w) (x)
    exact q.keep (((Mod.refl (fun _ => False) _).alloc _).alloc _)
  have HY1 : Hid ((y : ChD).In w1 (w.heap.size + 1)) := by
    rw [← hw1]
    have q := ChD.In.new (w.alloc (.cells #[.int .i64 x.id, .int .i64 x.st, .int .i64 x.f, .int .i64 x.l, .slice x.A x.n x.c, .slice x.B x.m x.d] 25)) (y)
    simp only [World.size_alloc] at q
    exact q.keep ((Mod.refl (fun _ => False) _).alloc _)
  have HR1 : Hid ((TxD.zero : TxD).In w1 (w.heap.size + 2)) := by
    rw [← hw1]
    have q := TxD.In.new ((w.alloc (.cells #[.int .i64 x.id, .int .i64 x.st, .int .i64 x.f, .int .i64 x.l, .slice x.A x.n x.c, .slice x.B x.m x.d] 25)).alloc (.cells #[.int .i64 y.lsn, .int .i64 y.page, .int .i64 y.key, .bool y.o.is, .slice y.o.B y.o.m y.o.d, .bool y.v.is, .slice y.v.B y.v.m y.v.d] 30)) (TxD.zero)
    simp only [World.size_alloc] at q
    exact q.keep (Mod.refl (fun _ => False) _)
  have HM1 : Hid (Mod (fun _ => False) w w1) := by rw [← hw1]; exact (((Mod.refl (fun _ => False) w).alloc _).alloc _).alloc _
  have hz1 : w.heap.size + 3 ≤ w1.heap.size := by rw [← hw1]; simp
  obtain ⟨c0, c1, c2, c3, c4, c5⟩ := HB1.out.cells
  obtain ⟨y0, y1, y2, y3, y4, y5, y6⟩ := HY1.out.cells
  have HMay := Lib.hid (fun V (hV : Mod (fun _ => False) w V) => rmay_ok V x (h.at_.keep hV))
  have HCh := Lib.hid (fun V (hV : Mod (fun _ => False) w V) => rchange_ok V y (hy.keep hV))
  have HX := Lib.hid h
  have HY := Lib.hid hy
  have HN := Lib.hid hn
  have HE : Hid (noteE x.p y.p = if mayT x.p && (cB y.p && (decide (x.n = 0) || decide ((atC (pc x.L) (x.n - 1)).lsn < y.lsn))) then (if x.n = 6 then 4 else 0) else 1) := by
    have e : folB x.p.L y.p = (cB y.p && (decide (x.n = 0) || decide ((atC (pc x.L) (x.n - 1)).lsn < y.lsn))) := by unfold folB; rw [h.at_.nL]; rfl
    unfold noteE
    rw [e, h.at_.nL]
    rfl
  clear h hy hn
  clear HN HY HX
  rw [hb1] at HMay HE
  clear hb1
  go_enter Try.func13, Try.ntmps13
  go_wp2_with fail
  refine (HMay.out _ HM1.out).mono ?_
  rintro e w2 ⟨rfl, hm2⟩
  have HM2 := Lib.hid (HM1.out.trans hm2 (fun _ _ h => h))
  have hz2 := hm2.size
  have HB2 := Lib.hid (HB1.out.keep hm2)
  have HY2 := Lib.hid (HY1.out.keep hm2)
  have HR2 := Lib.hid (HR1.out.keep hm2)
  clear hm2 hw1 c0 c1 c2 c3 c4 c5 y0 y1 y2 y3 y4 y5 y6
  obtain ⟨c0, c1, c2, c3, c4, c5⟩ := HB2.out.cells
  obtain ⟨y0, y1, y2, y3, y4, y5, y6⟩ := HY2.out.cells
  go_wp2_with fail
  refine (HCh.out _ HM2.out).mono ?_
  rintro e w3 ⟨rfl, hm3⟩
  have HM3 := Lib.hid (HM2.out.trans hm3 (fun _ _ h => h))
  have hz3 := hm3.size
  have HB3 := Lib.hid (HB2.out.keep hm3)
  have HY3 := Lib.hid (HY2.out.keep hm3)
  have HR3 := Lib.hid (HR2.out.keep hm3)
  clear hm3 c0 c1 c2 c3 c4 c5 y0 y1 y2 y3 y4 y5 y6
  obtain ⟨c0, c1, c2, c3, c4, c5⟩ := HB3.out.cells
  obtain ⟨y0, y1, y2, y3, y4, y5, y6⟩ := HY3.out.cells
  go_wp2_with fail
  go_quiet (fail)
  have hm4 : Mod (fun _ => False) w3 (w3.drewN nq) := (Mod.refl _ w3).drewN nq
  generalize w3.drewN nq = w4 at *
  have HM4 := Lib.hid (HM3.out.trans hm4 (fun _ _ h => h))
  have hz4 := hm4.size
  have HB4 := Lib.hid (HB3.out.keep hm4)
  have HY4 := Lib.hid (HY3.out.keep hm4)
  have HR4 := Lib.hid (HR3.out.keep hm4)
  clear hm4 c0 c1 c2 c3 c4 c5 y0 y1 y2 y3 y4 y5 y6
  obtain ⟨c0, c1, c2, c3, c4, c5⟩ := HB4.out.cells
  obtain ⟨y0, y1, y2, y3, y4, y5, y6⟩ := HY4.out.cells
  obtain ⟨r0, r1, r2, r3, r4, r5⟩ : w4.cell? ⟨w.heap.size + 2, 0, none⟩ = some (.int .i64 0) ∧ w4.cell? ⟨w.heap.size + 2, 1, none⟩ = some (.int .i64 0) ∧ w4.cell? ⟨w.heap.size + 2, 2, none⟩ = some (.int .i64 0) ∧ w4.cell? ⟨w.heap.size + 2, 3, none⟩ = some (.int .i64 0) ∧ w4.cell? ⟨w.heap.size + 2, 4, none⟩ = some (.slice none 0 0) ∧ w4.cell? ⟨w.heap.size + 2, 5, none⟩ = some (.slice none 0 0) := HR4.out.cells
  have g0 := HR4.out.fz 0
  have g1 := HR4.out.fz 1
  have g2 := HR4.out.fz 2
  have g3 := HR4.out.fz 3
  have g4 := HR4.out.fz 4
  have g5 := HR4.out.fz 5
  obtain ⟨w5, hw5⟩ : ∃ w5, (((((w4.setCell ⟨w.heap.size + 2, 0, none⟩ (.int .i64 0)).setCell ⟨w.heap.size + 2, 1, none⟩ (.int .i64 0)).setCell ⟨w.heap.size + 2, 2, none⟩ (.int .i64 0)).setCell ⟨w.heap.size + 2, 3, none⟩ (.int .i64 0)).setCell ⟨w.heap.size + 2, 4, none⟩ (.slice none 0 0)).setCell ⟨w.heap.size + 2, 5, none⟩ (.slice none 0 0) = w5 := ⟨_, rfl⟩
  have hq5 : stT w4 (w.heap.size + 2) TxD.zero = w5 := hw5
  have hs5 : Mod (fun k => k = w.heap.size + 2) w4 w5 := by rw [← hq5]; exact stT_mod w4 (w.heap.size + 2) TxD.zero
  have HM5 : Hid (Mod (fun _ => False) w w5) := HM4.out.trans hs5 (fun k _ e => by omega)
  have hz5 := hs5.size
  have HB5 := Lib.hid (HB4.out.mod hs5 (fun e => by omega))
  have HY5 := Lib.hid (HY4.out.mod hs5 (fun e => by omega))
  have HR5 : Hid ((TxD.zero : TxD).In w5 (w.heap.size + 2)) := by rw [← hq5]; exact HR4.out.set TxD.zero
  clear hq5
  have hsR := hs5
  clear hs5
  have HW := Lib.hid hw5
  clear hw5
  go_wp2
  rw [HW.out]
  clear c0 c1 c2 c3 c4 c5 y0 y1 y2 y3 y4 y5 y6 r0 r1 r2 r3 r4 r5 g0 g1 g2 g3 g4 g5
  obtain ⟨q0, q1, q2, q3, q4, q5⟩ : w5.cell? ⟨w.heap.size + 2, 0, none⟩ = some (.int .i64 0) ∧ w5.cell? ⟨w.heap.size + 2, 1, none⟩ = some (.int .i64 0) ∧ w5.cell? ⟨w.heap.size + 2, 2, none⟩ = some (.int .i64 0) ∧ w5.cell? ⟨w.heap.size + 2, 3, none⟩ = some (.int .i64 0) ∧ w5.cell? ⟨w.heap.size + 2, 4, none⟩ = some (.slice none 0 0) ∧ w5.cell? ⟨w.heap.size + 2, 5, none⟩ = some (.slice none 0 0) := HR5.out.cells
  refine bodyPost_ret (v := .tuple #[.agg #[.int .i64 0, .int .i64 0, .int .i64 0, .int .i64 0, .slice none 0 0, .slice none 0 0], .int .i64 1]) (by simp [results, Try.results13, go_sem, q0, q1, q2, q3, q4, q5]) rfl ?_
  clear hsR
  exact ⟨TxD.zero, by rw [HE.out]; rfl, TxD.zero_kp _ _, by rw [HE.out]; rfl, HM5.out⟩
set_option maxRecDepth 100000 in
set_option maxHeartbeats 3200000 in
theorem rnote_no2 (b0 : Nat) (w : World) (x : TxD) (y : ChD) (h : Kp b0 w x) (hy : y.At w) (hn : x.n ≤ 1000) (hb1 : mayT x.p = true) (hb2 : cB y.p = false) :
    Calls Try.prog 13 #[.agg #[.int .i64 x.id, .int .i64 x.st, .int .i64 x.f, .int .i64 x.l, .slice x.A x.n x.c, .slice x.B x.m x.d], .agg #[.int .i64 y.lsn, .int .i64 y.page, .int .i64 y.key, .bool y.o.is, .slice y.o.B y.o.m y.o.d, .bool y.v.is, .slice y.v.B y.v.m y.v.d]] w fun e w' => RnAns b0 w w' (noteE x.p y.p) (noteT x.p y.p) e := by
  obtain ⟨w1, hw1⟩ : ∃ w1, ((w.alloc (.cells #[.int .i64 x.id, .int .i64 x.st, .int .i64 x.f, .int .i64 x.l, .slice x.A x.n x.c, .slice x.B x.m x.d] 25)).alloc (.cells #[.int .i64 y.lsn, .int .i64 y.page, .int .i64 y.key, .bool y.o.is, .slice y.o.B y.o.m y.o.d, .bool y.v.is, .slice y.v.B y.v.m y.v.d] 30)).alloc (.cells #[.int .i64 0, .int .i64 0, .int .i64 0, .int .i64 0, .slice none 0 0, .slice none 0 0] 25) = w1 := ⟨_, rfl⟩
  have HB1 : Hid ((x : TxD).In w1 (w.heap.size)) := by
    rw [← hw1]
    have q := TxD.In.new (w) (x)
    exact q.keep (((Mod.refl (fun _ => False) _).alloc _).alloc _)
  have HY1 : Hid ((y : ChD).In w1 (w.heap.size + 1)) := by
    rw [← hw1]
    have q := ChD.In.new (w.alloc (.cells #[.int .i64 x.id, .int .i64 x.st, .int .i64 x.f, .int .i64 x.l, .slice x.A x.n x.c, .slice x.B x.m x.d] 25)) (y)
    simp only [World.size_alloc] at q
    exact q.keep ((Mod.refl (fun _ => False) _).alloc _)
  have HR1 : Hid ((TxD.zero : TxD).In w1 (w.heap.size + 2)) := by
    rw [← hw1]
    have q := TxD.In.new ((w.alloc (.cells #[.int .i64 x.id, .int .i64 x.st, .int .i64 x.f, .int .i64 x.l, .slice x.A x.n x.c, .slice x.B x.m x.d] 25)).alloc (.cells #[.int .i64 y.lsn, .int .i64 y.page, .int .i64 y.key, .bool y.o.is, .slice y.o.B y.o.m y.o.d, .bool y.v.is, .slice y.v.B y.v.m y.v.d] 30)) (TxD.zero)
    simp only [World.size_alloc] at q
    exact q.keep (Mod.refl (fun _ => False) _)
  have HM1 : Hid (Mod (fun _ => False) w w1) := by rw [← hw1]; exact (((Mod.refl (fun _ => False) w).alloc _).alloc _).alloc _
  have hz1 : w.heap.size + 3 ≤ w1.heap.size := by rw [← hw1]; simp
  obtain ⟨c0, c1, c2, c3, c4, c5⟩ := HB1.out.cells
  obtain ⟨y0, y1, y2, y3, y4, y5, y6⟩ := HY1.out.cells
  have HMay := Lib.hid (fun V (hV : Mod (fun _ => False) w V) => rmay_ok V x (h.at_.keep hV))
  have HCh := Lib.hid (fun V (hV : Mod (fun _ => False) w V) => rchange_ok V y (hy.keep hV))
  have HX := Lib.hid h
  have HY := Lib.hid hy
  have HN := Lib.hid hn
  have HE : Hid (noteE x.p y.p = if mayT x.p && (cB y.p && (decide (x.n = 0) || decide ((atC (pc x.L) (x.n - 1)).lsn < y.lsn))) then (if x.n = 6 then 4 else 0) else 1) := by
    have e : folB x.p.L y.p = (cB y.p && (decide (x.n = 0) || decide ((atC (pc x.L) (x.n - 1)).lsn < y.lsn))) := by unfold folB; rw [h.at_.nL]; rfl
    unfold noteE
    rw [e, h.at_.nL]
    rfl
  clear h hy hn
  clear HN HY HX
  rw [hb1] at HMay HE
  rw [hb2] at HCh HE
  clear hb1 hb2
  go_enter Try.func13, Try.ntmps13
  go_wp2_with fail
  refine (HMay.out _ HM1.out).mono ?_
  rintro e w2 ⟨rfl, hm2⟩
  have HM2 := Lib.hid (HM1.out.trans hm2 (fun _ _ h => h))
  have hz2 := hm2.size
  have HB2 := Lib.hid (HB1.out.keep hm2)
  have HY2 := Lib.hid (HY1.out.keep hm2)
  have HR2 := Lib.hid (HR1.out.keep hm2)
  clear hm2 hw1 c0 c1 c2 c3 c4 c5 y0 y1 y2 y3 y4 y5 y6
  obtain ⟨c0, c1, c2, c3, c4, c5⟩ := HB2.out.cells
  obtain ⟨y0, y1, y2, y3, y4, y5, y6⟩ := HY2.out.cells
  go_wp2_with fail
  refine (HCh.out _ HM2.out).mono ?_
  rintro e w3 ⟨rfl, hm3⟩
  have HM3 := Lib.hid (HM2.out.trans hm3 (fun _ _ h => h))
  have hz3 := hm3.size
  have HB3 := Lib.hid (HB2.out.keep hm3)
  have HY3 := Lib.hid (HY2.out.keep hm3)
  have HR3 := Lib.hid (HR2.out.keep hm3)
  clear hm3 c0 c1 c2 c3 c4 c5 y0 y1 y2 y3 y4 y5 y6
  obtain ⟨c0, c1, c2, c3, c4, c5⟩ := HB3.out.cells
  obtain ⟨y0, y1, y2, y3, y4, y5, y6⟩ := HY3.out.cells
  go_wp2_with fail
  go_quiet (fail)
  have hm4 : Mod (fun _ => False) w3 (w3.drewN nq) := (Mod.refl _ w3).drewN nq
  generalize w3.drewN nq = w4 at *
  have HM4 := Lib.hid (HM3.out.trans hm4 (fun _ _ h => h))
  have hz4 := hm4.size
  have HB4 := Lib.hid (HB3.out.keep hm4)
  have HY4 := Lib.hid (HY3.out.keep hm4)
  have HR4 := Lib.hid (HR3.out.keep hm4)
  clear hm4 c0 c1 c2 c3 c4 c5 y0 y1 y2 y3 y4 y5 y6
  obtain ⟨c0, c1, c2, c3, c4, c5⟩ := HB4.out.cells
  obtain ⟨y0, y1, y2, y3, y4, y5, y6⟩ := HY4.out.cells
  obtain ⟨r0, r1, r2, r3, r4, r5⟩ : w4.cell? ⟨w.heap.size + 2, 0, none⟩ = some (.int .i64 0) ∧ w4.cell? ⟨w.heap.size + 2, 1, none⟩ = some (.int .i64 0) ∧ w4.cell? ⟨w.heap.size + 2, 2, none⟩ = some (.int .i64 0) ∧ w4.cell? ⟨w.heap.size + 2, 3, none⟩ = some (.int .i64 0) ∧ w4.cell? ⟨w.heap.size + 2, 4, none⟩ = some (.slice none 0 0) ∧ w4.cell? ⟨w.heap.size + 2, 5, none⟩ = some (.slice none 0 0) := HR4.out.cells
  have g0 := HR4.out.fz 0
  have g1 := HR4.out.fz 1
  have g2 := HR4.out.fz 2
  have g3 := HR4.out.fz 3
  have g4 := HR4.out.fz 4
  have g5 := HR4.out.fz 5
  obtain ⟨w5, hw5⟩ : ∃ w5, (((((w4.setCell ⟨w.heap.size + 2, 0, none⟩ (.int .i64 0)).setCell ⟨w.heap.size + 2, 1, none⟩ (.int .i64 0)).setCell ⟨w.heap.size + 2, 2, none⟩ (.int .i64 0)).setCell ⟨w.heap.size + 2, 3, none⟩ (.int .i64 0)).setCell ⟨w.heap.size + 2, 4, none⟩ (.slice none 0 0)).setCell ⟨w.heap.size + 2, 5, none⟩ (.slice none 0 0) = w5 := ⟨_, rfl⟩
  have hq5 : stT w4 (w.heap.size + 2) TxD.zero = w5 := hw5
  have hs5 : Mod (fun k => k = w.heap.size + 2) w4 w5 := by rw [← hq5]; exact stT_mod w4 (w.heap.size + 2) TxD.zero
  have HM5 : Hid (Mod (fun _ => False) w w5) := HM4.out.trans hs5 (fun k _ e => by omega)
  have hz5 := hs5.size
  have HB5 := Lib.hid (HB4.out.mod hs5 (fun e => by omega))
  have HY5 := Lib.hid (HY4.out.mod hs5 (fun e => by omega))
  have HR5 : Hid ((TxD.zero : TxD).In w5 (w.heap.size + 2)) := by rw [← hq5]; exact HR4.out.set TxD.zero
  clear hq5
  have hsR := hs5
  clear hs5
  have HW := Lib.hid hw5
  clear hw5
  go_wp2
  rw [HW.out]
  clear c0 c1 c2 c3 c4 c5 y0 y1 y2 y3 y4 y5 y6 r0 r1 r2 r3 r4 r5 g0 g1 g2 g3 g4 g5
  obtain ⟨q0, q1, q2, q3, q4, q5⟩ : w5.cell? ⟨w.heap.size + 2, 0, none⟩ = some (.int .i64 0) ∧ w5.cell? ⟨w.heap.size + 2, 1, none⟩ = some (.int .i64 0) ∧ w5.cell? ⟨w.heap.size + 2, 2, none⟩ = some (.int .i64 0) ∧ w5.cell? ⟨w.heap.size + 2, 3, none⟩ = some (.int .i64 0) ∧ w5.cell? ⟨w.heap.size + 2, 4, none⟩ = some (.slice none 0 0) ∧ w5.cell? ⟨w.heap.size + 2, 5, none⟩ = some (.slice none 0 0) := HR5.out.cells
  refine bodyPost_ret (v := .tuple #[.agg #[.int .i64 0, .int .i64 0, .int .i64 0, .int .i64 0, .slice none 0 0, .slice none 0 0], .int .i64 1]) (by simp [results, Try.results13, go_sem, q0, q1, q2, q3, q4, q5]) rfl ?_
  clear hsR
  exact ⟨TxD.zero, by rw [HE.out]; rfl, TxD.zero_kp _ _, by rw [HE.out]; rfl, HM5.out⟩
set_option maxRecDepth 100000 in
set_option maxHeartbeats 3200000 in
theorem rnote_no3 (b0 : Nat) (w : World) (x : TxD) (y : ChD) (h : Kp b0 w x) (hy : y.At w) (hn : x.n ≤ 1000) (hb1 : mayT x.p = true) (hb2 : cB y.p = true) (h0 : ¬ x.n = 0) (hl : ¬ (atC (pc x.L) (x.n - 1)).lsn < y.lsn) :
    Calls Try.prog 13 #[.agg #[.int .i64 x.id, .int .i64 x.st, .int .i64 x.f, .int .i64 x.l, .slice x.A x.n x.c, .slice x.B x.m x.d], .agg #[.int .i64 y.lsn, .int .i64 y.page, .int .i64 y.key, .bool y.o.is, .slice y.o.B y.o.m y.o.d, .bool y.v.is, .slice y.v.B y.v.m y.v.d]] w fun e w' => RnAns b0 w w' (noteE x.p y.p) (noteT x.p y.p) e := by
  obtain ⟨w1, hw1⟩ : ∃ w1, ((w.alloc (.cells #[.int .i64 x.id, .int .i64 x.st, .int .i64 x.f, .int .i64 x.l, .slice x.A x.n x.c, .slice x.B x.m x.d] 25)).alloc (.cells #[.int .i64 y.lsn, .int .i64 y.page, .int .i64 y.key, .bool y.o.is, .slice y.o.B y.o.m y.o.d, .bool y.v.is, .slice y.v.B y.v.m y.v.d] 30)).alloc (.cells #[.int .i64 0, .int .i64 0, .int .i64 0, .int .i64 0, .slice none 0 0, .slice none 0 0] 25) = w1 := ⟨_, rfl⟩
  have HB1 : Hid ((x : TxD).In w1 (w.heap.size)) := by
    rw [← hw1]
    have q := TxD.In.new (w) (x)
    exact q.keep (((Mod.refl (fun _ => False) _).alloc _).alloc _)
  have HY1 : Hid ((y : ChD).In w1 (w.heap.size + 1)) := by
    rw [← hw1]
    have q := ChD.In.new (w.alloc (.cells #[.int .i64 x.id, .int .i64 x.st, .int .i64 x.f, .int .i64 x.l, .slice x.A x.n x.c, .slice x.B x.m x.d] 25)) (y)
    simp only [World.size_alloc] at q
    exact q.keep ((Mod.refl (fun _ => False) _).alloc _)
  have HR1 : Hid ((TxD.zero : TxD).In w1 (w.heap.size + 2)) := by
    rw [← hw1]
    have q := TxD.In.new ((w.alloc (.cells #[.int .i64 x.id, .int .i64 x.st, .int .i64 x.f, .int .i64 x.l, .slice x.A x.n x.c, .slice x.B x.m x.d] 25)).alloc (.cells #[.int .i64 y.lsn, .int .i64 y.page, .int .i64 y.key, .bool y.o.is, .slice y.o.B y.o.m y.o.d, .bool y.v.is, .slice y.v.B y.v.m y.v.d] 30)) (TxD.zero)
    simp only [World.size_alloc] at q
    exact q.keep (Mod.refl (fun _ => False) _)
  have HM1 : Hid (Mod (fun _ => False) w w1) := by rw [← hw1]; exact (((Mod.refl (fun _ => False) w).alloc _).alloc _).alloc _
  have hz1 : w.heap.size + 3 ≤ w1.heap.size := by rw [← hw1]; simp
  obtain ⟨c0, c1, c2, c3, c4, c5⟩ := HB1.out.cells
  obtain ⟨y0, y1, y2, y3, y4, y5, y6⟩ := HY1.out.cells
  have HMay := Lib.hid (fun V (hV : Mod (fun _ => False) w V) => rmay_ok V x (h.at_.keep hV))
  have HCh := Lib.hid (fun V (hV : Mod (fun _ => False) w V) => rchange_ok V y (hy.keep hV))
  have HX := Lib.hid h
  have HY := Lib.hid hy
  have HN := Lib.hid hn
  have HE : Hid (noteE x.p y.p = if mayT x.p && (cB y.p && (decide (x.n = 0) || decide ((atC (pc x.L) (x.n - 1)).lsn < y.lsn))) then (if x.n = 6 then 4 else 0) else 1) := by
    have e : folB x.p.L y.p = (cB y.p && (decide (x.n = 0) || decide ((atC (pc x.L) (x.n - 1)).lsn < y.lsn))) := by unfold folB; rw [h.at_.nL]; rfl
    unfold noteE
    rw [e, h.at_.nL]
    rfl
  clear h hy hn
  rw [hb1] at HMay HE
  rw [hb2] at HCh HE
  clear hb1 hb2
  rw [decide_eq_false h0, decide_eq_false hl] at HE
  have hd0 : decide (0 < x.n) = true := decide_eq_true (by omega)
  have hd1 : decide ((0 : Int) < (x.n : Int)) = true := decide_eq_true (by omega)
  have e1 : IntKind.i64.wrap ((x.n - 1 : Nat) : Int) = ((x.n - 1 : Nat) : Int) := by have := HN.out; rw [IntKind.wrap_i64]; omega
  have e2 : (x.n : Int) - 1 = ((x.n - 1 : Nat) : Int) := by omega
  have l1 : x.n - 1 < x.n := by omega
  obtain ⟨z, hz⟩ : ∃ z, x.L[x.n - 1]? = some z := ⟨_, List.getElem?_eq_getElem (by rw [HX.out.at_.L.len]; omega)⟩
  have hzl : (atC (pc x.L) (x.n - 1)).lsn = z.lsn := by rw [atC_of (pc_at hz)]; rfl
  rw [hzl] at hl
  have hld : decide (y.lsn ≤ z.lsn) = true := decide_eq_true (by omega)
  go_enter Try.func13, Try.ntmps13
  go_wp2_with fail
  refine (HMay.out _ HM1.out).mono ?_
  rintro e w2 ⟨rfl, hm2⟩
  have HM2 := Lib.hid (HM1.out.trans hm2 (fun _ _ h => h))
  have hz2 := hm2.size
  have HB2 := Lib.hid (HB1.out.keep hm2)
  have HY2 := Lib.hid (HY1.out.keep hm2)
  have HR2 := Lib.hid (HR1.out.keep hm2)
  clear hm2 hw1 c0 c1 c2 c3 c4 c5 y0 y1 y2 y3 y4 y5 y6
  obtain ⟨c0, c1, c2, c3, c4, c5⟩ := HB2.out.cells
  obtain ⟨y0, y1, y2, y3, y4, y5, y6⟩ := HY2.out.cells
  go_wp2_with fail
  refine (HCh.out _ HM2.out).mono ?_
  rintro e w3 ⟨rfl, hm3⟩
  have HM3 := Lib.hid (HM2.out.trans hm3 (fun _ _ h => h))
  have hz3 := hm3.size
  have HB3 := Lib.hid (HB2.out.keep hm3)
  have HY3 := Lib.hid (HY2.out.keep hm3)
  have HR3 := Lib.hid (HR2.out.keep hm3)
  clear hm3 c0 c1 c2 c3 c4 c5 y0 y1 y2 y3 y4 y5 y6
  obtain ⟨c0, c1, c2, c3, c4, c5⟩ := HB3.out.cells
  obtain ⟨y0, y1, y2, y3, y4, y5, y6⟩ := HY3.out.cells
  obtain ⟨b, o, hA, hcs⟩ := (HX.out.at_.keep HM3.out).L.cells (by omega)
  have s0 := (hcs _ z hz).c0
  rw [hA] at c4
  have HA := Lib.hid hA
  clear hcs hA
  clear hz hl hzl h0
  go_wp2_with fail
  go_quiet (fail)
  have hm4 : Mod (fun _ => False) w3 (w3.drewN nq) := (Mod.refl _ w3).drewN nq
  generalize w3.drewN nq = w4 at *
  have HM4 := Lib.hid (HM3.out.trans hm4 (fun _ _ h => h))
  have hz4 := hm4.size
  have HB4 := Lib.hid (HB3.out.keep hm4)
  have HY4 := Lib.hid (HY3.out.keep hm4)
  have HR4 := Lib.hid (HR3.out.keep hm4)
  clear s0
  clear hm4 c0 c1 c2 c3 c4 c5 y0 y1 y2 y3 y4 y5 y6
  obtain ⟨c0, c1, c2, c3, c4, c5⟩ := HB4.out.cells
  obtain ⟨y0, y1, y2, y3, y4, y5, y6⟩ := HY4.out.cells
  obtain ⟨r0, r1, r2, r3, r4, r5⟩ : w4.cell? ⟨w.heap.size + 2, 0, none⟩ = some (.int .i64 0) ∧ w4.cell? ⟨w.heap.size + 2, 1, none⟩ = some (.int .i64 0) ∧ w4.cell? ⟨w.heap.size + 2, 2, none⟩ = some (.int .i64 0) ∧ w4.cell? ⟨w.heap.size + 2, 3, none⟩ = some (.int .i64 0) ∧ w4.cell? ⟨w.heap.size + 2, 4, none⟩ = some (.slice none 0 0) ∧ w4.cell? ⟨w.heap.size + 2, 5, none⟩ = some (.slice none 0 0) := HR4.out.cells
  have g0 := HR4.out.fz 0
  have g1 := HR4.out.fz 1
  have g2 := HR4.out.fz 2
  have g3 := HR4.out.fz 3
  have g4 := HR4.out.fz 4
  have g5 := HR4.out.fz 5
  obtain ⟨w5, hw5⟩ : ∃ w5, (((((w4.setCell ⟨w.heap.size + 2, 0, none⟩ (.int .i64 0)).setCell ⟨w.heap.size + 2, 1, none⟩ (.int .i64 0)).setCell ⟨w.heap.size + 2, 2, none⟩ (.int .i64 0)).setCell ⟨w.heap.size + 2, 3, none⟩ (.int .i64 0)).setCell ⟨w.heap.size + 2, 4, none⟩ (.slice none 0 0)).setCell ⟨w.heap.size + 2, 5, none⟩ (.slice none 0 0) = w5 := ⟨_, rfl⟩
  have hq5 : stT w4 (w.heap.size + 2) TxD.zero = w5 := hw5
  have hs5 : Mod (fun k => k = w.heap.size + 2) w4 w5 := by rw [← hq5]; exact stT_mod w4 (w.heap.size + 2) TxD.zero
  have HM5 : Hid (Mod (fun _ => False) w w5) := HM4.out.trans hs5 (fun k _ e => by omega)
  have hz5 := hs5.size
  have HB5 := Lib.hid (HB4.out.mod hs5 (fun e => by omega))
  have HY5 := Lib.hid (HY4.out.mod hs5 (fun e => by omega))
  have HR5 : Hid ((TxD.zero : TxD).In w5 (w.heap.size + 2)) := by rw [← hq5]; exact HR4.out.set TxD.zero
  clear hq5
  have hsR := hs5
  clear hs5
  have HW := Lib.hid hw5
  clear hw5
  go_wp2
  rw [HW.out]
  clear c0 c1 c2 c3 c4 c5 y0 y1 y2 y3 y4 y5 y6 r0 r1 r2 r3 r4 r5 g0 g1 g2 g3 g4 g5
  obtain ⟨q0, q1, q2, q3, q4, q5⟩ : w5.cell? ⟨w.heap.size + 2, 0, none⟩ = some (.int .i64 0) ∧ w5.cell? ⟨w.heap.size + 2, 1, none⟩ = some (.int .i64 0) ∧ w5.cell? ⟨w.heap.size + 2, 2, none⟩ = some (.int .i64 0) ∧ w5.cell? ⟨w.heap.size + 2, 3, none⟩ = some (.int .i64 0) ∧ w5.cell? ⟨w.heap.size + 2, 4, none⟩ = some (.slice none 0 0) ∧ w5.cell? ⟨w.heap.size + 2, 5, none⟩ = some (.slice none 0 0) := HR5.out.cells
  refine bodyPost_ret (v := .tuple #[.agg #[.int .i64 0, .int .i64 0, .int .i64 0, .int .i64 0, .slice none 0 0, .slice none 0 0], .int .i64 1]) (by simp [results, Try.results13, go_sem, q0, q1, q2, q3, q4, q5]) rfl ?_
  clear hsR
  exact ⟨TxD.zero, by rw [HE.out]; rfl, TxD.zero_kp _ _, by rw [HE.out]; rfl, HM5.out⟩
set_option maxRecDepth 100000 in
set_option maxHeartbeats 3200000 in
theorem rnote_full (b0 : Nat) (w : World) (x : TxD) (y : ChD) (h : Kp b0 w x) (hy : y.At w) (hn : x.n ≤ 1000) (hb1 : mayT x.p = true) (hb2 : cB y.p = true) (h6 : x.n = 6) (h0 : ¬ x.n = 0) (hl : (atC (pc x.L) (x.n - 1)).lsn < y.lsn) :
    Calls Try.prog 13 #[.agg #[.int .i64 x.id, .int .i64 x.st, .int .i64 x.f, .int .i64 x.l, .slice x.A x.n x.c, .slice x.B x.m x.d], .agg #[.int .i64 y.lsn, .int .i64 y.page, .int .i64 y.key, .bool y.o.is, .slice y.o.B y.o.m y.o.d, .bool y.v.is, .slice y.v.B y.v.m y.v.d]] w fun e w' => RnAns b0 w w' (noteE x.p y.p) (noteT x.p y.p) e := by
  obtain ⟨w1, hw1⟩ : ∃ w1, ((w.alloc (.cells #[.int .i64 x.id, .int .i64 x.st, .int .i64 x.f, .int .i64 x.l, .slice x.A x.n x.c, .slice x.B x.m x.d] 25)).alloc (.cells #[.int .i64 y.lsn, .int .i64 y.page, .int .i64 y.key, .bool y.o.is, .slice y.o.B y.o.m y.o.d, .bool y.v.is, .slice y.v.B y.v.m y.v.d] 30)).alloc (.cells #[.int .i64 0, .int .i64 0, .int .i64 0, .int .i64 0, .slice none 0 0, .slice none 0 0] 25) = w1 := ⟨_, rfl⟩
  have HB1 : Hid ((x : TxD).In w1 (w.heap.size)) := by
    rw [← hw1]
    have q := TxD.In.new (w) (x)
    exact q.keep (((Mod.refl (fun _ => False) _).alloc _).alloc _)
  have HY1 : Hid ((y : ChD).In w1 (w.heap.size + 1)) := by
    rw [← hw1]
    have q := ChD.In.new (w.alloc (.cells #[.int .i64 x.id, .int .i64 x.st, .int .i64 x.f, .int .i64 x.l, .slice x.A x.n x.c, .slice x.B x.m x.d] 25)) (y)
    simp only [World.size_alloc] at q
    exact q.keep ((Mod.refl (fun _ => False) _).alloc _)
  have HR1 : Hid ((TxD.zero : TxD).In w1 (w.heap.size + 2)) := by
    rw [← hw1]
    have q := TxD.In.new ((w.alloc (.cells #[.int .i64 x.id, .int .i64 x.st, .int .i64 x.f, .int .i64 x.l, .slice x.A x.n x.c, .slice x.B x.m x.d] 25)).alloc (.cells #[.int .i64 y.lsn, .int .i64 y.page, .int .i64 y.key, .bool y.o.is, .slice y.o.B y.o.m y.o.d, .bool y.v.is, .slice y.v.B y.v.m y.v.d] 30)) (TxD.zero)
    simp only [World.size_alloc] at q
    exact q.keep (Mod.refl (fun _ => False) _)
  have HM1 : Hid (Mod (fun _ => False) w w1) := by rw [← hw1]; exact (((Mod.refl (fun _ => False) w).alloc _).alloc _).alloc _
  have hz1 : w.heap.size + 3 ≤ w1.heap.size := by rw [← hw1]; simp
  obtain ⟨c0, c1, c2, c3, c4, c5⟩ := HB1.out.cells
  obtain ⟨y0, y1, y2, y3, y4, y5, y6⟩ := HY1.out.cells
  have HMay := Lib.hid (fun V (hV : Mod (fun _ => False) w V) => rmay_ok V x (h.at_.keep hV))
  have HCh := Lib.hid (fun V (hV : Mod (fun _ => False) w V) => rchange_ok V y (hy.keep hV))
  have HX := Lib.hid h
  have HY := Lib.hid hy
  have HN := Lib.hid hn
  have HE : Hid (noteE x.p y.p = if mayT x.p && (cB y.p && (decide (x.n = 0) || decide ((atC (pc x.L) (x.n - 1)).lsn < y.lsn))) then (if x.n = 6 then 4 else 0) else 1) := by
    have e : folB x.p.L y.p = (cB y.p && (decide (x.n = 0) || decide ((atC (pc x.L) (x.n - 1)).lsn < y.lsn))) := by unfold folB; rw [h.at_.nL]; rfl
    unfold noteE
    rw [e, h.at_.nL]
    rfl
  clear h hy hn
  rw [hb1] at HMay HE
  rw [hb2] at HCh HE
  clear hb1 hb2
  rw [if_pos h6] at HE
  have hd6 : decide ((6 : Int) ≤ (x.n : Int)) = true := decide_eq_true (by omega)
  have hd7 : decide (6 ≤ x.n) = true := decide_eq_true (by omega)
  rw [decide_eq_true hl, Bool.or_true] at HE
  have Hn0 := Lib.hid h0
  have hd0 : decide (0 < x.n) = true := decide_eq_true (by omega)
  have hd1 : decide ((0 : Int) < (x.n : Int)) = true := decide_eq_true (by omega)
  have e1 : IntKind.i64.wrap ((x.n - 1 : Nat) : Int) = ((x.n - 1 : Nat) : Int) := by have := HN.out; rw [IntKind.wrap_i64]; omega
  have e2 : (x.n : Int) - 1 = ((x.n - 1 : Nat) : Int) := by omega
  have l1 : x.n - 1 < x.n := by omega
  obtain ⟨z, hz⟩ : ∃ z, x.L[x.n - 1]? = some z := ⟨_, List.getElem?_eq_getElem (by rw [HX.out.at_.L.len]; omega)⟩
  have hzl : (atC (pc x.L) (x.n - 1)).lsn = z.lsn := by rw [atC_of (pc_at hz)]; rfl
  rw [hzl] at hl
  have hld : decide (y.lsn ≤ z.lsn) = false := decide_eq_false (by omega)
  clear h6
  go_enter Try.func13, Try.ntmps13
  go_wp2_with fail
  refine (HMay.out _ HM1.out).mono ?_
  rintro e w2 ⟨rfl, hm2⟩
  have HM2 := Lib.hid (HM1.out.trans hm2 (fun _ _ h => h))
  have hz2 := hm2.size
  have HB2 := Lib.hid (HB1.out.keep hm2)
  have HY2 := Lib.hid (HY1.out.keep hm2)
  have HR2 := Lib.hid (HR1.out.keep hm2)
  clear hm2 hw1 c0 c1 c2 c3 c4 c5 y0 y1 y2 y3 y4 y5 y6
  obtain ⟨c0, c1, c2, c3, c4, c5⟩ := HB2.out.cells
  obtain ⟨y0, y1, y2, y3, y4, y5, y6⟩ := HY2.out.cells
  go_wp2_with fail
  refine (HCh.out _ HM2.out).mono ?_
  rintro e w3 ⟨rfl, hm3⟩
  have HM3 := Lib.hid (HM2.out.trans hm3 (fun _ _ h => h))
  have hz3 := hm3.size
  have HB3 := Lib.hid (HB2.out.keep hm3)
  have HY3 := Lib.hid (HY2.out.keep hm3)
  have HR3 := Lib.hid (HR2.out.keep hm3)
  clear hm3 c0 c1 c2 c3 c4 c5 y0 y1 y2 y3 y4 y5 y6
  obtain ⟨c0, c1, c2, c3, c4, c5⟩ := HB3.out.cells
  obtain ⟨y0, y1, y2, y3, y4, y5, y6⟩ := HY3.out.cells
  obtain ⟨b, o, hA, hcs⟩ := (HX.out.at_.keep HM3.out).L.cells (by omega)
  have s0 := (hcs _ z hz).c0
  rw [hA] at c4
  have HA := Lib.hid hA
  clear hcs hA
  clear hz hl hzl h0
  go_wp2_with fail
  go_quiet (fail)
  have hm4 : Mod (fun _ => False) w3 (w3.drewN nq) := (Mod.refl _ w3).drewN nq
  generalize w3.drewN nq = w4 at *
  have HM4 := Lib.hid (HM3.out.trans hm4 (fun _ _ h => h))
  have hz4 := hm4.size
  have HB4 := Lib.hid (HB3.out.keep hm4)
  have HY4 := Lib.hid (HY3.out.keep hm4)
  have HR4 := Lib.hid (HR3.out.keep hm4)
  clear s0
  clear hm4 c0 c1 c2 c3 c4 c5 y0 y1 y2 y3 y4 y5 y6
  obtain ⟨c0, c1, c2, c3, c4, c5⟩ := HB4.out.cells
  obtain ⟨y0, y1, y2, y3, y4, y5, y6⟩ := HY4.out.cells
  rw [HA.out] at c4
  obtain ⟨r0, r1, r2, r3, r4, r5⟩ : w4.cell? ⟨w.heap.size + 2, 0, none⟩ = some (.int .i64 0) ∧ w4.cell? ⟨w.heap.size + 2, 1, none⟩ = some (.int .i64 0) ∧ w4.cell? ⟨w.heap.size + 2, 2, none⟩ = some (.int .i64 0) ∧ w4.cell? ⟨w.heap.size + 2, 3, none⟩ = some (.int .i64 0) ∧ w4.cell? ⟨w.heap.size + 2, 4, none⟩ = some (.slice none 0 0) ∧ w4.cell? ⟨w.heap.size + 2, 5, none⟩ = some (.slice none 0 0) := HR4.out.cells
  have g0 := HR4.out.fz 0
  have g1 := HR4.out.fz 1
  have g2 := HR4.out.fz 2
  have g3 := HR4.out.fz 3
  have g4 := HR4.out.fz 4
  have g5 := HR4.out.fz 5
  obtain ⟨w5, hw5⟩ : ∃ w5, (((((w4.setCell ⟨w.heap.size + 2, 0, none⟩ (.int .i64 0)).setCell ⟨w.heap.size + 2, 1, none⟩ (.int .i64 0)).setCell ⟨w.heap.size + 2, 2, none⟩ (.int .i64 0)).setCell ⟨w.heap.size + 2, 3, none⟩ (.int .i64 0)).setCell ⟨w.heap.size + 2, 4, none⟩ (.slice none 0 0)).setCell ⟨w.heap.size + 2, 5, none⟩ (.slice none 0 0) = w5 := ⟨_, rfl⟩
  have hq5 : stT w4 (w.heap.size + 2) TxD.zero = w5 := hw5
  have hs5 : Mod (fun k => k = w.heap.size + 2) w4 w5 := by rw [← hq5]; exact stT_mod w4 (w.heap.size + 2) TxD.zero
  have HM5 : Hid (Mod (fun _ => False) w w5) := HM4.out.trans hs5 (fun k _ e => by omega)
  have hz5 := hs5.size
  have HB5 := Lib.hid (HB4.out.mod hs5 (fun e => by omega))
  have HY5 := Lib.hid (HY4.out.mod hs5 (fun e => by omega))
  have HR5 : Hid ((TxD.zero : TxD).In w5 (w.heap.size + 2)) := by rw [← hq5]; exact HR4.out.set TxD.zero
  clear hq5
  have hsR := hs5
  clear hs5
  have HW := Lib.hid hw5
  clear hw5
  go_wp2
  rw [HW.out]
  clear c0 c1 c2 c3 c4 c5 y0 y1 y2 y3 y4 y5 y6 r0 r1 r2 r3 r4 r5 g0 g1 g2 g3 g4 g5
  obtain ⟨q0, q1, q2, q3, q4, q5⟩ : w5.cell? ⟨w.heap.size + 2, 0, none⟩ = some (.int .i64 0) ∧ w5.cell? ⟨w.heap.size + 2, 1, none⟩ = some (.int .i64 0) ∧ w5.cell? ⟨w.heap.size + 2, 2, none⟩ = some (.int .i64 0) ∧ w5.cell? ⟨w.heap.size + 2, 3, none⟩ = some (.int .i64 0) ∧ w5.cell? ⟨w.heap.size + 2, 4, none⟩ = some (.slice none 0 0) ∧ w5.cell? ⟨w.heap.size + 2, 5, none⟩ = some (.slice none 0 0) := HR5.out.cells
  refine bodyPost_ret (v := .tuple #[.agg #[.int .i64 0, .int .i64 0, .int .i64 0, .int .i64 0, .slice none 0 0, .slice none 0 0], .int .i64 4]) (by simp [results, Try.results13, go_sem, q0, q1, q2, q3, q4, q5]) rfl ?_
  clear hsR
  exact ⟨TxD.zero, by rw [HE.out]; rfl, TxD.zero_kp _ _, by rw [HE.out]; rfl, HM5.out⟩
set_option maxRecDepth 100000 in
set_option maxHeartbeats 3200000 in
theorem rnote_yes0 (b0 : Nat) (w : World) (x : TxD) (y : ChD) (h : Kp b0 w x) (hy : y.At w) (hn : x.n ≤ 1000) (hb1 : mayT x.p = true) (hb2 : cB y.p = true) (h6 : ¬ x.n = 6) (h6' : x.n ≤ 6) (h0 : x.n = 0) :
    Calls Try.prog 13 #[.agg #[.int .i64 x.id, .int .i64 x.st, .int .i64 x.f, .int .i64 x.l, .slice x.A x.n x.c, .slice x.B x.m x.d], .agg #[.int .i64 y.lsn, .int .i64 y.page, .int .i64 y.key, .bool y.o.is, .slice y.o.B y.o.m y.o.d, .bool y.v.is, .slice y.v.B y.v.m y.v.d]] w fun e w' => RnAns b0 w w' (noteE x.p y.p) (noteT x.p y.p) e := by
  obtain ⟨w1, hw1⟩ : ∃ w1, ((w.alloc (.cells #[.int .i64 x.id, .int .i64 x.st, .int .i64 x.f, .int .i64 x.l, .slice x.A x.n x.c, .slice x.B x.m x.d] 25)).alloc (.cells #[.int .i64 y.lsn, .int .i64 y.page, .int .i64 y.key, .bool y.o.is, .slice y.o.B y.o.m y.o.d, .bool y.v.is, .slice y.v.B y.v.m y.v.d] 30)).alloc (.cells #[.int .i64 0, .int .i64 0, .int .i64 0, .int .i64 0, .slice none 0 0, .slice none 0 0] 25) = w1 := ⟨_, rfl⟩
  have HB1 : Hid ((x : TxD).In w1 (w.heap.size)) := by
    rw [← hw1]
    have q := TxD.In.new (w) (x)
    exact q.keep (((Mod.refl (fun _ => False) _).alloc _).alloc _)
  have HY1 : Hid ((y : ChD).In w1 (w.heap.size + 1)) := by
    rw [← hw1]
    have q := ChD.In.new (w.alloc (.cells #[.int .i64 x.id, .int .i64 x.st, .int .i64 x.f, .int .i64 x.l, .slice x.A x.n x.c, .slice x.B x.m x.d] 25)) (y)
    simp only [World.size_alloc] at q
    exact q.keep ((Mod.refl (fun _ => False) _).alloc _)
  have HR1 : Hid ((TxD.zero : TxD).In w1 (w.heap.size + 2)) := by
    rw [← hw1]
    have q := TxD.In.new ((w.alloc (.cells #[.int .i64 x.id, .int .i64 x.st, .int .i64 x.f, .int .i64 x.l, .slice x.A x.n x.c, .slice x.B x.m x.d] 25)).alloc (.cells #[.int .i64 y.lsn, .int .i64 y.page, .int .i64 y.key, .bool y.o.is, .slice y.o.B y.o.m y.o.d, .bool y.v.is, .slice y.v.B y.v.m y.v.d] 30)) (TxD.zero)
    simp only [World.size_alloc] at q
    exact q.keep (Mod.refl (fun _ => False) _)
  have HM1 : Hid (Mod (fun _ => False) w w1) := by rw [← hw1]; exact (((Mod.refl (fun _ => False) w).alloc _).alloc _).alloc _
  have hz1 : w.heap.size + 3 ≤ w1.heap.size := by rw [← hw1]; simp
  obtain ⟨c0, c1, c2, c3, c4, c5⟩ := HB1.out.cells
  obtain ⟨y0, y1, y2, y3, y4, y5, y6⟩ := HY1.out.cells
  have HMay := Lib.hid (fun V (hV : Mod (fun _ => False) w V) => rmay_ok V x (h.at_.keep hV))
  have HCh := Lib.hid (fun V (hV : Mod (fun _ => False) w V) => rchange_ok V y (hy.keep hV))
  have HX := Lib.hid h
  have HY := Lib.hid hy
  have HN := Lib.hid hn
  have HE : Hid (noteE x.p y.p = if mayT x.p && (cB y.p && (decide (x.n = 0) || decide ((atC (pc x.L) (x.n - 1)).lsn < y.lsn))) then (if x.n = 6 then 4 else 0) else 1) := by
    have e : folB x.p.L y.p = (cB y.p && (decide (x.n = 0) || decide ((atC (pc x.L) (x.n - 1)).lsn < y.lsn))) := by unfold folB; rw [h.at_.nL]; rfl
    unfold noteE
    rw [e, h.at_.nL]
    rfl
  clear h hy hn
  rw [hb1] at HMay HE
  rw [hb2] at HCh HE
  clear hb1 hb2
  rw [if_neg h6] at HE
  have hd6 : decide ((6 : Int) ≤ (x.n : Int)) = false := decide_eq_false (by omega)
  have hd7 : decide (6 ≤ x.n) = false := decide_eq_false (by omega)
  rw [decide_eq_true h0] at HE
  have Hn0 := Lib.hid h0
  have hd0 : decide (0 < x.n) = false := decide_eq_false (by omega)
  have hd1 : decide ((0 : Int) < (x.n : Int)) = false := decide_eq_false (by omega)
  clear h0
  have HE0 : Hid (noteE x.p y.p = 0) := by show _ = _; rw [HE.out]; rfl
  clear h6 HE
  go_enter Try.func13, Try.ntmps13
  go_wp2_with fail
  refine (HMay.out _ HM1.out).mono ?_
  rintro e w2 ⟨rfl, hm2⟩
  have HM2 := Lib.hid (HM1.out.trans hm2 (fun _ _ h => h))
  have hz2 := hm2.size
  have HB2 := Lib.hid (HB1.out.keep hm2)
  have HY2 := Lib.hid (HY1.out.keep hm2)
  have HR2 := Lib.hid (HR1.out.keep hm2)
  clear hm2 hw1 c0 c1 c2 c3 c4 c5 y0 y1 y2 y3 y4 y5 y6
  obtain ⟨c0, c1, c2, c3, c4, c5⟩ := HB2.out.cells
  obtain ⟨y0, y1, y2, y3, y4, y5, y6⟩ := HY2.out.cells
  go_wp2_with fail
  refine (HCh.out _ HM2.out).mono ?_
  rintro e w3 ⟨rfl, hm3⟩
  have HM3 := Lib.hid (HM2.out.trans hm3 (fun _ _ h => h))
  have hz3 := hm3.size
  have HB3 := Lib.hid (HB2.out.keep hm3)
  have HY3 := Lib.hid (HY2.out.keep hm3)
  have HR3 := Lib.hid (HR2.out.keep hm3)
  clear hm3 c0 c1 c2 c3 c4 c5 y0 y1 y2 y3 y4 y5 y6
  obtain ⟨c0, c1, c2, c3, c4, c5⟩ := HB3.out.cells
  obtain ⟨y0, y1, y2, y3, y4, y5, y6⟩ := HY3.out.cells
  go_wp2_with fail
  go_quiet (fail)
  have hm4 : Mod (fun _ => False) w3 (w3.drewN nq) := (Mod.refl _ w3).drewN nq
  generalize w3.drewN nq = w4 at *
  have HM4 := Lib.hid (HM3.out.trans hm4 (fun _ _ h => h))
  have hz4 := hm4.size
  have HB4 := Lib.hid (HB3.out.keep hm4)
  have HY4 := Lib.hid (HY3.out.keep hm4)
  have HR4 := Lib.hid (HR3.out.keep hm4)
  clear hm4 c0 c1 c2 c3 c4 c5 y0 y1 y2 y3 y4 y5 y6
  obtain ⟨c0, c1, c2, c3, c4, c5⟩ := HB4.out.cells
  obtain ⟨y0, y1, y2, y3, y4, y5, y6⟩ := HY4.out.cells
  have HS4 : Hid (SrcN w4 x.A x.n 7 (chs x.L)) := by exact (HX.out.at_.keep HM4.out).L.src
  go_wp2_with (at_builtin; refine Hid.out ?_)
  refine Lib.hid ?_
  refine wpList_appN (.const (.slice none 0 0)) (.tmp 46) chElem rfl rfl rfl rfl (OwN.nil w4 w4.heap.size 30 7) HS4.out (by have := HN.out; omega) (by have := HN.out; unfold maxLen; omega) (Nat.le_refl _) ?_
  intro A1 e1c w5 hO hg _
  rw [Nat.zero_add, List.nil_append] at hO
  rw [Nat.zero_add]
  have hm5 : Mod (fun _ => False) w4 w5 := (Mod.refl _ w4).grown hg (fun k e _ => by simp [blkOf] at e)
  have HO5 := Lib.hid hO
  clear hg hO HS4
  have HM5 := Lib.hid (HM4.out.trans hm5 (fun _ _ h => h))
  have hz5 := hm5.size
  have HB5 := Lib.hid (HB4.out.keep hm5)
  have HY5 := Lib.hid (HY4.out.keep hm5)
  have HR5 := Lib.hid (HR4.out.keep hm5)
  clear hm5 c0 c1 c2 c3 c4 c5 y0 y1 y2 y3 y4 y5 y6
  obtain ⟨c0, c1, c2, c3, c4, c5⟩ := HB5.out.cells
  obtain ⟨y0, y1, y2, y3, y4, y5, y6⟩ := HY5.out.cells
  obtain ⟨w6, hw6⟩ : ∃ w6, w5.alloc (.cells #[.int .i64 y.lsn, .int .i64 y.page, .int .i64 y.key, .bool y.o.is, .slice y.o.B y.o.m y.o.d, .bool y.v.is, .slice y.v.B y.v.m y.v.d] 30) = w6 := ⟨_, rfl⟩
  have hm6 : Mod (fun _ => False) w5 w6 := by rw [← hw6]; exact (Mod.refl _ w5).alloc _
  have HS6 : Hid (SrcN w6 (some ⟨w5.heap.size, 0, none⟩) 1 7 (chc y)) := by rw [← hw6]; exact SrcN.lit w5 (chc y) 30 (by simpa [chs] using chs_one [y])
  have HO6 := Lib.hid (OwN.mod HO5.out hm6 (fun _ _ h => h))
  have HM6 := Lib.hid (HM5.out.trans hm6 (fun _ _ h => h))
  have hz6 := hm6.size
  have HB6 := Lib.hid (HB5.out.keep hm6)
  have HY6 := Lib.hid (HY5.out.keep hm6)
  have HR6 := Lib.hid (HR5.out.keep hm6)
  clear hm6
  go_wp2_with (at_builtin; refine Hid.out ?_)
  refine Lib.hid ?_
  refine wpList_appN (.tmp 48) (.tmp 50) chElem rfl rfl rfl rfl HO6.out HS6.out (by have := HN.out; omega) (by have := HN.out; unfold maxLen; omega) (show w4.heap.size ≤ w6.heap.size by omega) ?_
  intro A2 e2c w7 hO hg _
  have hs7 : Mod (fun k => blkOf A1 = some k) w6 w7 := (Mod.refl _ w6).grown hg (fun k e _ => e)
  have hlo : ∀ k, blkOf A1 = some k → w4.heap.size ≤ k := fun k hk => (OwN.lt HO5.out k hk).1
  have HM7 : Hid (Mod (fun _ => False) w w7) := HM6.out.trans hs7 (fun k _ e => by have := hlo k e; omega)
  have HB7 := Lib.hid (HB6.out.mod hs7 (fun e => by have := hlo _ e; omega))
  have HY7 := Lib.hid (HY6.out.mod hs7 (fun e => by have := hlo _ e; omega))
  have HR7 := Lib.hid (HR6.out.mod hs7 (fun e => by have := hlo _ e; omega))
  have HO7 : Hid (OwC w7 w4.heap.size A2 (x.n + 1) e2c (x.L ++ [y])) := by
    show OwN w7 w4.heap.size 30 7 A2 (x.n + 1) e2c (chs (x.L ++ [y]))
    rw [chs_append]
    simpa [chs] using hO
  have hz7 := hs7.size
  clear hO hg hs7 hlo hw6 c0 c1 c2 c3 c4 c5 y0 y1 y2 y3 y4 y5 y6
  obtain ⟨c0, c1, c2, c3, c4, c5⟩ := HB7.out.cells
  have f4 := HB7.out.fz 4
  obtain ⟨w8, hw8⟩ : ∃ w8, w7.setCell ⟨w.heap.size, 4, none⟩ (.slice A2 (x.n + 1) e2c) = w8 := ⟨_, rfl⟩
  have hs8 : Mod (fun k => k = w.heap.size) w7 w8 := by rw [← hw8]; exact (Mod.refl (fun k => k = w.heap.size) w7).one (fun _ => rfl) _ _
  have HM8 : Hid (Mod (fun _ => False) w w8) := HM7.out.trans hs8 (fun k _ e => by omega)
  have hz8 := hs8.size
  have HB8 : Hid ((⟨x.id, x.st, x.f, x.l, A2, x.n + 1, e2c, x.L ++ [y], x.B, x.m, x.d, x.S⟩ : TxD).In w8 (w.heap.size)) := by rw [← hw8]; exact heap_set HB7.out 4 (.slice A2 (x.n + 1) e2c)
  have HY8 := Lib.hid (HY7.out.mod hs8 (fun e => by omega))
  have HR8 := Lib.hid (HR7.out.mod hs8 (fun e => by omega))
  have HO8 := Lib.hid (OwN.mod HO7.out hs8 (fun k hk e => by have := (OwN.lt HO7.out k hk).1; omega))
  clear hs8
  obtain ⟨m0, m1, m2, m3, m4, m5⟩ := HB8.out.cells
  obtain ⟨y0, y1, y2, y3, y4, y5, y6⟩ := HY8.out.cells
  have h3 := HB8.out.fz 3
  obtain ⟨w9, hw9⟩ : ∃ w9, w8.setCell ⟨w.heap.size, 3, none⟩ (.int .i64 y.lsn) = w9 := ⟨_, rfl⟩
  have hs9 : Mod (fun k => k = w.heap.size) w8 w9 := by rw [← hw9]; exact (Mod.refl (fun k => k = w.heap.size) w8).one (fun _ => rfl) _ _
  have HM9 : Hid (Mod (fun _ => False) w w9) := HM8.out.trans hs9 (fun k _ e => by omega)
  have hz9 := hs9.size
  have HB9 : Hid ((⟨x.id, x.st, x.f, y.lsn, A2, x.n + 1, e2c, x.L ++ [y], x.B, x.m, x.d, x.S⟩ : TxD).In w9 (w.heap.size)) := by rw [← hw9]; exact heap_set HB8.out 3 (.int .i64 y.lsn)
  have HY9 := Lib.hid (HY8.out.mod hs9 (fun e => by omega))
  have HR9 := Lib.hid (HR8.out.mod hs9 (fun e => by omega))
  have HO9 := Lib.hid (OwN.mod HO8.out hs9 (fun k hk e => by have := (OwN.lt HO7.out k hk).1; omega))
  clear hs9
  obtain ⟨d0, d1, d2, d3, d4, d5⟩ := HB9.out.cells
  obtain ⟨z0, z1, z2, z3, z4, z5, z6⟩ := HY9.out.cells
  have k2 := HB9.out.fz 2
  by_cases hf : x.f = 0
  · have hfd : (x.f == 0) = true := by simp [hf]
    have Hf := Lib.hid hf
    clear hf
    obtain ⟨w10, hw10⟩ : ∃ w10, w9.setCell ⟨w.heap.size, 2, none⟩ (.int .i64 y.lsn) = w10 := ⟨_, rfl⟩
    have hs10 : Mod (fun k => k = w.heap.size) w9 w10 := by rw [← hw10]; exact (Mod.refl (fun k => k = w.heap.size) w9).one (fun _ => rfl) _ _
    have HM10 : Hid (Mod (fun _ => False) w w10) := HM9.out.trans hs10 (fun k _ e => by omega)
    have hz10 := hs10.size
    have HB10 : Hid ((⟨x.id, x.st, y.lsn, y.lsn, A2, x.n + 1, e2c, x.L ++ [y], x.B, x.m, x.d, x.S⟩ : TxD).In w10 (w.heap.size)) := by rw [← hw10]; exact heap_set HB9.out 2 (.int .i64 y.lsn)
    have HY10 := Lib.hid (HY9.out.mod hs10 (fun e => by omega))
    have HR10 := Lib.hid (HR9.out.mod hs10 (fun e => by omega))
    have HO10 := Lib.hid (OwN.mod HO9.out hs10 (fun k hk e => by have := (OwN.lt HO7.out k hk).1; omega))
    clear hs10
    obtain ⟨p0, p1, p2, p3, p4, p5⟩ := HB10.out.cells
    obtain ⟨r0, r1, r2, r3, r4, r5⟩ : w10.cell? ⟨w.heap.size + 2, 0, none⟩ = some (.int .i64 0) ∧ w10.cell? ⟨w.heap.size + 2, 1, none⟩ = some (.int .i64 0) ∧ w10.cell? ⟨w.heap.size + 2, 2, none⟩ = some (.int .i64 0) ∧ w10.cell? ⟨w.heap.size + 2, 3, none⟩ = some (.int .i64 0) ∧ w10.cell? ⟨w.heap.size + 2, 4, none⟩ = some (.slice none 0 0) ∧ w10.cell? ⟨w.heap.size + 2, 5, none⟩ = some (.slice none 0 0) := HR10.out.cells
    have g0 := HR10.out.fz 0
    have g1 := HR10.out.fz 1
    have g2 := HR10.out.fz 2
    have g3 := HR10.out.fz 3
    have g4 := HR10.out.fz 4
    have g5 := HR10.out.fz 5
    obtain ⟨w11, hw11⟩ : ∃ w11, (((((w10.setCell ⟨w.heap.size + 2, 0, none⟩ (.int .i64 x.id)).setCell ⟨w.heap.size + 2, 1, none⟩ (.int .i64 x.st)).setCell ⟨w.heap.size + 2, 2, none⟩ (.int .i64 y.lsn)).setCell ⟨w.heap.size + 2, 3, none⟩ (.int .i64 y.lsn)).setCell ⟨w.heap.size + 2, 4, none⟩ (.slice A2 (x.n + 1) e2c)).setCell ⟨w.heap.size + 2, 5, none⟩ (.slice x.B x.m x.d) = w11 := ⟨_, rfl⟩
    have hq11 : stT w10 (w.heap.size + 2) ⟨x.id, x.st, y.lsn, y.lsn, A2, x.n + 1, e2c, x.L ++ [y], x.B, x.m, x.d, x.S⟩ = w11 := hw11
    have hs11 : Mod (fun k => k = w.heap.size + 2) w10 w11 := by rw [← hq11]; exact stT_mod w10 (w.heap.size + 2) ⟨x.id, x.st, y.lsn, y.lsn, A2, x.n + 1, e2c, x.L ++ [y], x.B, x.m, x.d, x.S⟩
    have HM11 : Hid (Mod (fun _ => False) w w11) := HM10.out.trans hs11 (fun k _ e => by omega)
    have hz11 := hs11.size
    have HB11 := Lib.hid (HB10.out.mod hs11 (fun e => by omega))
    have HY11 := Lib.hid (HY10.out.mod hs11 (fun e => by omega))
    have HR11 : Hid ((⟨x.id, x.st, y.lsn, y.lsn, A2, x.n + 1, e2c, x.L ++ [y], x.B, x.m, x.d, x.S⟩ : TxD).In w11 (w.heap.size + 2)) := by rw [← hq11]; exact HR10.out.set ⟨x.id, x.st, y.lsn, y.lsn, A2, x.n + 1, e2c, x.L ++ [y], x.B, x.m, x.d, x.S⟩
    clear hq11
    have hsR := hs11
    clear hs11
    have HW := Lib.hid hw11
    clear hw11
    go_wp2
    rw [HW.out]
    clear hw8 hw9 hw10 hfd p0 p1 p2 p3 p4 p5 f4 h3 k2 m0 m1 m2 m3 m4 m5 c0 c1 c2 c3 c4 c5 d0 d1 d2 d3 d4 d5 y0 y1 y2 y3 y4 y5 y6 z0 z1 z2 z3 z4 z5 z6 r0 r1 r2 r3 r4 r5 g0 g1 g2 g3 g4 g5
    obtain ⟨q0, q1, q2, q3, q4, q5⟩ : w11.cell? ⟨w.heap.size + 2, 0, none⟩ = some (.int .i64 x.id) ∧ w11.cell? ⟨w.heap.size + 2, 1, none⟩ = some (.int .i64 x.st) ∧ w11.cell? ⟨w.heap.size + 2, 2, none⟩ = some (.int .i64 y.lsn) ∧ w11.cell? ⟨w.heap.size + 2, 3, none⟩ = some (.int .i64 y.lsn) ∧ w11.cell? ⟨w.heap.size + 2, 4, none⟩ = some (.slice A2 (x.n + 1) e2c) ∧ w11.cell? ⟨w.heap.size + 2, 5, none⟩ = some (.slice x.B x.m x.d) := HR11.out.cells
    refine bodyPost_ret (v := .tuple #[.agg #[.int .i64 x.id, .int .i64 x.st, .int .i64 y.lsn, .int .i64 y.lsn, .slice A2 (x.n + 1) e2c, .slice x.B x.m x.d], .int .i64 0]) (by simp [results, Try.results13, go_sem, q0, q1, q2, q3, q4, q5]) rfl ?_
    have hxs := (HX.out.keep HM11.out)
    have hO := OwN.mod HO10.out hsR (fun k hk e => by have := (OwN.lt HO7.out k hk).1; omega)
    refine ⟨⟨x.id, x.st, y.lsn, y.lsn, A2, x.n + 1, e2c, x.L ++ [y], x.B, x.m, x.d, x.S⟩, by rw [HE0.out], hxs.withL (OwC.cs hO (fun u hu => ?_)) _ _, ?_, HM11.out⟩
    · rcases List.mem_append.1 hu with hu | hu
      · exact hxs.at_.L.ats u hu
      · obtain rfl : u = y := by simpa using hu
        exact HY.out.keep HM11.out
    · rw [HE0.out, if_pos rfl]
      show (⟨x.id, x.st, _, y.lsn, pc (x.L ++ [y]), x.S⟩ : Tp) = ⟨x.id, x.st, if x.f = 0 then y.lsn else x.f, y.lsn, pc x.L ++ [y.p], x.S⟩
      rw [if_pos Hf.out, pc, List.map_append]
      rfl
  · have hfd : (x.f == 0) = false := by simpa using hf
    have Hf := Lib.hid hf
    clear hf
    obtain ⟨r0, r1, r2, r3, r4, r5⟩ : w9.cell? ⟨w.heap.size + 2, 0, none⟩ = some (.int .i64 0) ∧ w9.cell? ⟨w.heap.size + 2, 1, none⟩ = some (.int .i64 0) ∧ w9.cell? ⟨w.heap.size + 2, 2, none⟩ = some (.int .i64 0) ∧ w9.cell? ⟨w.heap.size + 2, 3, none⟩ = some (.int .i64 0) ∧ w9.cell? ⟨w.heap.size + 2, 4, none⟩ = some (.slice none 0 0) ∧ w9.cell? ⟨w.heap.size + 2, 5, none⟩ = some (.slice none 0 0) := HR9.out.cells
    have g0 := HR9.out.fz 0
    have g1 := HR9.out.fz 1
    have g2 := HR9.out.fz 2
    have g3 := HR9.out.fz 3
    have g4 := HR9.out.fz 4
    have g5 := HR9.out.fz 5
    obtain ⟨w10, hw10⟩ : ∃ w10, (((((w9.setCell ⟨w.heap.size + 2, 0, none⟩ (.int .i64 x.id)).setCell ⟨w.heap.size + 2, 1, none⟩ (.int .i64 x.st)).setCell ⟨w.heap.size + 2, 2, none⟩ (.int .i64 x.f)).setCell ⟨w.heap.size + 2, 3, none⟩ (.int .i64 y.lsn)).setCell ⟨w.heap.size + 2, 4, none⟩ (.slice A2 (x.n + 1) e2c)).setCell ⟨w.heap.size + 2, 5, none⟩ (.slice x.B x.m x.d) = w10 := ⟨_, rfl⟩
    have hq10 : stT w9 (w.heap.size + 2) ⟨x.id, x.st, x.f, y.lsn, A2, x.n + 1, e2c, x.L ++ [y], x.B, x.m, x.d, x.S⟩ = w10 := hw10
    have hs10 : Mod (fun k => k = w.heap.size + 2) w9 w10 := by rw [← hq10]; exact stT_mod w9 (w.heap.size + 2) ⟨x.id, x.st, x.f, y.lsn, A2, x.n + 1, e2c, x.L ++ [y], x.B, x.m, x.d, x.S⟩
    have HM10 : Hid (Mod (fun _ => False) w w10) := HM9.out.trans hs10 (fun k _ e => by omega)
    have hz10 := hs10.size
    have HB10 := Lib.hid (HB9.out.mod hs10 (fun e => by omega))
    have HY10 := Lib.hid (HY9.out.mod hs10 (fun e => by omega))
    have HR10 : Hid ((⟨x.id, x.st, x.f, y.lsn, A2, x.n + 1, e2c, x.L ++ [y], x.B, x.m, x.d, x.S⟩ : TxD).In w10 (w.heap.size + 2)) := by rw [← hq10]; exact HR9.out.set ⟨x.id, x.st, x.f, y.lsn, A2, x.n + 1, e2c, x.L ++ [y], x.B, x.m, x.d, x.S⟩
    clear hq10
    have hsR := hs10
    clear hs10
    have HW := Lib.hid hw10
    clear hw10
    go_wp2
    rw [HW.out]
    clear hw8 hw9 hfd f4 h3 k2 m0 m1 m2 m3 m4 m5 c0 c1 c2 c3 c4 c5 d0 d1 d2 d3 d4 d5 y0 y1 y2 y3 y4 y5 y6 z0 z1 z2 z3 z4 z5 z6 r0 r1 r2 r3 r4 r5 g0 g1 g2 g3 g4 g5
    obtain ⟨q0, q1, q2, q3, q4, q5⟩ : w10.cell? ⟨w.heap.size + 2, 0, none⟩ = some (.int .i64 x.id) ∧ w10.cell? ⟨w.heap.size + 2, 1, none⟩ = some (.int .i64 x.st) ∧ w10.cell? ⟨w.heap.size + 2, 2, none⟩ = some (.int .i64 x.f) ∧ w10.cell? ⟨w.heap.size + 2, 3, none⟩ = some (.int .i64 y.lsn) ∧ w10.cell? ⟨w.heap.size + 2, 4, none⟩ = some (.slice A2 (x.n + 1) e2c) ∧ w10.cell? ⟨w.heap.size + 2, 5, none⟩ = some (.slice x.B x.m x.d) := HR10.out.cells
    refine bodyPost_ret (v := .tuple #[.agg #[.int .i64 x.id, .int .i64 x.st, .int .i64 x.f, .int .i64 y.lsn, .slice A2 (x.n + 1) e2c, .slice x.B x.m x.d], .int .i64 0]) (by simp [results, Try.results13, go_sem, q0, q1, q2, q3, q4, q5]) rfl ?_
    have hxs := (HX.out.keep HM10.out)
    have hO := OwN.mod HO9.out hsR (fun k hk e => by have := (OwN.lt HO7.out k hk).1; omega)
    refine ⟨⟨x.id, x.st, x.f, y.lsn, A2, x.n + 1, e2c, x.L ++ [y], x.B, x.m, x.d, x.S⟩, by rw [HE0.out], hxs.withL (OwC.cs hO (fun u hu => ?_)) _ _, ?_, HM10.out⟩
    · rcases List.mem_append.1 hu with hu | hu
      · exact hxs.at_.L.ats u hu
      · obtain rfl : u = y := by simpa using hu
        exact HY.out.keep HM10.out
    · rw [HE0.out, if_pos rfl]
      show (⟨x.id, x.st, _, y.lsn, pc (x.L ++ [y]), x.S⟩ : Tp) = ⟨x.id, x.st, if x.f = 0 then y.lsn else x.f, y.lsn, pc x.L ++ [y.p], x.S⟩
      rw [if_neg Hf.out, pc, List.map_append]
      rfl
set_option maxRecDepth 100000 in
set_option maxHeartbeats 3200000 in
theorem rnote_yes1 (b0 : Nat) (w : World) (x : TxD) (y : ChD) (h : Kp b0 w x) (hy : y.At w) (hn : x.n ≤ 1000) (hb1 : mayT x.p = true) (hb2 : cB y.p = true) (h6 : ¬ x.n = 6) (h6' : x.n ≤ 6) (h0 : ¬ x.n = 0) (hl : (atC (pc x.L) (x.n - 1)).lsn < y.lsn) :
    Calls Try.prog 13 #[.agg #[.int .i64 x.id, .int .i64 x.st, .int .i64 x.f, .int .i64 x.l, .slice x.A x.n x.c, .slice x.B x.m x.d], .agg #[.int .i64 y.lsn, .int .i64 y.page, .int .i64 y.key, .bool y.o.is, .slice y.o.B y.o.m y.o.d, .bool y.v.is, .slice y.v.B y.v.m y.v.d]] w fun e w' => RnAns b0 w w' (noteE x.p y.p) (noteT x.p y.p) e := by
  obtain ⟨w1, hw1⟩ : ∃ w1, ((w.alloc (.cells #[.int .i64 x.id, .int .i64 x.st, .int .i64 x.f, .int .i64 x.l, .slice x.A x.n x.c, .slice x.B x.m x.d] 25)).alloc (.cells #[.int .i64 y.lsn, .int .i64 y.page, .int .i64 y.key, .bool y.o.is, .slice y.o.B y.o.m y.o.d, .bool y.v.is, .slice y.v.B y.v.m y.v.d] 30)).alloc (.cells #[.int .i64 0, .int .i64 0, .int .i64 0, .int .i64 0, .slice none 0 0, .slice none 0 0] 25) = w1 := ⟨_, rfl⟩
  have HB1 : Hid ((x : TxD).In w1 (w.heap.size)) := by
    rw [← hw1]
    have q := TxD.In.new (w) (x)
    exact q.keep (((Mod.refl (fun _ => False) _).alloc _).alloc _)
  have HY1 : Hid ((y : ChD).In w1 (w.heap.size + 1)) := by
    rw [← hw1]
    have q := ChD.In.new (w.alloc (.cells #[.int .i64 x.id, .int .i64 x.st, .int .i64 x.f, .int .i64 x.l, .slice x.A x.n x.c, .slice x.B x.m x.d] 25)) (y)
    simp only [World.size_alloc] at q
    exact q.keep ((Mod.refl (fun _ => False) _).alloc _)
  have HR1 : Hid ((TxD.zero : TxD).In w1 (w.heap.size + 2)) := by
    rw [← hw1]
    have q := TxD.In.new ((w.alloc (.cells #[.int .i64 x.id, .int .i64 x.st, .int .i64 x.f, .int .i64 x.l, .slice x.A x.n x.c, .slice x.B x.m x.d] 25)).alloc (.cells #[.int .i64 y.lsn, .int .i64 y.page, .int .i64 y.key, .bool y.o.is, .slice y.o.B y.o.m y.o.d, .bool y.v.is, .slice y.v.B y.v.m y.v.d] 30)) (TxD.zero)
    simp only [World.size_alloc] at q
    exact q.keep (Mod.refl (fun _ => False) _)
  have HM1 : Hid (Mod (fun _ => False) w w1) := by rw [← hw1]; exact (((Mod.refl (fun _ => False) w).alloc _).alloc _).alloc _
  have hz1 : w.heap.size + 3 ≤ w1.heap.size := by rw [← hw1]; simp
  obtain ⟨c0, c1, c2, c3, c4, c5⟩ := HB1.out.cells
  obtain ⟨y0, y1, y2, y3, y4, y5, y6⟩ := HY1.out.cells
  have HMay := Lib.hid (fun V (hV : Mod (fun _ => False) w V) => rmay_ok V x (h.at_.keep hV))
  have HCh := Lib.hid (fun V (hV : Mod (fun _ => False) w V) => rchange_ok V y (hy.keep hV))
  have HX := Lib.hid h
  have HY := Lib.hid hy
  have HN := Lib.hid hn
  have HE : Hid (noteE x.p y.p = if mayT x.p && (cB y.p && (decide (x.n = 0) || decide ((atC (pc x.L) (x.n - 1)).lsn < y.lsn))) then (if x.n = 6 then 4 else 0) else 1) := by
    have e : folB x.p.L y.p = (cB y.p && (decide (x.n = 0) || decide ((atC (pc x.L) (x.n - 1)).lsn < y.lsn))) := by unfold folB; rw [h.at_.nL]; rfl
    unfold noteE
    rw [e, h.at_.nL]
    rfl
  clear h hy hn
  rw [hb1] at HMay HE
  rw [hb2] at HCh HE
  clear hb1 hb2
  rw [if_neg h6] at HE
  have hd6 : decide ((6 : Int) ≤ (x.n : Int)) = false := decide_eq_false (by omega)
  have hd7 : decide (6 ≤ x.n) = false := decide_eq_false (by omega)
  rw [decide_eq_true hl, Bool.or_true] at HE
  have Hn0 := Lib.hid h0
  have hd0 : decide (0 < x.n) = true := decide_eq_true (by omega)
  have hd1 : decide ((0 : Int) < (x.n : Int)) = true := decide_eq_true (by omega)
  have e1 : IntKind.i64.wrap ((x.n - 1 : Nat) : Int) = ((x.n - 1 : Nat) : Int) := by have := HN.out; rw [IntKind.wrap_i64]; omega
  have e2 : (x.n : Int) - 1 = ((x.n - 1 : Nat) : Int) := by omega
  have l1 : x.n - 1 < x.n := by omega
  obtain ⟨z, hz⟩ : ∃ z, x.L[x.n - 1]? = some z := ⟨_, List.getElem?_eq_getElem (by rw [HX.out.at_.L.len]; omega)⟩
  have hzl : (atC (pc x.L) (x.n - 1)).lsn = z.lsn := by rw [atC_of (pc_at hz)]; rfl
  rw [hzl] at hl
  have hld : decide (y.lsn ≤ z.lsn) = false := decide_eq_false (by omega)
  have HE0 : Hid (noteE x.p y.p = 0) := by show _ = _; rw [HE.out]; rfl
  clear h6 HE
  go_enter Try.func13, Try.ntmps13
  go_wp2_with fail
  refine (HMay.out _ HM1.out).mono ?_
  rintro e w2 ⟨rfl, hm2⟩
  have HM2 := Lib.hid (HM1.out.trans hm2 (fun _ _ h => h))
  have hz2 := hm2.size
  have HB2 := Lib.hid (HB1.out.keep hm2)
  have HY2 := Lib.hid (HY1.out.keep hm2)
  have HR2 := Lib.hid (HR1.out.keep hm2)
  clear hm2 hw1 c0 c1 c2 c3 c4 c5 y0 y1 y2 y3 y4 y5 y6
  obtain ⟨c0, c1, c2, c3, c4, c5⟩ := HB2.out.cells
  obtain ⟨y0, y1, y2, y3, y4, y5, y6⟩ := HY2.out.cells
  go_wp2_with fail
  refine (HCh.out _ HM2.out).mono ?_
  rintro e w3 ⟨rfl, hm3⟩
  have HM3 := Lib.hid (HM2.out.trans hm3 (fun _ _ h => h))
  have hz3 := hm3.size
  have HB3 := Lib.hid (HB2.out.keep hm3)
  have HY3 := Lib.hid (HY2.out.keep hm3)
  have HR3 := Lib.hid (HR2.out.keep hm3)
  clear hm3 c0 c1 c2 c3 c4 c5 y0 y1 y2 y3 y4 y5 y6
  obtain ⟨c0, c1, c2, c3, c4, c5⟩ := HB3.out.cells
  obtain ⟨y0, y1, y2, y3, y4, y5, y6⟩ := HY3.out.cells
  obtain ⟨b, o, hA, hcs⟩ := (HX.out.at_.keep HM3.out).L.cells (by omega)
  have s0 := (hcs _ z hz).c0
  rw [hA] at c4
  have HA := Lib.hid hA
  clear hcs hA
  clear hz hl hzl h0
  go_wp2_with fail
  go_quiet (fail)
  have hm4 : Mod (fun _ => False) w3 (w3.drewN nq) := (Mod.refl _ w3).drewN nq
  generalize w3.drewN nq = w4 at *
  have HM4 := Lib.hid (HM3.out.trans hm4 (fun _ _ h => h))
  have hz4 := hm4.size
  have HB4 := Lib.hid (HB3.out.keep hm4)
  have HY4 := Lib.hid (HY3.out.keep hm4)
  have HR4 := Lib.hid (HR3.out.keep hm4)
  clear s0
  clear hm4 c0 c1 c2 c3 c4 c5 y0 y1 y2 y3 y4 y5 y6
  obtain ⟨c0, c1, c2, c3, c4, c5⟩ := HB4.out.cells
  obtain ⟨y0, y1, y2, y3, y4, y5, y6⟩ := HY4.out.cells
  rw [HA.out] at c4
  have HS4 : Hid (SrcN w4 (some ⟨b, o, none⟩) x.n 7 (chs x.L)) := by rw [← HA.out]; exact (HX.out.at_.keep HM4.out).L.src
  go_wp2_with (at_builtin; refine Hid.out ?_)
  refine Lib.hid ?_
  refine wpList_appN (.const (.slice none 0 0)) (.tmp 46) chElem rfl rfl rfl rfl (OwN.nil w4 w4.heap.size 30 7) HS4.out (by have := HN.out; omega) (by have := HN.out; unfold maxLen; omega) (Nat.le_refl _) ?_
  intro A1 e1c w5 hO hg _
  rw [Nat.zero_add, List.nil_append] at hO
  rw [Nat.zero_add]
  have hm5 : Mod (fun _ => False) w4 w5 := (Mod.refl _ w4).grown hg (fun k e _ => by simp [blkOf] at e)
  have HO5 := Lib.hid hO
  clear hg hO HS4
  have HM5 := Lib.hid (HM4.out.trans hm5 (fun _ _ h => h))
  have hz5 := hm5.size
  have HB5 := Lib.hid (HB4.out.keep hm5)
  have HY5 := Lib.hid (HY4.out.keep hm5)
  have HR5 := Lib.hid (HR4.out.keep hm5)
  clear hm5 c0 c1 c2 c3 c4 c5 y0 y1 y2 y3 y4 y5 y6
  obtain ⟨c0, c1, c2, c3, c4, c5⟩ := HB5.out.cells
  obtain ⟨y0, y1, y2, y3, y4, y5, y6⟩ := HY5.out.cells
  obtain ⟨w6, hw6⟩ : ∃ w6, w5.alloc (.cells #[.int .i64 y.lsn, .int .i64 y.page, .int .i64 y.key, .bool y.o.is, .slice y.o.B y.o.m y.o.d, .bool y.v.is, .slice y.v.B y.v.m y.v.d] 30) = w6 := ⟨_, rfl⟩
  have hm6 : Mod (fun _ => False) w5 w6 := by rw [← hw6]; exact (Mod.refl _ w5).alloc _
  have HS6 : Hid (SrcN w6 (some ⟨w5.heap.size, 0, none⟩) 1 7 (chc y)) := by rw [← hw6]; exact SrcN.lit w5 (chc y) 30 (by simpa [chs] using chs_one [y])
  have HO6 := Lib.hid (OwN.mod HO5.out hm6 (fun _ _ h => h))
  have HM6 := Lib.hid (HM5.out.trans hm6 (fun _ _ h => h))
  have hz6 := hm6.size
  have HB6 := Lib.hid (HB5.out.keep hm6)
  have HY6 := Lib.hid (HY5.out.keep hm6)
  have HR6 := Lib.hid (HR5.out.keep hm6)
  clear hm6
  go_wp2_with (at_builtin; refine Hid.out ?_)
  refine Lib.hid ?_
  refine wpList_appN (.tmp 48) (.tmp 50) chElem rfl rfl rfl rfl HO6.out HS6.out (by have := HN.out; omega) (by have := HN.out; unfold maxLen; omega) (show w4.heap.size ≤ w6.heap.size by omega) ?_
  intro A2 e2c w7 hO hg _
  have hs7 : Mod (fun k => blkOf A1 = some k) w6 w7 := (Mod.refl _ w6).grown hg (fun k e _ => e)
  have hlo : ∀ k, blkOf A1 = some k → w4.heap.size ≤ k := fun k hk => (OwN.lt HO5.out k hk).1
  have HM7 : Hid (Mod (fun _ => False) w w7) := HM6.out.trans hs7 (fun k _ e => by have := hlo k e; omega)
  have HB7 := Lib.hid (HB6.out.mod hs7 (fun e => by have := hlo _ e; omega))
  have HY7 := Lib.hid (HY6.out.mod hs7 (fun e => by have := hlo _ e; omega))
  have HR7 := Lib.hid (HR6.out.mod hs7 (fun e => by have := hlo _ e; omega))
  have HO7 : Hid (OwC w7 w4.heap.size A2 (x.n + 1) e2c (x.L ++ [y])) := by
    show OwN w7 w4.heap.size 30 7 A2 (x.n + 1) e2c (chs (x.L ++ [y]))
    rw [chs_append]
    simpa [chs] using hO
  have hz7 := hs7.size
  clear hO hg hs7 hlo hw6 c0 c1 c2 c3 c4 c5 y0 y1 y2 y3 y4 y5 y6
  obtain ⟨c0, c1, c2, c3, c4, c5⟩ := HB7.out.cells
  have f4 := HB7.out.fz 4
  obtain ⟨w8, hw8⟩ : ∃ w8, w7.setCell ⟨w.heap.size, 4, none⟩ (.slice A2 (x.n + 1) e2c) = w8 := ⟨_, rfl⟩
  have hs8 : Mod (fun k => k = w.heap.size) w7 w8 := by rw [← hw8]; exact (Mod.refl (fun k => k = w.heap.size) w7).one (fun _ => rfl) _ _
  have HM8 : Hid (Mod (fun _ => False) w w8) := HM7.out.trans hs8 (fun k _ e => by omega)
  have hz8 := hs8.size
  have HB8 : Hid ((⟨x.id, x.st, x.f, x.l, A2, x.n + 1, e2c, x.L ++ [y], x.B, x.m, x.d, x.S⟩ : TxD).In w8 (w.heap.size)) := by rw [← hw8]; exact heap_set HB7.out 4 (.slice A2 (x.n + 1) e2c)
  have HY8 := Lib.hid (HY7.out.mod hs8 (fun e => by omega))
  have HR8 := Lib.hid (HR7.out.mod hs8 (fun e => by omega))
  have HO8 := Lib.hid (OwN.mod HO7.out hs8 (fun k hk e => by have := (OwN.lt HO7.out k hk).1; omega))
  clear hs8
  obtain ⟨m0, m1, m2, m3, m4, m5⟩ := HB8.out.cells
  obtain ⟨y0, y1, y2, y3, y4, y5, y6⟩ := HY8.out.cells
  have h3 := HB8.out.fz 3
  obtain ⟨w9, hw9⟩ : ∃ w9, w8.setCell ⟨w.heap.size, 3, none⟩ (.int .i64 y.lsn) = w9 := ⟨_, rfl⟩
  have hs9 : Mod (fun k => k = w.heap.size) w8 w9 := by rw [← hw9]; exact (Mod.refl (fun k => k = w.heap.size) w8).one (fun _ => rfl) _ _
  have HM9 : Hid (Mod (fun _ => False) w w9) := HM8.out.trans hs9 (fun k _ e => by omega)
  have hz9 := hs9.size
  have HB9 : Hid ((⟨x.id, x.st, x.f, y.lsn, A2, x.n + 1, e2c, x.L ++ [y], x.B, x.m, x.d, x.S⟩ : TxD).In w9 (w.heap.size)) := by rw [← hw9]; exact heap_set HB8.out 3 (.int .i64 y.lsn)
  have HY9 := Lib.hid (HY8.out.mod hs9 (fun e => by omega))
  have HR9 := Lib.hid (HR8.out.mod hs9 (fun e => by omega))
  have HO9 := Lib.hid (OwN.mod HO8.out hs9 (fun k hk e => by have := (OwN.lt HO7.out k hk).1; omega))
  clear hs9
  obtain ⟨d0, d1, d2, d3, d4, d5⟩ := HB9.out.cells
  obtain ⟨z0, z1, z2, z3, z4, z5, z6⟩ := HY9.out.cells
  have k2 := HB9.out.fz 2
  by_cases hf : x.f = 0
  · have hfd : (x.f == 0) = true := by simp [hf]
    have Hf := Lib.hid hf
    clear hf
    obtain ⟨w10, hw10⟩ : ∃ w10, w9.setCell ⟨w.heap.size, 2, none⟩ (.int .i64 y.lsn) = w10 := ⟨_, rfl⟩
    have hs10 : Mod (fun k => k = w.heap.size) w9 w10 := by rw [← hw10]; exact (Mod.refl (fun k => k = w.heap.size) w9).one (fun _ => rfl) _ _
    have HM10 : Hid (Mod (fun _ => False) w w10) := HM9.out.trans hs10 (fun k _ e => by omega)
    have hz10 := hs10.size
    have HB10 : Hid ((⟨x.id, x.st, y.lsn, y.lsn, A2, x.n + 1, e2c, x.L ++ [y], x.B, x.m, x.d, x.S⟩ : TxD).In w10 (w.heap.size)) := by rw [← hw10]; exact heap_set HB9.out 2 (.int .i64 y.lsn)
    have HY10 := Lib.hid (HY9.out.mod hs10 (fun e => by omega))
    have HR10 := Lib.hid (HR9.out.mod hs10 (fun e => by omega))
    have HO10 := Lib.hid (OwN.mod HO9.out hs10 (fun k hk e => by have := (OwN.lt HO7.out k hk).1; omega))
    clear hs10
    obtain ⟨p0, p1, p2, p3, p4, p5⟩ := HB10.out.cells
    obtain ⟨r0, r1, r2, r3, r4, r5⟩ : w10.cell? ⟨w.heap.size + 2, 0, none⟩ = some (.int .i64 0) ∧ w10.cell? ⟨w.heap.size + 2, 1, none⟩ = some (.int .i64 0) ∧ w10.cell? ⟨w.heap.size + 2, 2, none⟩ = some (.int .i64 0) ∧ w10.cell? ⟨w.heap.size + 2, 3, none⟩ = some (.int .i64 0) ∧ w10.cell? ⟨w.heap.size + 2, 4, none⟩ = some (.slice none 0 0) ∧ w10.cell? ⟨w.heap.size + 2, 5, none⟩ = some (.slice none 0 0) := HR10.out.cells
    have g0 := HR10.out.fz 0
    have g1 := HR10.out.fz 1
    have g2 := HR10.out.fz 2
    have g3 := HR10.out.fz 3
    have g4 := HR10.out.fz 4
    have g5 := HR10.out.fz 5
    obtain ⟨w11, hw11⟩ : ∃ w11, (((((w10.setCell ⟨w.heap.size + 2, 0, none⟩ (.int .i64 x.id)).setCell ⟨w.heap.size + 2, 1, none⟩ (.int .i64 x.st)).setCell ⟨w.heap.size + 2, 2, none⟩ (.int .i64 y.lsn)).setCell ⟨w.heap.size + 2, 3, none⟩ (.int .i64 y.lsn)).setCell ⟨w.heap.size + 2, 4, none⟩ (.slice A2 (x.n + 1) e2c)).setCell ⟨w.heap.size + 2, 5, none⟩ (.slice x.B x.m x.d) = w11 := ⟨_, rfl⟩
    have hq11 : stT w10 (w.heap.size + 2) ⟨x.id, x.st, y.lsn, y.lsn, A2, x.n + 1, e2c, x.L ++ [y], x.B, x.m, x.d, x.S⟩ = w11 := hw11
    have hs11 : Mod (fun k => k = w.heap.size + 2) w10 w11 := by rw [← hq11]; exact stT_mod w10 (w.heap.size + 2) ⟨x.id, x.st, y.lsn, y.lsn, A2, x.n + 1, e2c, x.L ++ [y], x.B, x.m, x.d, x.S⟩
    have HM11 : Hid (Mod (fun _ => False) w w11) := HM10.out.trans hs11 (fun k _ e => by omega)
    have hz11 := hs11.size
    have HB11 := Lib.hid (HB10.out.mod hs11 (fun e => by omega))
    have HY11 := Lib.hid (HY10.out.mod hs11 (fun e => by omega))
    have HR11 : Hid ((⟨x.id, x.st, y.lsn, y.lsn, A2, x.n + 1, e2c, x.L ++ [y], x.B, x.m, x.d, x.S⟩ : TxD).In w11 (w.heap.size + 2)) := by rw [← hq11]; exact HR10.out.set ⟨x.id, x.st, y.lsn, y.lsn, A2, x.n + 1, e2c, x.L ++ [y], x.B, x.m, x.d, x.S⟩
    clear hq11
    have hsR := hs11
    clear hs11
    have HW := Lib.hid hw11
    clear hw11
    go_wp2
    rw [HW.out]
    clear hw8 hw9 hw10 hfd p0 p1 p2 p3 p4 p5 f4 h3 k2 m0 m1 m2 m3 m4 m5 c0 c1 c2 c3 c4 c5 d0 d1 d2 d3 d4 d5 y0 y1 y2 y3 y4 y5 y6 z0 z1 z2 z3 z4 z5 z6 r0 r1 r2 r3 r4 r5 g0 g1 g2 g3 g4 g5
    obtain ⟨q0, q1, q2, q3, q4, q5⟩ : w11.cell? ⟨w.heap.size + 2, 0, none⟩ = some (.int .i64 x.id) ∧ w11.cell? ⟨w.heap.size + 2, 1, none⟩ = some (.int .i64 x.st) ∧ w11.cell? ⟨w.heap.size + 2, 2, none⟩ = some (.int .i64 y.lsn) ∧ w11.cell? ⟨w.heap.size + 2, 3, none⟩ = some (.int .i64 y.lsn) ∧ w11.cell? ⟨w.heap.size + 2, 4, none⟩ = some (.slice A2 (x.n + 1) e2c) ∧ w11.cell? ⟨w.heap.size + 2, 5, none⟩ = some (.slice x.B x.m x.d) := HR11.out.cells
    refine bodyPost_ret (v := .tuple #[.agg #[.int .i64 x.id, .int .i64 x.st, .int .i64 y.lsn, .int .i64 y.lsn, .slice A2 (x.n + 1) e2c, .slice x.B x.m x.d], .int .i64 0]) (by simp [results, Try.results13, go_sem, q0, q1, q2, q3, q4, q5]) rfl ?_
    have hxs := (HX.out.keep HM11.out)
    have hO := OwN.mod HO10.out hsR (fun k hk e => by have := (OwN.lt HO7.out k hk).1; omega)
    refine ⟨⟨x.id, x.st, y.lsn, y.lsn, A2, x.n + 1, e2c, x.L ++ [y], x.B, x.m, x.d, x.S⟩, by rw [HE0.out], hxs.withL (OwC.cs hO (fun u hu => ?_)) _ _, ?_, HM11.out⟩
    · rcases List.mem_append.1 hu with hu | hu
      · exact hxs.at_.L.ats u hu
      · obtain rfl : u = y := by simpa using hu
        exact HY.out.keep HM11.out
    · rw [HE0.out, if_pos rfl]
      show (⟨x.id, x.st, _, y.lsn, pc (x.L ++ [y]), x.S⟩ : Tp) = ⟨x.id, x.st, if x.f = 0 then y.lsn else x.f, y.lsn, pc x.L ++ [y.p], x.S⟩
      rw [if_pos Hf.out, pc, List.map_append]
      rfl
  · have hfd : (x.f == 0) = false := by simpa using hf
    have Hf := Lib.hid hf
    clear hf
    obtain ⟨r0, r1, r2, r3, r4, r5⟩ : w9.cell? ⟨w.heap.size + 2, 0, none⟩ = some (.int .i64 0) ∧ w9.cell? ⟨w.heap.size + 2, 1, none⟩ = some (.int .i64 0) ∧ w9.cell? ⟨w.heap.size + 2, 2, none⟩ = some (.int .i64 0) ∧ w9.cell? ⟨w.heap.size + 2, 3, none⟩ = some (.int .i64 0) ∧ w9.cell? ⟨w.heap.size + 2, 4, none⟩ = some (.slice none 0 0) ∧ w9.cell? ⟨w.heap.size + 2, 5, none⟩ = some (.slice none 0 0) := HR9.out.cells
    have g0 := HR9.out.fz 0
    have g1 := HR9.out.fz 1
    have g2 := HR9.out.fz 2
    have g3 := HR9.out.fz 3
    have g4 := HR9.out.fz 4
    have g5 := HR9.out.fz 5
    obtain ⟨w10, hw10⟩ : ∃ w10, (((((w9.setCell ⟨w.heap.size + 2, 0, none⟩ (.int .i64 x.id)).setCell ⟨w.heap.size + 2, 1, none⟩ (.int .i64 x.st)).setCell ⟨w.heap.size + 2, 2, none⟩ (.int .i64 x.f)).setCell ⟨w.heap.size + 2, 3, none⟩ (.int .i64 y.lsn)).setCell ⟨w.heap.size + 2, 4, none⟩ (.slice A2 (x.n + 1) e2c)).setCell ⟨w.heap.size + 2, 5, none⟩ (.slice x.B x.m x.d) = w10 := ⟨_, rfl⟩
    have hq10 : stT w9 (w.heap.size + 2) ⟨x.id, x.st, x.f, y.lsn, A2, x.n + 1, e2c, x.L ++ [y], x.B, x.m, x.d, x.S⟩ = w10 := hw10
    have hs10 : Mod (fun k => k = w.heap.size + 2) w9 w10 := by rw [← hq10]; exact stT_mod w9 (w.heap.size + 2) ⟨x.id, x.st, x.f, y.lsn, A2, x.n + 1, e2c, x.L ++ [y], x.B, x.m, x.d, x.S⟩
    have HM10 : Hid (Mod (fun _ => False) w w10) := HM9.out.trans hs10 (fun k _ e => by omega)
    have hz10 := hs10.size
    have HB10 := Lib.hid (HB9.out.mod hs10 (fun e => by omega))
    have HY10 := Lib.hid (HY9.out.mod hs10 (fun e => by omega))
    have HR10 : Hid ((⟨x.id, x.st, x.f, y.lsn, A2, x.n + 1, e2c, x.L ++ [y], x.B, x.m, x.d, x.S⟩ : TxD).In w10 (w.heap.size + 2)) := by rw [← hq10]; exact HR9.out.set ⟨x.id, x.st, x.f, y.lsn, A2, x.n + 1, e2c, x.L ++ [y], x.B, x.m, x.d, x.S⟩
    clear hq10
    have hsR := hs10
    clear hs10
    have HW := Lib.hid hw10
    clear hw10
    go_wp2
    rw [HW.out]
    clear hw8 hw9 hfd f4 h3 k2 m0 m1 m2 m3 m4 m5 c0 c1 c2 c3 c4 c5 d0 d1 d2 d3 d4 d5 y0 y1 y2 y3 y4 y5 y6 z0 z1 z2 z3 z4 z5 z6 r0 r1 r2 r3 r4 r5 g0 g1 g2 g3 g4 g5
    obtain ⟨q0, q1, q2, q3, q4, q5⟩ : w10.cell? ⟨w.heap.size + 2, 0, none⟩ = some (.int .i64 x.id) ∧ w10.cell? ⟨w.heap.size + 2, 1, none⟩ = some (.int .i64 x.st) ∧ w10.cell? ⟨w.heap.size + 2, 2, none⟩ = some (.int .i64 x.f) ∧ w10.cell? ⟨w.heap.size + 2, 3, none⟩ = some (.int .i64 y.lsn) ∧ w10.cell? ⟨w.heap.size + 2, 4, none⟩ = some (.slice A2 (x.n + 1) e2c) ∧ w10.cell? ⟨w.heap.size + 2, 5, none⟩ = some (.slice x.B x.m x.d) := HR10.out.cells
    refine bodyPost_ret (v := .tuple #[.agg #[.int .i64 x.id, .int .i64 x.st, .int .i64 x.f, .int .i64 y.lsn, .slice A2 (x.n + 1) e2c, .slice x.B x.m x.d], .int .i64 0]) (by simp [results, Try.results13, go_sem, q0, q1, q2, q3, q4, q5]) rfl ?_
    have hxs := (HX.out.keep HM10.out)
    have hO := OwN.mod HO9.out hsR (fun k hk e => by have := (OwN.lt HO7.out k hk).1; omega)
    refine ⟨⟨x.id, x.st, x.f, y.lsn, A2, x.n + 1, e2c, x.L ++ [y], x.B, x.m, x.d, x.S⟩, by rw [HE0.out], hxs.withL (OwC.cs hO (fun u hu => ?_)) _ _, ?_, HM10.out⟩
    · rcases List.mem_append.1 hu with hu | hu
      · exact hxs.at_.L.ats u hu
      · obtain rfl : u = y := by simpa using hu
        exact HY.out.keep HM10.out
    · rw [HE0.out, if_pos rfl]
      show (⟨x.id, x.st, _, y.lsn, pc (x.L ++ [y]), x.S⟩ : Tp) = ⟨x.id, x.st, if x.f = 0 then y.lsn else x.f, y.lsn, pc x.L ++ [y.p], x.S⟩
      rw [if_neg Hf.out, pc, List.map_append]
      rfl
theorem rnote_ok (b0 : Nat) (w : World) (x : TxD) (y : ChD) (h : Kp b0 w x) (hy : y.At w) (hn : x.n ≤ 1000) :
    Calls Try.prog 13 #[.agg #[.int .i64 x.id, .int .i64 x.st, .int .i64 x.f, .int .i64 x.l, .slice x.A x.n x.c, .slice x.B x.m x.d], .agg #[.int .i64 y.lsn, .int .i64 y.page, .int .i64 y.key, .bool y.o.is, .slice y.o.B y.o.m y.o.d, .bool y.v.is, .slice y.v.B y.v.m y.v.d]] w fun e w' => RnAns b0 w w' (noteE x.p y.p) (noteT x.p y.p) e := by
  cases hb1 : mayT x.p with
  | false => exact rnote_no1 b0 w x y h hy hn hb1
  | true =>
    have h6' : x.n ≤ 6 := by have := (may_len hb1).1; rwa [h.at_.nL] at this
    cases hb2 : cB y.p with
    | false => exact rnote_no2 b0 w x y h hy hn hb1 hb2
    | true =>
      by_cases h0 : x.n = 0
      · exact rnote_yes0 b0 w x y h hy hn hb1 hb2 (by omega) h6' h0
      · by_cases hl : (atC (pc x.L) (x.n - 1)).lsn < y.lsn
        · by_cases h6 : x.n = 6
          · exact rnote_full b0 w x y h hy hn hb1 hb2 h6 h0 hl
          · exact rnote_yes1 b0 w x y h hy hn hb1 hb2 h6 h6' h0 hl
        · exact rnote_no3 b0 w x y h hy hn hb1 hb2 h0 hl
end Go.Proofs.Ytidcmolkolcliaa
