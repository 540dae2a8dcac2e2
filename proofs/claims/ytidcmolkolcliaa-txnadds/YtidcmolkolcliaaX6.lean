/-
  Package txn: New, Note.
-/
import Derived.Test.YtidcmolkolcliaaXKp
namespace Go.Proofs.Ytidcmolkolcliaa
open Go Go.RowKit

theorem newT_may (i : Int) : mayT (newT i) = inB i 1 255 := by
  unfold newT mayT
  have h1 : inB 1 1 3 = true := by decide
  have h2 : inB 0 0 4294967295 = true := by decide
  simp [h1, h2, cL, sL]
set_option maxRecDepth 100000 in
set_option maxHeartbeats 3200000 in
theorem new_ok (w : World) (i : Int) : Calls Try.prog 29 #[.int .i64 i] w fun e w' => NwAns w w' (newE i) (newT i) e := by
  obtain ⟨w1, hw1⟩ : ∃ w1, w.alloc (.cells #[.int .i64 0, .int .i64 0, .int .i64 0, .int .i64 0, .slice none 0 0, .slice none 0 0] 25) = w1 := ⟨_, rfl⟩
  have HR1 : Hid ((TxD.zero : TxD).In w1 (w.heap.size)) := by
    rw [← hw1]
    have q := TxD.In.new (w) (TxD.zero)
    exact q.keep (Mod.refl (fun _ => False) _)
  have HM1 : Hid (Mod (fun _ => False) w w1) := by rw [← hw1]; exact (Mod.refl (fun _ => False) w).alloc _
  have hz1 : w.heap.size + 1 ≤ w1.heap.size := by rw [← hw1]; simp
  obtain ⟨w2, hw2⟩ : ∃ w2, w1.alloc (.cells #[.int .i64 i, .int .i64 1, .int .i64 0, .int .i64 0, .slice none 0 0, .slice none 0 0] 25) = w2 := ⟨_, rfl⟩
  have hm2 : Mod (fun _ => False) w1 w2 := by rw [← hw2]; exact (Mod.refl _ w1).alloc _
  have HN2 : Hid ((⟨i, 1, 0, 0, none, 0, 0, [], none, 0, 0, []⟩ : TxD).In w2 w1.heap.size) := by rw [← hw2]; exact TxD.In.new w1 ⟨i, 1, 0, 0, none, 0, 0, [], none, 0, 0, []⟩
  have HW2 := Lib.hid hw2
  clear hw2
  have HM2 := Lib.hid (HM1.out.trans hm2 (fun _ _ h => h))
  have hz2 := hm2.size
  have HR2 := Lib.hid (HR1.out.keep hm2)
  clear hm2
  have HMay := Lib.hid (may_ok w2 ⟨i, 1, 0, 0, none, 0, 0, [], none, 0, 0, []⟩ ⟨Cs.nil _ _ _, Il.nil _ _ _⟩ (by show 0 ≤ 1000; omega) (by show 0 ≤ 1000; omega))
  have hp : (⟨i, 1, 0, 0, none, 0, 0, [], none, 0, 0, []⟩ : TxD).p = newT i := rfl
  rw [hp, newT_may] at HMay
  clear hp
  generalize hb : inB i 1 255 = b at *
  have HE : Hid (newE i = if b then 0 else 1) := by rw [← hb]; exact rfl
  clear hb
  cases b with
  | false =>
    go_enter Try.func29, Try.ntmps29
    go_wp2_with fail
    rw [HW2.out]
    refine HMay.out.mono ?_
    rintro e w3 ⟨rfl, hm3⟩
    have HN3 := Lib.hid (HN2.out.keep hm3)
    have HM3 := Lib.hid (HM2.out.trans hm3 (fun _ _ h => h))
    have hz3 := hm3.size
    have HR3 := Lib.hid (HR2.out.keep hm3)
    clear hm3 hw1
    obtain ⟨n0, n1, n2, n3, n4, n5⟩ := HN3.out.cells
    obtain ⟨r0, r1, r2, r3, r4, r5⟩ := HR3.out.cells
    have g0 := HR3.out.fz 0
    have g1 := HR3.out.fz 1
    have g2 := HR3.out.fz 2
    have g3 := HR3.out.fz 3
    have g4 := HR3.out.fz 4
    have g5 := HR3.out.fz 5
    obtain ⟨w4, hw4⟩ : ∃ w4, (((((w3.setCell ⟨w.heap.size, 0, none⟩ (.int .i64 0)).setCell ⟨w.heap.size, 1, none⟩ (.int .i64 0)).setCell ⟨w.heap.size, 2, none⟩ (.int .i64 0)).setCell ⟨w.heap.size, 3, none⟩ (.int .i64 0)).setCell ⟨w.heap.size, 4, none⟩ (.slice none 0 0)).setCell ⟨w.heap.size, 5, none⟩ (.slice none 0 0) = w4 := ⟨_, rfl⟩
    have hq4 : stT w3 (w.heap.size) TxD.zero = w4 := hw4
    have hs4 : Mod (fun k => k = w.heap.size) w3 w4 := by rw [← hq4]; exact stT_mod w3 (w.heap.size) TxD.zero
    have HM4 : Hid (Mod (fun _ => False) w w4) := HM3.out.trans hs4 (fun k _ e => by omega)
    have hz4 := hs4.size
    have HR4 : Hid ((TxD.zero : TxD).In w4 (w.heap.size)) := by rw [← hq4]; exact HR3.out.set TxD.zero
    clear hq4
    clear hs4
    have HW := Lib.hid hw4
    clear hw4
    go_wp2
    rw [HW.out]
    clear n0 n1 n2 n3 n4 n5 r0 r1 r2 r3 r4 r5 g0 g1 g2 g3 g4 g5
    obtain ⟨q0, q1, q2, q3, q4, q5⟩ : w4.cell? ⟨w.heap.size, 0, none⟩ = some (.int .i64 0) ∧ w4.cell? ⟨w.heap.size, 1, none⟩ = some (.int .i64 0) ∧ w4.cell? ⟨w.heap.size, 2, none⟩ = some (.int .i64 0) ∧ w4.cell? ⟨w.heap.size, 3, none⟩ = some (.int .i64 0) ∧ w4.cell? ⟨w.heap.size, 4, none⟩ = some (.slice none 0 0) ∧ w4.cell? ⟨w.heap.size, 5, none⟩ = some (.slice none 0 0) := HR4.out.cells
    refine bodyPost_ret (v := .tuple #[.agg #[.int .i64 0, .int .i64 0, .int .i64 0, .int .i64 0, .slice none 0 0, .slice none 0 0], .int .i64 1]) (by simp [results, Try.results29, go_sem, q0, q1, q2, q3, q4, q5]) rfl ?_
    exact ⟨TxD.zero, by rw [HE.out]; rfl, TxD.zero_own _ _, by rw [HE.out]; rfl, HM4.out⟩
  | true =>
    go_enter Try.func29, Try.ntmps29
    go_wp2_with fail
    rw [HW2.out]
    refine HMay.out.mono ?_
    rintro e w3 ⟨rfl, hm3⟩
    have HN3 := Lib.hid (HN2.out.keep hm3)
    have HM3 := Lib.hid (HM2.out.trans hm3 (fun _ _ h => h))
    have hz3 := hm3.size
    have HR3 := Lib.hid (HR2.out.keep hm3)
    clear hm3 hw1
    obtain ⟨n0, n1, n2, n3, n4, n5⟩ := HN3.out.cells
    obtain ⟨r0, r1, r2, r3, r4, r5⟩ := HR3.out.cells
    have g0 := HR3.out.fz 0
    have g1 := HR3.out.fz 1
    have g2 := HR3.out.fz 2
    have g3 := HR3.out.fz 3
    have g4 := HR3.out.fz 4
    have g5 := HR3.out.fz 5
    obtain ⟨w4, hw4⟩ : ∃ w4, (((((w3.setCell ⟨w.heap.size, 0, none⟩ (.int .i64 i)).setCell ⟨w.heap.size, 1, none⟩ (.int .i64 1)).setCell ⟨w.heap.size, 2, none⟩ (.int .i64 0)).setCell ⟨w.heap.size, 3, none⟩ (.int .i64 0)).setCell ⟨w.heap.size, 4, none⟩ (.slice none 0 0)).setCell ⟨w.heap.size, 5, none⟩ (.slice none 0 0) = w4 := ⟨_, rfl⟩
    have hq4 : stT w3 (w.heap.size) ⟨i, 1, 0, 0, none, 0, 0, [], none, 0, 0, []⟩ = w4 := hw4
    have hs4 : Mod (fun k => k = w.heap.size) w3 w4 := by rw [← hq4]; exact stT_mod w3 (w.heap.size) ⟨i, 1, 0, 0, none, 0, 0, [], none, 0, 0, []⟩
    have HM4 : Hid (Mod (fun _ => False) w w4) := HM3.out.trans hs4 (fun k _ e => by omega)
    have hz4 := hs4.size
    have HR4 : Hid ((⟨i, 1, 0, 0, none, 0, 0, [], none, 0, 0, []⟩ : TxD).In w4 (w.heap.size)) := by rw [← hq4]; exact HR3.out.set ⟨i, 1, 0, 0, none, 0, 0, [], none, 0, 0, []⟩
    clear hq4
    clear hs4
    have HW := Lib.hid hw4
    clear hw4
    go_wp2
    rw [HW.out]
    clear n0 n1 n2 n3 n4 n5 r0 r1 r2 r3 r4 r5 g0 g1 g2 g3 g4 g5
    obtain ⟨q0, q1, q2, q3, q4, q5⟩ : w4.cell? ⟨w.heap.size, 0, none⟩ = some (.int .i64 i) ∧ w4.cell? ⟨w.heap.size, 1, none⟩ = some (.int .i64 1) ∧ w4.cell? ⟨w.heap.size, 2, none⟩ = some (.int .i64 0) ∧ w4.cell? ⟨w.heap.size, 3, none⟩ = some (.int .i64 0) ∧ w4.cell? ⟨w.heap.size, 4, none⟩ = some (.slice none 0 0) ∧ w4.cell? ⟨w.heap.size, 5, none⟩ = some (.slice none 0 0) := HR4.out.cells
    refine bodyPost_ret (v := .tuple #[.agg #[.int .i64 i, .int .i64 1, .int .i64 0, .int .i64 0, .slice none 0 0, .slice none 0 0], .int .i64 0]) (by simp [results, Try.results29, go_sem, q0, q1, q2, q3, q4, q5]) rfl ?_
    exact ⟨⟨i, 1, 0, 0, none, 0, 0, [], none, 0, 0, []⟩, by rw [HE.out]; rfl, ⟨OwN.nil _ _ _ _, fun y hy => absurd hy (by simp), OwV.nil _ _ _⟩, by rw [HE.out]; rfl, HM4.out⟩
set_option maxRecDepth 100000 in
set_option maxHeartbeats 3200000 in
theorem note_no1 (w : World) (x : TxD) (y : ChD) (h : x.At w) (hy : y.At w) (hn : x.n ≤ 1000) (hm : x.m ≤ 1000) (hb1 : mayT x.p = false) :
    Calls Try.prog 12 #[.agg #[.int .i64 x.id, .int .i64 x.st, .int .i64 x.f, .int .i64 x.l, .slice x.A x.n x.c, .slice x.B x.m x.d], .agg #[.int .i64 y.lsn, .int .i64 y.page, .int .i64 y.key, .bool y.o.is, .slice y.o.B y.o.m y.o.d, .bool y.v.is, .slice y.v.B y.v.m y.v.d]] w fun e w' => NwAns w w' (noteE x.p y.p) (noteT x.p y.p) e := by
  obtain ⟨w1, hw1⟩ : ∃ w1, ((w.alloc (.cells #[.int .i64 x.id, .int .i64 x.st, .int .i64 x.f, .int .i64 x.l, .slice x.A x.n x.c, .slice x.B x.m x.d] 25)).alloc (.cells #[.int .i64 y.lsn, .int .i64 y.page, .int .i64 y.key, .bool y.o.is, .slice y.o.B y.o.m y.o.d, .bool y.v.is, .slice y.v.B y.v.m y.v.d] 30)).alloc (.cells #[.int .i64 0, .int .i64 0, .int .i64 0, .int .i64 0, .slice none 0 0, .slice none 0 0] 25) = w1 := ⟨_, rfl⟩
  have HB1 : Hid ((x : TxD).In w1 (w.heap.size)) := by
    rw [← hw1]
    have q := TxD.In.new (w) (x)
    exact q.keep (((Mod.refl (fun _ => False) _).alloc _).alloc _)
  have HY1 : Hid ((y : ChD).In w1 (w.heap.size + 1)) := by
    rw [← hw1]
    have q := ChD.In.new (w.alloc (.cells #[.int .i64 x.id, .int .i64 x.st, .int .i64 x.f, .int .i64 x.l, .slice x.A x.n x.c, .slice x.B x.m x.d] 25)) (y)
    simp only [World.size_alloc] at q
    exact q.keep ((Mod.refl (fun _ => False) _).alloc _)
  have HR1 : Hid ((TxD.zero : TxD).In w1 (w.heap.size + 2)) := by
    rw [← hw1]
    have q := TxD.In.new ((w.alloc (.cells #[.int .i64 x.id, .int .i64 x.st, .int .i64 x.f, .int .i64 x.l, .slice x.A x.n x.c, .slice x.B x.m x.d] 25)).alloc (.cells #[.int .i64 y.lsn, .int .i64 y.page, .int .i64 y.key, .bool y.o.is, .slice y.o.B y.o.m y.o.d, .bool y.v.is, .slice y.v.B y.v.m y.v.d] 30)) (TxD.zero)
    simp only [World.size_alloc] at q
    exact q.keep (Mod.refl (fun _ => False) _)
  have HM1 : Hid (Mod (fun _ => False) w w1) := by rw [← hw1]; exact (((Mod.refl (fun _ => False) w).alloc _).alloc _).alloc _
  have hz1 : w.heap.size + 3 ≤ w1.heap.size := by rw [← hw1]; simp
  obtain ⟨c0, c1, c2, c3, c4, c5⟩ := HB1.out.cells
  obtain ⟨y0, y1, y2, y3, y4, y5, y6⟩ := HY1.out.cells
  have HMay := Lib.hid (fun V (hV : Mod (fun _ => False) w V) => may_ok V x (h.keep hV) hn hm)
  have HFol := Lib.hid (fun V (hV : Mod (fun _ => False) w V) => mayFollow_ok V x.A x.n x.c x.L (h.keep hV).L hn y (hy.keep hV))
  have HX := Lib.hid h
  have HY := Lib.hid hy
  have HN := Lib.hid hn
  have HM := Lib.hid hm
  have Hsm := Lib.hid h.small
  have Hsy : Hid (folB (pc x.L) y.p = true → y.o.m ≤ 1000 ∧ y.v.m ≤ 1000) := fun hf => hy.small hf
  have HE : Hid (noteE x.p y.p = if mayT x.p && folB (pc x.L) y.p then (if x.n = 6 then 4 else 0) else 1) := by unfold noteE; rw [h.nL]; rfl
  clear h hy hn hm
  clear Hsy HFol HY HX HN HM
  rw [hb1] at HMay HE Hsm
  clear hb1
  clear Hsm
  go_enter Try.func12, Try.ntmps12
  go_wp2_with fail
  refine (HMay.out _ HM1.out).mono ?_
  rintro e w2 ⟨rfl, hm2⟩
  have HM2 := Lib.hid (HM1.out.trans hm2 (fun _ _ h => h))
  have hz2 := hm2.size
  have HB2 := Lib.hid (HB1.out.keep hm2)
  have HY2 := Lib.hid (HY1.out.keep hm2)
  have HR2 := Lib.hid (HR1.out.keep hm2)
  clear hm2
  clear hw1 c0 c1 c2 c3 c4 c5 y0 y1 y2 y3 y4 y5 y6
  obtain ⟨c0, c1, c2, c3, c4, c5⟩ := HB2.out.cells
  obtain ⟨y0, y1, y2, y3, y4, y5, y6⟩ := HY2.out.cells
  obtain ⟨r0, r1, r2, r3, r4, r5⟩ := HR2.out.cells
  have g0 := HR2.out.fz 0
  have g1 := HR2.out.fz 1
  have g2 := HR2.out.fz 2
  have g3 := HR2.out.fz 3
  have g4 := HR2.out.fz 4
  have g5 := HR2.out.fz 5
  obtain ⟨w3, hw3⟩ : ∃ w3, (((((w2.setCell ⟨w.heap.size + 2, 0, none⟩ (.int .i64 0)).setCell ⟨w.heap.size + 2, 1, none⟩ (.int .i64 0)).setCell ⟨w.heap.size + 2, 2, none⟩ (.int .i64 0)).setCell ⟨w.heap.size + 2, 3, none⟩ (.int .i64 0)).setCell ⟨w.heap.size + 2, 4, none⟩ (.slice none 0 0)).setCell ⟨w.heap.size + 2, 5, none⟩ (.slice none 0 0) = w3 := ⟨_, rfl⟩
  have hq3 : stT w2 (w.heap.size + 2) TxD.zero = w3 := hw3
  have hs3 : Mod (fun k => k = w.heap.size + 2) w2 w3 := by rw [← hq3]; exact stT_mod w2 (w.heap.size + 2) TxD.zero
  have HM3 : Hid (Mod (fun _ => False) w w3) := HM2.out.trans hs3 (fun k _ e => by omega)
  have hz3 := hs3.size
  have HB3 := Lib.hid (HB2.out.mod hs3 (fun e => by omega))
  have HY3 := Lib.hid (HY2.out.mod hs3 (fun e => by omega))
  have HR3 : Hid ((TxD.zero : TxD).In w3 (w.heap.size + 2)) := by rw [← hq3]; exact HR2.out.set TxD.zero
  clear hq3
  clear hs3
  have HW := Lib.hid hw3
  clear hw3
  go_wp2
  rw [HW.out]
  clear c0 c1 c2 c3 c4 c5 y0 y1 y2 y3 y4 y5 y6 r0 r1 r2 r3 r4 r5 g0 g1 g2 g3 g4 g5
  obtain ⟨q0, q1, q2, q3, q4, q5⟩ : w3.cell? ⟨w.heap.size + 2, 0, none⟩ = some (.int .i64 0) ∧ w3.cell? ⟨w.heap.size + 2, 1, none⟩ = some (.int .i64 0) ∧ w3.cell? ⟨w.heap.size + 2, 2, none⟩ = some (.int .i64 0) ∧ w3.cell? ⟨w.heap.size + 2, 3, none⟩ = some (.int .i64 0) ∧ w3.cell? ⟨w.heap.size + 2, 4, none⟩ = some (.slice none 0 0) ∧ w3.cell? ⟨w.heap.size + 2, 5, none⟩ = some (.slice none 0 0) := HR3.out.cells
  refine bodyPost_ret (v := .tuple #[.agg #[.int .i64 0, .int .i64 0, .int .i64 0, .int .i64 0, .slice none 0 0, .slice none 0 0], .int .i64 1]) (by simp [results, Try.results12, go_sem, q0, q1, q2, q3, q4, q5]) rfl ?_
  exact ⟨TxD.zero, by rw [HE.out]; rfl, TxD.zero_own _ _, by rw [HE.out]; rfl, HM3.out⟩
set_option maxRecDepth 100000 in
set_option maxHeartbeats 3200000 in
theorem note_no2 (w : World) (x : TxD) (y : ChD) (h : x.At w) (hy : y.At w) (hn : x.n ≤ 1000) (hm : x.m ≤ 1000) (hb1 : mayT x.p = true) (hb2 : folB (pc x.L) y.p = false) :
    Calls Try.prog 12 #[.agg #[.int .i64 x.id, .int .i64 x.st, .int .i64 x.f, .int .i64 x.l, .slice x.A x.n x.c, .slice x.B x.m x.d], .agg #[.int .i64 y.lsn, .int .i64 y.page, .int .i64 y.key, .bool y.o.is, .slice y.o.B y.o.m y.o.d, .bool y.v.is, .slice y.v.B y.v.m y.v.d]] w fun e w' => NwAns w w' (noteE x.p y.p) (noteT x.p y.p) e := by
  obtain ⟨w1, hw1⟩ : ∃ w1, ((w.alloc (.cells #[.int .i64 x.id, .int .i64 x.st, .int .i64 x.f, .int .i64 x.l, .slice x.A x.n x.c, .slice x.B x.m x.d] 25)).alloc (.cells #[.int .i64 y.lsn, .int .i64 y.page, .int .i64 y.key, .bool y.o.is, .slice y.o.B y.o.m y.o.d, .bool y.v.is, .slice y.v.B y.v.m y.v.d] 30)).alloc (.cells #[.int .i64 0, .int .i64 0, .int .i64 0, .int .i64 0, .slice none 0 0, .slice none 0 0] 25) = w1 := ⟨_, rfl⟩
  have HB1 : Hid ((x : TxD).In w1 (w.heap.size)) := by
    rw [← hw1]
    have q := TxD.In.new (w) (x)
    exact q.keep (((Mod.refl (fun _ => False) _).alloc _).alloc _)
  have HY1 : Hid ((y : ChD).In w1 (w.heap.size + 1)) := by
    rw [← hw1]
    have q := ChD.In.new (w.alloc (.cells #[.int .i64 x.id, .int .i64 x.st, .int .i64 x.f, .int .i64 x.l, .slice x.A x.n x.c, .slice x.B x.m x.d] 25)) (y)
    simp only [World.size_alloc] at q
    exact q.keep ((Mod.refl (fun _ => False) _).alloc _)
  have HR1 : Hid ((TxD.zero : TxD).In w1 (w.heap.size + 2)) := by
    rw [← hw1]
    have q := TxD.In.new ((w.alloc (.cells #[.int .i64 x.id, .int .i64 x.st, .int .i64 x.f, .int .i64 x.l, .slice x.A x.n x.c, .slice x.B x.m x.d] 25)).alloc (.cells #[.int .i64 y.lsn, .int .i64 y.page, .int .i64 y.key, .bool y.o.is, .slice y.o.B y.o.m y.o.d, .bool y.v.is, .slice y.v.B y.v.m y.v.d] 30)) (TxD.zero)
    simp only [World.size_alloc] at q
    exact q.keep (Mod.refl (fun _ => False) _)
  have HM1 : Hid (Mod (fun _ => False) w w1) := by rw [← hw1]; exact (((Mod.refl (fun _ => False) w).alloc _).alloc _).alloc _
  have hz1 : w.heap.size + 3 ≤ w1.heap.size := by rw [← hw1]; simp
  obtain ⟨c0, c1, c2, c3, c4, c5⟩ := HB1.out.cells
  obtain ⟨y0, y1, y2, y3, y4, y5, y6⟩ := HY1.out.cells
  have HMay := Lib.hid (fun V (hV : Mod (fun _ => False) w V) => may_ok V x (h.keep hV) hn hm)
  have HFol := Lib.hid (fun V (hV : Mod (fun _ => False) w V) => mayFollow_ok V x.A x.n x.c x.L (h.keep hV).L hn y (hy.keep hV))
  have HX := Lib.hid h
  have HY := Lib.hid hy
  have HN := Lib.hid hn
  have HM := Lib.hid hm
  have Hsm := Lib.hid h.small
  have Hsy : Hid (folB (pc x.L) y.p = true → y.o.m ≤ 1000 ∧ y.v.m ≤ 1000) := fun hf => hy.small hf
  have HE : Hid (noteE x.p y.p = if mayT x.p && folB (pc x.L) y.p then (if x.n = 6 then 4 else 0) else 1) := by unfold noteE; rw [h.nL]; rfl
  clear h hy hn hm
  clear HY HX HN HM
  rw [hb1] at HMay HE Hsm
  clear hb1
  rw [hb2] at HFol HE Hsy
  clear hb2
  clear Hsm Hsy
  go_enter Try.func12, Try.ntmps12
  go_wp2_with fail
  refine (HMay.out _ HM1.out).mono ?_
  rintro e w2 ⟨rfl, hm2⟩
  have HM2 := Lib.hid (HM1.out.trans hm2 (fun _ _ h => h))
  have hz2 := hm2.size
  have HB2 := Lib.hid (HB1.out.keep hm2)
  have HY2 := Lib.hid (HY1.out.keep hm2)
  have HR2 := Lib.hid (HR1.out.keep hm2)
  clear hm2
  clear hw1 c0 c1 c2 c3 c4 c5 y0 y1 y2 y3 y4 y5 y6
  obtain ⟨c0, c1, c2, c3, c4, c5⟩ := HB2.out.cells
  obtain ⟨y0, y1, y2, y3, y4, y5, y6⟩ := HY2.out.cells
  go_wp2_with fail
  refine (HFol.out _ HM2.out).mono ?_
  rintro e w3 ⟨rfl, hm3⟩
  have HM3 := Lib.hid (HM2.out.trans hm3 (fun _ _ h => h))
  have hz3 := hm3.size
  have HB3 := Lib.hid (HB2.out.keep hm3)
  have HY3 := Lib.hid (HY2.out.keep hm3)
  have HR3 := Lib.hid (HR2.out.keep hm3)
  clear hm3
  clear c0 c1 c2 c3 c4 c5 y0 y1 y2 y3 y4 y5 y6
  obtain ⟨c0, c1, c2, c3, c4, c5⟩ := HB3.out.cells
  obtain ⟨y0, y1, y2, y3, y4, y5, y6⟩ := HY3.out.cells
  obtain ⟨r0, r1, r2, r3, r4, r5⟩ := HR3.out.cells
  have g0 := HR3.out.fz 0
  have g1 := HR3.out.fz 1
  have g2 := HR3.out.fz 2
  have g3 := HR3.out.fz 3
  have g4 := HR3.out.fz 4
  have g5 := HR3.out.fz 5
  obtain ⟨w4, hw4⟩ : ∃ w4, (((((w3.setCell ⟨w.heap.size + 2, 0, none⟩ (.int .i64 0)).setCell ⟨w.heap.size + 2, 1, none⟩ (.int .i64 0)).setCell ⟨w.heap.size + 2, 2, none⟩ (.int .i64 0)).setCell ⟨w.heap.size + 2, 3, none⟩ (.int .i64 0)).setCell ⟨w.heap.size + 2, 4, none⟩ (.slice none 0 0)).setCell ⟨w.heap.size + 2, 5, none⟩ (.slice none 0 0) = w4 := ⟨_, rfl⟩
  have hq4 : stT w3 (w.heap.size + 2) TxD.zero = w4 := hw4
  have hs4 : Mod (fun k => k = w.heap.size + 2) w3 w4 := by rw [← hq4]; exact stT_mod w3 (w.heap.size + 2) TxD.zero
  have HM4 : Hid (Mod (fun _ => False) w w4) := HM3.out.trans hs4 (fun k _ e => by omega)
  have hz4 := hs4.size
  have HB4 := Lib.hid (HB3.out.mod hs4 (fun e => by omega))
  have HY4 := Lib.hid (HY3.out.mod hs4 (fun e => by omega))
  have HR4 : Hid ((TxD.zero : TxD).In w4 (w.heap.size + 2)) := by rw [← hq4]; exact HR3.out.set TxD.zero
  clear hq4
  clear hs4
  have HW := Lib.hid hw4
  clear hw4
  go_wp2
  rw [HW.out]
  clear c0 c1 c2 c3 c4 c5 y0 y1 y2 y3 y4 y5 y6 r0 r1 r2 r3 r4 r5 g0 g1 g2 g3 g4 g5
  obtain ⟨q0, q1, q2, q3, q4, q5⟩ : w4.cell? ⟨w.heap.size + 2, 0, none⟩ = some (.int .i64 0) ∧ w4.cell? ⟨w.heap.size + 2, 1, none⟩ = some (.int .i64 0) ∧ w4.cell? ⟨w.heap.size + 2, 2, none⟩ = some (.int .i64 0) ∧ w4.cell? ⟨w.heap.size + 2, 3, none⟩ = some (.int .i64 0) ∧ w4.cell? ⟨w.heap.size + 2, 4, none⟩ = some (.slice none 0 0) ∧ w4.cell? ⟨w.heap.size + 2, 5, none⟩ = some (.slice none 0 0) := HR4.out.cells
  refine bodyPost_ret (v := .tuple #[.agg #[.int .i64 0, .int .i64 0, .int .i64 0, .int .i64 0, .slice none 0 0, .slice none 0 0], .int .i64 1]) (by simp [results, Try.results12, go_sem, q0, q1, q2, q3, q4, q5]) rfl ?_
  exact ⟨TxD.zero, by rw [HE.out]; rfl, TxD.zero_own _ _, by rw [HE.out]; rfl, HM4.out⟩
set_option maxRecDepth 100000 in
set_option maxHeartbeats 3200000 in
theorem note_full (w : World) (x : TxD) (y : ChD) (h : x.At w) (hy : y.At w) (hn : x.n ≤ 1000) (hm : x.m ≤ 1000) (hb1 : mayT x.p = true) (hb2 : folB (pc x.L) y.p = true) (h6 : x.n = 6) :
    Calls Try.prog 12 #[.agg #[.int .i64 x.id, .int .i64 x.st, .int .i64 x.f, .int .i64 x.l, .slice x.A x.n x.c, .slice x.B x.m x.d], .agg #[.int .i64 y.lsn, .int .i64 y.page, .int .i64 y.key, .bool y.o.is, .slice y.o.B y.o.m y.o.d, .bool y.v.is, .slice y.v.B y.v.m y.v.d]] w fun e w' => NwAns w w' (noteE x.p y.p) (noteT x.p y.p) e := by
  obtain ⟨w1, hw1⟩ : ∃ w1, ((w.alloc (.cells #[.int .i64 x.id, .int .i64 x.st, .int .i64 x.f, .int .i64 x.l, .slice x.A x.n x.c, .slice x.B x.m x.d] 25)).alloc (.cells #[.int .i64 y.lsn, .int .i64 y.page, .int .i64 y.key, .bool y.o.is, .slice y.o.B y.o.m y.o.d, .bool y.v.is, .slice y.v.B y.v.m y.v.d] 30)).alloc (.cells #[.int .i64 0, .int .i64 0, .int .i64 0, .int .i64 0, .slice none 0 0, .slice none 0 0] 25) = w1 := ⟨_, rfl⟩
  have HB1 : Hid ((x : TxD).In w1 (w.heap.size)) := by
    rw [← hw1]
    have q := TxD.In.new (w) (x)
    exact q.keep (((Mod.refl (fun _ => False) _).alloc _).alloc _)
  have HY1 : Hid ((y : ChD).In w1 (w.heap.size + 1)) := by
    rw [← hw1]
    have q := ChD.In.new (w.alloc (.cells #[.int .i64 x.id, .int .i64 x.st, .int .i64 x.f, .int .i64 x.l, .slice x.A x.n x.c, .slice x.B x.m x.d] 25)) (y)
    simp only [World.size_alloc] at q
    exact q.keep ((Mod.refl (fun _ => False) _).alloc _)
  have HR1 : Hid ((TxD.zero : TxD).In w1 (w.heap.size + 2)) := by
    rw [← hw1]
    have q := TxD.In.new ((w.alloc (.cells #[.int .i64 x.id, .int .i64 x.st, .int .i64 x.f, .int .i64 x.l, .slice x.A x.n x.c, .slice x.B x.m x.d] 25)).alloc (.cells #[.int .i64 y.lsn, .int .i64 y.page, .int .i64 y.key, .bool y.o.is, .slice y.o.B y.o.m y.o.d, .bool y.v.is, .slice y.v.B y.v.m y.v.d] 30)) (TxD.zero)
    simp only [World.size_alloc] at q
    exact q.keep (Mod.refl (fun _ => False) _)
  have HM1 : Hid (Mod (fun _ => False) w w1) := by rw [← hw1]; exact (((Mod.refl (fun _ => False) w).alloc _).alloc _).alloc _
  have hz1 : w.heap.size + 3 ≤ w1.heap.size := by rw [← hw1]; simp
  obtain ⟨c0, c1, c2, c3, c4, c5⟩ := HB1.out.cells
  obtain ⟨y0, y1, y2, y3, y4, y5, y6⟩ := HY1.out.cells
  have HMay := Lib.hid (fun V (hV : Mod (fun _ => False) w V) => may_ok V x (h.keep hV) hn hm)
  have HFol := Lib.hid (fun V (hV : Mod (fun _ => False) w V) => mayFollow_ok V x.A x.n x.c x.L (h.keep hV).L hn y (hy.keep hV))
  have HX := Lib.hid h
  have HY := Lib.hid hy
  have HN := Lib.hid hn
  have HM := Lib.hid hm
  have Hsm := Lib.hid h.small
  have Hsy : Hid (folB (pc x.L) y.p = true → y.o.m ≤ 1000 ∧ y.v.m ≤ 1000) := fun hf => hy.small hf
  have HE : Hid (noteE x.p y.p = if mayT x.p && folB (pc x.L) y.p then (if x.n = 6 then 4 else 0) else 1) := by unfold noteE; rw [h.nL]; rfl
  clear h hy hn hm
  clear HY HX HN HM
  rw [hb1] at HMay HE Hsm
  clear hb1
  rw [hb2] at HFol HE Hsy
  clear hb2
  clear Hsm Hsy
  have hd6 : ((x.n : Int) == 6) = true := by simp [h6]
  rw [if_pos h6] at HE
  clear h6
  go_enter Try.func12, Try.ntmps12
  go_wp2_with fail
  refine (HMay.out _ HM1.out).mono ?_
  rintro e w2 ⟨rfl, hm2⟩
  have HM2 := Lib.hid (HM1.out.trans hm2 (fun _ _ h => h))
  have hz2 := hm2.size
  have HB2 := Lib.hid (HB1.out.keep hm2)
  have HY2 := Lib.hid (HY1.out.keep hm2)
  have HR2 := Lib.hid (HR1.out.keep hm2)
  clear hm2
  clear hw1 c0 c1 c2 c3 c4 c5 y0 y1 y2 y3 y4 y5 y6
  obtain ⟨c0, c1, c2, c3, c4, c5⟩ := HB2.out.cells
  obtain ⟨y0, y1, y2, y3, y4, y5, y6⟩ := HY2.out.cells
  go_wp2_with fail
  refine (HFol.out _ HM2.out).mono ?_
  rintro e w3 ⟨rfl, hm3⟩
  have HM3 := Lib.hid (HM2.out.trans hm3 (fun _ _ h => h))
  have hz3 := hm3.size
  have HB3 := Lib.hid (HB2.out.keep hm3)
  have HY3 := Lib.hid (HY2.out.keep hm3)
  have HR3 := Lib.hid (HR2.out.keep hm3)
  clear hm3
  clear c0 c1 c2 c3 c4 c5 y0 y1 y2 y3 y4 y5 y6
  obtain ⟨c0, c1, c2, c3, c4, c5⟩ := HB3.out.cells
  obtain ⟨y0, y1, y2, y3, y4, y5, y6⟩ := HY3.out.cells
  obtain ⟨r0, r1, r2, r3, r4, r5⟩ := HR3.out.cells
  have g0 := HR3.out.fz 0
  have g1 := HR3.out.fz 1
  have g2 := HR3.out.fz 2
  have g3 := HR3.out.fz 3
  have g4 := HR3.out.fz 4
  have g5 := HR3.out.fz 5
  obtain ⟨w4, hw4⟩ : ∃ w4, (((((w3.setCell ⟨w.heap.size + 2, 0, none⟩ (.int .i64 0)).setCell ⟨w.heap.size + 2, 1, none⟩ (.int .i64 0)).setCell ⟨w.heap.size + 2, 2, none⟩ (.int .i64 0)).setCell ⟨w.heap.size + 2, 3, none⟩ (.int .i64 0)).setCell ⟨w.heap.size + 2, 4, none⟩ (.slice none 0 0)).setCell ⟨w.heap.size + 2, 5, none⟩ (.slice none 0 0) = w4 := ⟨_, rfl⟩
  have hq4 : stT w3 (w.heap.size + 2) TxD.zero = w4 := hw4
  have hs4 : Mod (fun k => k = w.heap.size + 2) w3 w4 := by rw [← hq4]; exact stT_mod w3 (w.heap.size + 2) TxD.zero
  have HM4 : Hid (Mod (fun _ => False) w w4) := HM3.out.trans hs4 (fun k _ e => by omega)
  have hz4 := hs4.size
  have HB4 := Lib.hid (HB3.out.mod hs4 (fun e => by omega))
  have HY4 := Lib.hid (HY3.out.mod hs4 (fun e => by omega))
  have HR4 : Hid ((TxD.zero : TxD).In w4 (w.heap.size + 2)) := by rw [← hq4]; exact HR3.out.set TxD.zero
  clear hq4
  clear hs4
  have HW := Lib.hid hw4
  clear hw4
  go_wp2
  rw [HW.out]
  clear c0 c1 c2 c3 c4 c5 y0 y1 y2 y3 y4 y5 y6 r0 r1 r2 r3 r4 r5 g0 g1 g2 g3 g4 g5
  obtain ⟨q0, q1, q2, q3, q4, q5⟩ : w4.cell? ⟨w.heap.size + 2, 0, none⟩ = some (.int .i64 0) ∧ w4.cell? ⟨w.heap.size + 2, 1, none⟩ = some (.int .i64 0) ∧ w4.cell? ⟨w.heap.size + 2, 2, none⟩ = some (.int .i64 0) ∧ w4.cell? ⟨w.heap.size + 2, 3, none⟩ = some (.int .i64 0) ∧ w4.cell? ⟨w.heap.size + 2, 4, none⟩ = some (.slice none 0 0) ∧ w4.cell? ⟨w.heap.size + 2, 5, none⟩ = some (.slice none 0 0) := HR4.out.cells
  refine bodyPost_ret (v := .tuple #[.agg #[.int .i64 0, .int .i64 0, .int .i64 0, .int .i64 0, .slice none 0 0, .slice none 0 0], .int .i64 4]) (by simp [results, Try.results12, go_sem, q0, q1, q2, q3, q4, q5]) rfl ?_
  exact ⟨TxD.zero, by rw [HE.out]; rfl, TxD.zero_own _ _, by rw [HE.out]; rfl, HM4.out⟩
set_option maxRecDepth 100000 in
set_option maxHeartbeats 3200000 in
theorem note_yes (w : World) (x : TxD) (y : ChD) (h : x.At w) (hy : y.At w) (hn : x.n ≤ 1000) (hm : x.m ≤ 1000) (hb1 : mayT x.p = true) (hb2 : folB (pc x.L) y.p = true) (h6 : ¬ x.n = 6) :
    Calls Try.prog 12 #[.agg #[.int .i64 x.id, .int .i64 x.st, .int .i64 x.f, .int .i64 x.l, .slice x.A x.n x.c, .slice x.B x.m x.d], .agg #[.int .i64 y.lsn, .int .i64 y.page, .int .i64 y.key, .bool y.o.is, .slice y.o.B y.o.m y.o.d, .bool y.v.is, .slice y.v.B y.v.m y.v.d]] w fun e w' => NwAns w w' (noteE x.p y.p) (noteT x.p y.p) e := by
  obtain ⟨w1, hw1⟩ : ∃ w1, ((w.alloc (.cells #[.int .i64 x.id, .int .i64 x.st, .int .i64 x.f, .int .i64 x.l, .slice x.A x.n x.c, .slice x.B x.m x.d] 25)).alloc (.cells #[.int .i64 y.lsn, .int .i64 y.page, .int .i64 y.key, .bool y.o.is, .slice y.o.B y.o.m y.o.d, .bool y.v.is, .slice y.v.B y.v.m y.v.d] 30)).alloc (.cells #[.int .i64 0, .int .i64 0, .int .i64 0, .int .i64 0, .slice none 0 0, .slice none 0 0] 25) = w1 := ⟨_, rfl⟩
  have HB1 : Hid ((x : TxD).In w1 (w.heap.size)) := by
    rw [← hw1]
    have q := TxD.In.new (w) (x)
    exact q.keep (((Mod.refl (fun _ => False) _).alloc _).alloc _)
  have HY1 : Hid ((y : ChD).In w1 (w.heap.size + 1)) := by
    rw [← hw1]
    have q := ChD.In.new (w.alloc (.cells #[.int .i64 x.id, .int .i64 x.st, .int .i64 x.f, .int .i64 x.l, .slice x.A x.n x.c, .slice x.B x.m x.d] 25)) (y)
    simp only [World.size_alloc] at q
    exact q.keep ((Mod.refl (fun _ => False) _).alloc _)
  have HR1 : Hid ((TxD.zero : TxD).In w1 (w.heap.size + 2)) := by
    rw [← hw1]
    have q := TxD.In.new ((w.alloc (.cells #[.int .i64 x.id, .int .i64 x.st, .int .i64 x.f, .int .i64 x.l, .slice x.A x.n x.c, .slice x.B x.m x.d] 25)).alloc (.cells #[.int .i64 y.lsn, .int .i64 y.page, .int .i64 y.key, .bool y.o.is, .slice y.o.B y.o.m y.o.d, .bool y.v.is, .slice y.v.B y.v.m y.v.d] 30)) (TxD.zero)
    simp only [World.size_alloc] at q
    exact q.keep (Mod.refl (fun _ => False) _)
  have HM1 : Hid (Mod (fun _ => False) w w1) := by rw [← hw1]; exact (((Mod.refl (fun _ => False) w).alloc _).alloc _).alloc _
  have hz1 : w.heap.size + 3 ≤ w1.heap.size := by rw [← hw1]; simp
  obtain ⟨c0, c1, c2, c3, c4, c5⟩ := HB1.out.cells
  obtain ⟨y0, y1, y2, y3, y4, y5, y6⟩ := HY1.out.cells
  have HMay := Lib.hid (fun V (hV : Mod (fun _ => False) w V) => may_ok V x (h.keep hV) hn hm)
  have HFol := Lib.hid (fun V (hV : Mod (fun _ => False) w V) => mayFollow_ok V x.A x.n x.c x.L (h.keep hV).L hn y (hy.keep hV))
  have HX := Lib.hid h
  have HY := Lib.hid hy
  have HN := Lib.hid hn
  have HM := Lib.hid hm
  have Hsm := Lib.hid h.small
  have Hsy : Hid (folB (pc x.L) y.p = true → y.o.m ≤ 1000 ∧ y.v.m ≤ 1000) := fun hf => hy.small hf
  have HE : Hid (noteE x.p y.p = if mayT x.p && folB (pc x.L) y.p then (if x.n = 6 then 4 else 0) else 1) := by unfold noteE; rw [h.nL]; rfl
  clear h hy hn hm
  rw [hb1] at HMay HE Hsm
  clear hb1
  rw [hb2] at HFol HE Hsy
  clear hb2
  have hd6 : ((x.n : Int) == 6) = false := by simpa using (fun e => h6 (by omega) : ¬ (x.n : Int) = 6)
  have HE0 : Hid (noteE x.p y.p = 0) := by show _ = _; rw [HE.out, if_neg h6]; rfl
  clear HE h6
  go_enter Try.func12, Try.ntmps12
  go_wp2_with fail
  refine (HMay.out _ HM1.out).mono ?_
  rintro e w2 ⟨rfl, hm2⟩
  have HM2 := Lib.hid (HM1.out.trans hm2 (fun _ _ h => h))
  have hz2 := hm2.size
  have HB2 := Lib.hid (HB1.out.keep hm2)
  have HY2 := Lib.hid (HY1.out.keep hm2)
  have HR2 := Lib.hid (HR1.out.keep hm2)
  clear hm2
  clear hw1 c0 c1 c2 c3 c4 c5 y0 y1 y2 y3 y4 y5 y6
  obtain ⟨c0, c1, c2, c3, c4, c5⟩ := HB2.out.cells
  obtain ⟨y0, y1, y2, y3, y4, y5, y6⟩ := HY2.out.cells
  go_wp2_with fail
  refine (HFol.out _ HM2.out).mono ?_
  rintro e w3 ⟨rfl, hm3⟩
  have HM3 := Lib.hid (HM2.out.trans hm3 (fun _ _ h => h))
  have hz3 := hm3.size
  have HB3 := Lib.hid (HB2.out.keep hm3)
  have HY3 := Lib.hid (HY2.out.keep hm3)
  have HR3 := Lib.hid (HR2.out.keep hm3)
  clear hm3
  clear c0 c1 c2 c3 c4 c5 y0 y1 y2 y3 y4 y5 y6
  obtain ⟨c0, c1, c2, c3, c4, c5⟩ := HB3.out.cells
  obtain ⟨y0, y1, y2, y3, y4, y5, y6⟩ := HY3.out.cells
  have HC := Lib.hid (copied_ok w3 x (HX.out.keep HM3.out) HN.out HM.out (Hsm.out trivial))
  go_wp2_with fail
  refine HC.out.mono ?_
  rintro e w4 ⟨z, rfl, hz, hzp, hm4⟩
  have HZ := Lib.hid hz
  have HZp := Lib.hid hzp
  have HM4 := Lib.hid (HM3.out.trans hm4 (fun _ _ h => h))
  have hz4 := hm4.size
  have HB4 := Lib.hid (HB3.out.keep hm4)
  have HY4 := Lib.hid (HY3.out.keep hm4)
  have HR4 := Lib.hid (HR3.out.keep hm4)
  clear HC hz hzp hm4 hd6
  clear c0 c1 c2 c3 c4 c5 y0 y1 y2 y3 y4 y5 y6
  obtain ⟨c0, c1, c2, c3, c4, c5⟩ := HB4.out.cells
  have f0 := HB4.out.fz 0
  have f1 := HB4.out.fz 1
  have f2 := HB4.out.fz 2
  have f3 := HB4.out.fz 3
  have f4 := HB4.out.fz 4
  have f5 := HB4.out.fz 5
  obtain ⟨w5, hw5⟩ : ∃ w5, (((((w4.setCell ⟨w.heap.size, 0, none⟩ (.int .i64 z.id)).setCell ⟨w.heap.size, 1, none⟩ (.int .i64 z.st)).setCell ⟨w.heap.size, 2, none⟩ (.int .i64 z.f)).setCell ⟨w.heap.size, 3, none⟩ (.int .i64 z.l)).setCell ⟨w.heap.size, 4, none⟩ (.slice z.A z.n z.c)).setCell ⟨w.heap.size, 5, none⟩ (.slice z.B z.m z.d) = w5 := ⟨_, rfl⟩
  have hq5 : stT w4 (w.heap.size) z = w5 := hw5
  have hs5 : Mod (fun k => k = w.heap.size) w4 w5 := by rw [← hq5]; exact stT_mod w4 (w.heap.size) z
  have HM5 : Hid (Mod (fun _ => False) w w5) := HM4.out.trans hs5 (fun k _ e => by omega)
  have hz5 := hs5.size
  have HB5 : Hid ((z : TxD).In w5 (w.heap.size)) := by rw [← hq5]; exact HB4.out.set z
  have HY5 := Lib.hid (HY4.out.mod hs5 (fun e => by omega))
  have HR5 := Lib.hid (HR4.out.mod hs5 (fun e => by omega))
  clear hq5
  have HZ5 := Lib.hid (HZ.out.old hs5 (by omega))
  clear hs5
  obtain ⟨d0, d1, d2, d3, d4, d5⟩ := HB5.out.cells
  obtain ⟨y0, y1, y2, y3, y4, y5, y6⟩ := HY5.out.cells
  have HK := Lib.hid (fun V (hV : Mod (fun _ => False) w V) => copiedChange_ok V y (HY.out.keep hV) (Hsy.out trivial).1 (Hsy.out trivial).2)
  have HD : Hid (Mod (fun _ => False) w5 w5.drew) := (Mod.refl _ w5).drew
  go_wp2_with fail
  clear hw5 c0 c1 c2 c3 c4 c5 f0 f1 f2 f3 f4 f5 d0 d1 d2 d3 d4 d5 y0 y1 y2 y3 y4 y5 y6
  refine wp_region_late (S := (fun W : World => W.cell? ⟨w.heap.size, 4, none⟩ = some (.slice z.A z.n z.c) ∧ (W.cell? ⟨w.heap.size + 1, 0, none⟩ = some (.int .i64 y.lsn) ∧ W.cell? ⟨w.heap.size + 1, 1, none⟩ = some (.int .i64 y.page) ∧ W.cell? ⟨w.heap.size + 1, 2, none⟩ = some (.int .i64 y.key) ∧ W.cell? ⟨w.heap.size + 1, 3, none⟩ = some (.bool y.o.is) ∧ W.cell? ⟨w.heap.size + 1, 4, none⟩ = some (.slice y.o.B y.o.m y.o.d) ∧ W.cell? ⟨w.heap.size + 1, 5, none⟩ = some (.bool y.v.is) ∧ W.cell? ⟨w.heap.size + 1, 6, none⟩ = some (.slice y.v.B y.v.m y.v.d)))) (z := 7) (by kernel_rfl) ?_
  have hI := (show (fun W : World => W.cell? ⟨w.heap.size, 4, none⟩ = some (.slice z.A z.n z.c) ∧ (W.cell? ⟨w.heap.size + 1, 0, none⟩ = some (.int .i64 y.lsn) ∧ W.cell? ⟨w.heap.size + 1, 1, none⟩ = some (.int .i64 y.page) ∧ W.cell? ⟨w.heap.size + 1, 2, none⟩ = some (.int .i64 y.key) ∧ W.cell? ⟨w.heap.size + 1, 3, none⟩ = some (.bool y.o.is) ∧ W.cell? ⟨w.heap.size + 1, 4, none⟩ = some (.slice y.o.B y.o.m y.o.d) ∧ W.cell? ⟨w.heap.size + 1, 5, none⟩ = some (.bool y.v.is) ∧ W.cell? ⟨w.heap.size + 1, 6, none⟩ = some (.slice y.v.B y.v.m y.v.d))) _ from ⟨(HB5.out.keep HD.out).cells.2.2.2.2.1, (HY5.out.keep HD.out).cells⟩)
  refine lg_take (n := 7) (v := ?_) 0 (some 24) rfl rfl (by kernel_rfl) (by kernel_rfl) (by kernel_rfl) (by kernel_rfl) (by kernel_rfl) (fun _ _ _ h => h) (by rfl) hI ?_ ?_
  rotate_left
  · ((intro w hSw; (try dsimp only at hSw); go_simp); (try with_reducible rfl))
  try simp only [Act.put, List.setIfInBounds_toArray, List.set_cons_zero, List.set_cons_succ]
  refine lg_take (n := 6) (v := ?_) 1 (some 25) rfl rfl (by kernel_rfl) (by kernel_rfl) (by kernel_rfl) (by kernel_rfl) (by kernel_rfl) (fun _ _ _ h => h) (by rfl) hI ?_ ?_
  rotate_left
  · ((intro w hSw; (try dsimp only at hSw); go_simp); (try with_reducible rfl))
  try simp only [Act.put, List.setIfInBounds_toArray, List.set_cons_zero, List.set_cons_succ]
  refine lg_take (n := 5) (v := ?_) 2 (some 26) rfl rfl (by kernel_rfl) (by kernel_rfl) (by kernel_rfl) (by kernel_rfl) (by kernel_rfl) (fun _ _ _ h => h) (by rfl) hI ?_ ?_
  rotate_left
  · ((intro w hSw; (try dsimp only at hSw); go_simp); (try with_reducible rfl))
  try simp only [Act.put, List.setIfInBounds_toArray, List.set_cons_zero, List.set_cons_succ]
  refine lg_one (n := 4) 3 rfl (by kernel_rfl) (by rfl) ?_
  go_simp
  go_at_call 33
  refine (HK.out _ (HM5.out.trans HD.out (fun _ _ h => h))).mono ?_
  rintro e w6 ⟨yc, rfl, hyc, hycp, hm6⟩
  have hm6' := HD.out.trans hm6 (fun _ _ h => h)
  have HYc := Lib.hid hyc
  have HYp := Lib.hid hycp
  have HZ6 := Lib.hid (HZ5.out.keep hm6')
  have HM6 := Lib.hid (HM5.out.trans hm6' (fun _ _ h => h))
  have hz6 := hm6'.size
  have HB6 := Lib.hid (HB5.out.keep hm6')
  have HY6 := Lib.hid (HY5.out.keep hm6')
  have HR6 := Lib.hid (HR5.out.keep hm6')
  clear hm6 hm6' hyc hycp
  clear hI
  have hI := (show (fun W : World => W.cell? ⟨w.heap.size, 4, none⟩ = some (.slice z.A z.n z.c) ∧ (W.cell? ⟨w.heap.size + 1, 0, none⟩ = some (.int .i64 y.lsn) ∧ W.cell? ⟨w.heap.size + 1, 1, none⟩ = some (.int .i64 y.page) ∧ W.cell? ⟨w.heap.size + 1, 2, none⟩ = some (.int .i64 y.key) ∧ W.cell? ⟨w.heap.size + 1, 3, none⟩ = some (.bool y.o.is) ∧ W.cell? ⟨w.heap.size + 1, 4, none⟩ = some (.slice y.o.B y.o.m y.o.d) ∧ W.cell? ⟨w.heap.size + 1, 5, none⟩ = some (.bool y.v.is) ∧ W.cell? ⟨w.heap.size + 1, 6, none⟩ = some (.slice y.v.B y.v.m y.v.d))) _ from ⟨HB6.out.cells.2.2.2.2.1, HY6.out.cells⟩)
  refine ⟨Held.yes hI, ?_⟩
  try simp only [Act.put, List.setIfInBounds_toArray, List.set_cons_zero, List.set_cons_succ]
  obtain ⟨w7, hw7⟩ : ∃ w7, w6.alloc (.cells #[.int .i64 yc.lsn, .int .i64 yc.page, .int .i64 yc.key, .bool yc.o.is, .slice yc.o.B yc.o.m yc.o.d, .bool yc.v.is, .slice yc.v.B yc.v.m yc.v.d] 30) = w7 := ⟨_, rfl⟩
  have hm7 : Mod (fun _ => False) w6 w7 := by rw [← hw7]; exact (Mod.refl _ w6).alloc _
  have HS7 : Hid (SrcN w7 (some ⟨w6.heap.size, 0, none⟩) 1 7 (chc yc)) := by rw [← hw7]; exact SrcN.lit w6 (chc yc) 30 (by simpa [chs] using chs_one [yc])
  have HM7 := Lib.hid (HM6.out.trans hm7 (fun _ _ h => h))
  have hz7 := hm7.size
  have HB7 := Lib.hid (HB6.out.keep hm7)
  have HY7 := Lib.hid (HY6.out.keep hm7)
  have HR7 := Lib.hid (HR6.out.keep hm7)
  have HZ7 := Lib.hid (HZ6.out.keep hm7)
  have HY7c := Lib.hid (HYc.out.keep hm7)
  clear hm7
  refine lg_run (n := 3) (v := .slice (some ⟨w6.heap.size, 0, none⟩) 1 1) (w2 := w7) 4 (some 28) rfl rfl (by kernel_rfl) (by rfl) (Held.yes ((show (fun W : World => W.cell? ⟨w.heap.size, 4, none⟩ = some (.slice z.A z.n z.c) ∧ (W.cell? ⟨w.heap.size + 1, 0, none⟩ = some (.int .i64 y.lsn) ∧ W.cell? ⟨w.heap.size + 1, 1, none⟩ = some (.int .i64 y.page) ∧ W.cell? ⟨w.heap.size + 1, 2, none⟩ = some (.int .i64 y.key) ∧ W.cell? ⟨w.heap.size + 1, 3, none⟩ = some (.bool y.o.is) ∧ W.cell? ⟨w.heap.size + 1, 4, none⟩ = some (.slice y.o.B y.o.m y.o.d) ∧ W.cell? ⟨w.heap.size + 1, 5, none⟩ = some (.bool y.v.is) ∧ W.cell? ⟨w.heap.size + 1, 6, none⟩ = some (.slice y.v.B y.v.m y.v.d))) _ from ⟨HB7.out.cells.2.2.2.2.1, HY7.out.cells⟩))) ?_ ?_
  · (go_simp; (try rw [hw7]); (try with_reducible rfl))
  try simp only [Act.put, List.setIfInBounds_toArray, List.set_cons_zero, List.set_cons_succ]
  clear hI
  have hI := (show (fun W : World => W.cell? ⟨w.heap.size, 4, none⟩ = some (.slice z.A z.n z.c) ∧ (W.cell? ⟨w.heap.size + 1, 0, none⟩ = some (.int .i64 y.lsn) ∧ W.cell? ⟨w.heap.size + 1, 1, none⟩ = some (.int .i64 y.page) ∧ W.cell? ⟨w.heap.size + 1, 2, none⟩ = some (.int .i64 y.key) ∧ W.cell? ⟨w.heap.size + 1, 3, none⟩ = some (.bool y.o.is) ∧ W.cell? ⟨w.heap.size + 1, 4, none⟩ = some (.slice y.o.B y.o.m y.o.d) ∧ W.cell? ⟨w.heap.size + 1, 5, none⟩ = some (.bool y.v.is) ∧ W.cell? ⟨w.heap.size + 1, 6, none⟩ = some (.slice y.v.B y.v.m y.v.d))) _ from ⟨HB7.out.cells.2.2.2.2.1, HY7.out.cells⟩)
  have hlz : z.n ≤ 1000 := by have h1 := HZ.out.at_.nL; have h2 := HZp.out; have h3 := HX.out.nL; have := HN.out; rw [h2] at h1; omega
  have hbs : w3.heap.size ≤ w7.heap.size := by omega
  obtain ⟨A', c', w8, hrA, hO8, hg8, _⟩ := run_appN (P := Try.prog) (w := w7) (c2 := 1) chElem 22 HZ7.out.L HS7.out (by omega) (by unfold maxLen; omega) hbs
  have hs8 : Mod (fun k => blkOf z.A = some k) w7 w8 := (Mod.refl _ w7).grown hg8 (fun k e _ => e)
  have hlo : ∀ k, blkOf z.A = some k → w3.heap.size ≤ k := fun k hk => (OwN.lt HZ.out.L k hk).1
  have HM8 : Hid (Mod (fun _ => False) w w8) := HM7.out.trans hs8 (fun k _ e => by have := hlo k e; omega)
  have HB8 := Lib.hid (HB7.out.mod hs8 (fun e => by have := hlo _ e; omega))
  have HY8 := Lib.hid (HY7.out.mod hs8 (fun e => by have := hlo _ e; omega))
  have HR8 := Lib.hid (HR7.out.mod hs8 (fun e => by have := hlo _ e; omega))
  have HZ8 := Lib.hid (HZ7.out.app (HY7c.out.rebase (by show w3.heap.size ≤ w5.heap.size; omega)) hO8 hg8)
  have hz8 := hs8.size
  have f4 := HB8.out.fz 4
  obtain ⟨e0, e1, e2, e3, e4, e5⟩ := HB8.out.cells
  clear hO8 hg8 hs8 hlo hlz hbs
  refine lg_run (n := 2) (v := .slice A' (z.n + 1) c') (w2 := w8) 5 (some 29) rfl rfl (by kernel_rfl) (by rfl) (Held.yes ((show (fun W : World => W.cell? ⟨w.heap.size, 4, none⟩ = some (.slice z.A z.n z.c) ∧ (W.cell? ⟨w.heap.size + 1, 0, none⟩ = some (.int .i64 y.lsn) ∧ W.cell? ⟨w.heap.size + 1, 1, none⟩ = some (.int .i64 y.page) ∧ W.cell? ⟨w.heap.size + 1, 2, none⟩ = some (.int .i64 y.key) ∧ W.cell? ⟨w.heap.size + 1, 3, none⟩ = some (.bool y.o.is) ∧ W.cell? ⟨w.heap.size + 1, 4, none⟩ = some (.slice y.o.B y.o.m y.o.d) ∧ W.cell? ⟨w.heap.size + 1, 5, none⟩ = some (.bool y.v.is) ∧ W.cell? ⟨w.heap.size + 1, 6, none⟩ = some (.slice y.v.B y.v.m y.v.d))) _ from ⟨HB8.out.cells.2.2.2.2.1, HY8.out.cells⟩))) ?_ ?_
  · exact exec_app rfl rfl rfl hrA
  try simp only [Act.put, List.setIfInBounds_toArray, List.set_cons_zero, List.set_cons_succ]
  clear hI
  have hI := (show (fun W : World => W.cell? ⟨w.heap.size, 4, none⟩ = some (.slice z.A z.n z.c) ∧ (W.cell? ⟨w.heap.size + 1, 0, none⟩ = some (.int .i64 y.lsn) ∧ W.cell? ⟨w.heap.size + 1, 1, none⟩ = some (.int .i64 y.page) ∧ W.cell? ⟨w.heap.size + 1, 2, none⟩ = some (.int .i64 y.key) ∧ W.cell? ⟨w.heap.size + 1, 3, none⟩ = some (.bool y.o.is) ∧ W.cell? ⟨w.heap.size + 1, 4, none⟩ = some (.slice y.o.B y.o.m y.o.d) ∧ W.cell? ⟨w.heap.size + 1, 5, none⟩ = some (.bool y.v.is) ∧ W.cell? ⟨w.heap.size + 1, 6, none⟩ = some (.slice y.v.B y.v.m y.v.d))) _ from ⟨HB8.out.cells.2.2.2.2.1, HY8.out.cells⟩)
  refine lg_take (n := 1) (v := ?_) 6 (some 30) rfl rfl (by kernel_rfl) (by kernel_rfl) (by kernel_rfl) (by kernel_rfl) (by kernel_rfl) (fun _ _ _ h => h) (by rfl) hI ?_ ?_
  rotate_left
  · ((intro w hSw; (try dsimp only at hSw); go_simp); (try with_reducible rfl))
  try simp only [Act.put, List.setIfInBounds_toArray, List.set_cons_zero, List.set_cons_succ]
  obtain ⟨w9, hw9⟩ : ∃ w9, w8.setCell ⟨w.heap.size, 4, none⟩ (.slice A' (z.n + 1) c') = w9 := ⟨_, rfl⟩
  have hs9 : Mod (fun k => k = w.heap.size) w8 w9 := by rw [← hw9]; exact (Mod.refl (fun k => k = w.heap.size) w8).one (fun _ => rfl) _ _
  have HM9 : Hid (Mod (fun _ => False) w w9) := HM8.out.trans hs9 (fun k _ e => by omega)
  have hz9 := hs9.size
  have HB9 : Hid ((⟨z.id, z.st, z.f, z.l, A', z.n + 1, c', z.L ++ [yc], z.B, z.m, z.d, z.S⟩ : TxD).In w9 (w.heap.size)) := by rw [← hw9]; exact heap_set HB8.out 4 (.slice A' (z.n + 1) c')
  have HY9 := Lib.hid (HY8.out.mod hs9 (fun e => by omega))
  have HR9 := Lib.hid (HR8.out.mod hs9 (fun e => by omega))
  have HZ9 := Lib.hid (HZ8.out.old hs9 (by omega))
  clear hs9
  refine lg_one (n := 0) 7 rfl (by kernel_rfl) (by rfl) ?_
  go_simp
  clear hI
  refine ⟨Held.no (by kernel_rfl), ?_⟩
  try simp only [Act.put]
  refine wpLate_done (by kernel_rfl) ?_ _
  clear hrA e0 e1 e2 e3 e4 e5 f4
  obtain ⟨c0, c1, c2, c3, c4, c5⟩ := HB9.out.cells
  obtain ⟨y0, y1, y2, y3, y4, y5, y6⟩ := HY9.out.cells
  have f3 := HB9.out.fz 3
  obtain ⟨w10, hw10⟩ : ∃ w10, w9.setCell ⟨w.heap.size, 3, none⟩ (.int .i64 y.lsn) = w10 := ⟨_, rfl⟩
  have hs10 : Mod (fun k => k = w.heap.size) w9 w10 := by rw [← hw10]; exact (Mod.refl (fun k => k = w.heap.size) w9).one (fun _ => rfl) _ _
  have HM10 : Hid (Mod (fun _ => False) w w10) := HM9.out.trans hs10 (fun k _ e => by omega)
  have hz10 := hs10.size
  have HB10 : Hid ((⟨z.id, z.st, z.f, y.lsn, A', z.n + 1, c', z.L ++ [yc], z.B, z.m, z.d, z.S⟩ : TxD).In w10 (w.heap.size)) := by rw [← hw10]; exact heap_set HB9.out 3 (.int .i64 y.lsn)
  have HY10 := Lib.hid (HY9.out.mod hs10 (fun e => by omega))
  have HR10 := Lib.hid (HR9.out.mod hs10 (fun e => by omega))
  have HZ10 := Lib.hid (HZ9.out.old hs10 (by omega))
  clear hs10
  obtain ⟨d0, d1, d2, d3, d4, d5⟩ := HB10.out.cells
  obtain ⟨z0, z1, z2, z3, z4, z5, z6⟩ := HY10.out.cells
  have h2 := HB10.out.fz 2
  by_cases hf : z.f = 0
  · have hfd : (z.f == 0) = true := by simp [hf]
    obtain ⟨w11, hw11⟩ : ∃ w11, w10.setCell ⟨w.heap.size, 2, none⟩ (.int .i64 y.lsn) = w11 := ⟨_, rfl⟩
    have hs11 : Mod (fun k => k = w.heap.size) w10 w11 := by rw [← hw11]; exact (Mod.refl (fun k => k = w.heap.size) w10).one (fun _ => rfl) _ _
    have HM11 : Hid (Mod (fun _ => False) w w11) := HM10.out.trans hs11 (fun k _ e => by omega)
    have hz11 := hs11.size
    have HB11 : Hid ((⟨z.id, z.st, y.lsn, y.lsn, A', z.n + 1, c', z.L ++ [yc], z.B, z.m, z.d, z.S⟩ : TxD).In w11 (w.heap.size)) := by rw [← hw11]; exact heap_set HB10.out 2 (.int .i64 y.lsn)
    have HY11 := Lib.hid (HY10.out.mod hs11 (fun e => by omega))
    have HR11 := Lib.hid (HR10.out.mod hs11 (fun e => by omega))
    have HZ11 := Lib.hid (HZ10.out.old hs11 (by omega))
    clear hs11
    obtain ⟨p0, p1, p2, p3, p4, p5⟩ := HB11.out.cells
    obtain ⟨r0, r1, r2, r3, r4, r5⟩ := HR11.out.cells
    have g0 := HR11.out.fz 0
    have g1 := HR11.out.fz 1
    have g2 := HR11.out.fz 2
    have g3 := HR11.out.fz 3
    have g4 := HR11.out.fz 4
    have g5 := HR11.out.fz 5
    obtain ⟨w12, hw12⟩ : ∃ w12, (((((w11.setCell ⟨w.heap.size + 2, 0, none⟩ (.int .i64 z.id)).setCell ⟨w.heap.size + 2, 1, none⟩ (.int .i64 z.st)).setCell ⟨w.heap.size + 2, 2, none⟩ (.int .i64 y.lsn)).setCell ⟨w.heap.size + 2, 3, none⟩ (.int .i64 y.lsn)).setCell ⟨w.heap.size + 2, 4, none⟩ (.slice A' (z.n + 1) c')).setCell ⟨w.heap.size + 2, 5, none⟩ (.slice z.B z.m z.d) = w12 := ⟨_, rfl⟩
    have hq12 : stT w11 (w.heap.size + 2) ⟨z.id, z.st, y.lsn, y.lsn, A', z.n + 1, c', z.L ++ [yc], z.B, z.m, z.d, z.S⟩ = w12 := hw12
    have hs12 : Mod (fun k => k = w.heap.size + 2) w11 w12 := by rw [← hq12]; exact stT_mod w11 (w.heap.size + 2) ⟨z.id, z.st, y.lsn, y.lsn, A', z.n + 1, c', z.L ++ [yc], z.B, z.m, z.d, z.S⟩
    have HM12 : Hid (Mod (fun _ => False) w w12) := HM11.out.trans hs12 (fun k _ e => by omega)
    have hz12 := hs12.size
    have HB12 := Lib.hid (HB11.out.mod hs12 (fun e => by omega))
    have HY12 := Lib.hid (HY11.out.mod hs12 (fun e => by omega))
    have HR12 : Hid ((⟨z.id, z.st, y.lsn, y.lsn, A', z.n + 1, c', z.L ++ [yc], z.B, z.m, z.d, z.S⟩ : TxD).In w12 (w.heap.size + 2)) := by rw [← hq12]; exact HR11.out.set ⟨z.id, z.st, y.lsn, y.lsn, A', z.n + 1, c', z.L ++ [yc], z.B, z.m, z.d, z.S⟩
    clear hq12
    have hsR := hs12
    clear hs12
    have HW := Lib.hid hw12
    clear hw12
    go_wp2
    rw [HW.out]
    clear hw9 hw10 hw11 hfd f3 h2 c0 c1 c2 c3 c4 c5 d0 d1 d2 d3 d4 d5 y0 y1 y2 y3 y4 y5 y6 z0 z1 z2 z3 z4 z5 z6 p0 p1 p2 p3 p4 p5 r0 r1 r2 r3 r4 r5 g0 g1 g2 g3 g4 g5
    obtain ⟨q0, q1, q2, q3, q4, q5⟩ : w12.cell? ⟨w.heap.size + 2, 0, none⟩ = some (.int .i64 z.id) ∧ w12.cell? ⟨w.heap.size + 2, 1, none⟩ = some (.int .i64 z.st) ∧ w12.cell? ⟨w.heap.size + 2, 2, none⟩ = some (.int .i64 y.lsn) ∧ w12.cell? ⟨w.heap.size + 2, 3, none⟩ = some (.int .i64 y.lsn) ∧ w12.cell? ⟨w.heap.size + 2, 4, none⟩ = some (.slice A' (z.n + 1) c') ∧ w12.cell? ⟨w.heap.size + 2, 5, none⟩ = some (.slice z.B z.m z.d) := HR12.out.cells
    refine bodyPost_ret (v := .tuple #[.agg #[.int .i64 z.id, .int .i64 z.st, .int .i64 y.lsn, .int .i64 y.lsn, .slice A' (z.n + 1) c', .slice z.B z.m z.d], .int .i64 0]) (by simp [results, Try.results12, go_sem, q0, q1, q2, q3, q4, q5]) rfl ?_
    refine ⟨⟨z.id, z.st, y.lsn, y.lsn, A', z.n + 1, c', z.L ++ [yc], z.B, z.m, z.d, z.S⟩, by rw [HE0.out], ?_, ?_, HM12.out⟩
    · exact (TxD.Own.old (x := ⟨z.id, z.st, y.lsn, y.lsn, A', z.n + 1, c', z.L ++ [yc], z.B, z.m, z.d, z.S⟩) ⟨HZ11.out.L, HZ11.out.vals, HZ11.out.S⟩ hsR (by omega)).rebase (base' := w.heap.size) (by omega)
    · rw [HE0.out, if_pos rfl, ← HZp.out]
      show (⟨z.id, z.st, _, y.lsn, pc (z.L ++ [yc]), z.S⟩ : Tp) = ⟨z.id, z.st, if z.f = 0 then y.lsn else z.f, y.lsn, pc z.L ++ [y.p], z.S⟩
      rw [if_pos hf, pc, List.map_append]
      simp only [List.map_cons, List.map_nil, HYp.out]
      rfl
  · have hfd : (z.f == 0) = false := by simpa using hf
    obtain ⟨r0, r1, r2, r3, r4, r5⟩ := HR10.out.cells
    have g0 := HR10.out.fz 0
    have g1 := HR10.out.fz 1
    have g2 := HR10.out.fz 2
    have g3 := HR10.out.fz 3
    have g4 := HR10.out.fz 4
    have g5 := HR10.out.fz 5
    obtain ⟨w11, hw11⟩ : ∃ w11, (((((w10.setCell ⟨w.heap.size + 2, 0, none⟩ (.int .i64 z.id)).setCell ⟨w.heap.size + 2, 1, none⟩ (.int .i64 z.st)).setCell ⟨w.heap.size + 2, 2, none⟩ (.int .i64 z.f)).setCell ⟨w.heap.size + 2, 3, none⟩ (.int .i64 y.lsn)).setCell ⟨w.heap.size + 2, 4, none⟩ (.slice A' (z.n + 1) c')).setCell ⟨w.heap.size + 2, 5, none⟩ (.slice z.B z.m z.d) = w11 := ⟨_, rfl⟩
    have hq11 : stT w10 (w.heap.size + 2) ⟨z.id, z.st, z.f, y.lsn, A', z.n + 1, c', z.L ++ [yc], z.B, z.m, z.d, z.S⟩ = w11 := hw11
    have hs11 : Mod (fun k => k = w.heap.size + 2) w10 w11 := by rw [← hq11]; exact stT_mod w10 (w.heap.size + 2) ⟨z.id, z.st, z.f, y.lsn, A', z.n + 1, c', z.L ++ [yc], z.B, z.m, z.d, z.S⟩
    have HM11 : Hid (Mod (fun _ => False) w w11) := HM10.out.trans hs11 (fun k _ e => by omega)
    have hz11 := hs11.size
    have HB11 := Lib.hid (HB10.out.mod hs11 (fun e => by omega))
    have HY11 := Lib.hid (HY10.out.mod hs11 (fun e => by omega))
    have HR11 : Hid ((⟨z.id, z.st, z.f, y.lsn, A', z.n + 1, c', z.L ++ [yc], z.B, z.m, z.d, z.S⟩ : TxD).In w11 (w.heap.size + 2)) := by rw [← hq11]; exact HR10.out.set ⟨z.id, z.st, z.f, y.lsn, A', z.n + 1, c', z.L ++ [yc], z.B, z.m, z.d, z.S⟩
    clear hq11
    have hsR := hs11
    clear hs11
    have HW := Lib.hid hw11
    clear hw11
    go_wp2
    rw [HW.out]
    clear hw9 hw10 hfd f3 h2 c0 c1 c2 c3 c4 c5 d0 d1 d2 d3 d4 d5 y0 y1 y2 y3 y4 y5 y6 z0 z1 z2 z3 z4 z5 z6 r0 r1 r2 r3 r4 r5 g0 g1 g2 g3 g4 g5
    obtain ⟨q0, q1, q2, q3, q4, q5⟩ : w11.cell? ⟨w.heap.size + 2, 0, none⟩ = some (.int .i64 z.id) ∧ w11.cell? ⟨w.heap.size + 2, 1, none⟩ = some (.int .i64 z.st) ∧ w11.cell? ⟨w.heap.size + 2, 2, none⟩ = some (.int .i64 z.f) ∧ w11.cell? ⟨w.heap.size + 2, 3, none⟩ = some (.int .i64 y.lsn) ∧ w11.cell? ⟨w.heap.size + 2, 4, none⟩ = some (.slice A' (z.n + 1) c') ∧ w11.cell? ⟨w.heap.size + 2, 5, none⟩ = some (.slice z.B z.m z.d) := HR11.out.cells
    refine bodyPost_ret (v := .tuple #[.agg #[.int .i64 z.id, .int .i64 z.st, .int .i64 z.f, .int .i64 y.lsn, .slice A' (z.n + 1) c', .slice z.B z.m z.d], .int .i64 0]) (by simp [results, Try.results12, go_sem, q0, q1, q2, q3, q4, q5]) rfl ?_
    refine ⟨⟨z.id, z.st, z.f, y.lsn, A', z.n + 1, c', z.L ++ [yc], z.B, z.m, z.d, z.S⟩, by rw [HE0.out], ?_, ?_, HM11.out⟩
    · exact (TxD.Own.old (x := ⟨z.id, z.st, z.f, y.lsn, A', z.n + 1, c', z.L ++ [yc], z.B, z.m, z.d, z.S⟩) ⟨HZ10.out.L, HZ10.out.vals, HZ10.out.S⟩ hsR (by omega)).rebase (base' := w.heap.size) (by omega)
    · rw [HE0.out, if_pos rfl, ← HZp.out]
      show (⟨z.id, z.st, _, y.lsn, pc (z.L ++ [yc]), z.S⟩ : Tp) = ⟨z.id, z.st, if z.f = 0 then y.lsn else z.f, y.lsn, pc z.L ++ [y.p], z.S⟩
      rw [if_neg hf, pc, List.map_append]
      simp only [List.map_cons, List.map_nil, HYp.out]
      rfl
theorem note_ok (w : World) (x : TxD) (y : ChD) (h : x.At w) (hy : y.At w) (hn : x.n ≤ 1000) (hm : x.m ≤ 1000) :
    Calls Try.prog 12 #[.agg #[.int .i64 x.id, .int .i64 x.st, .int .i64 x.f, .int .i64 x.l, .slice x.A x.n x.c, .slice x.B x.m x.d], .agg #[.int .i64 y.lsn, .int .i64 y.page, .int .i64 y.key, .bool y.o.is, .slice y.o.B y.o.m y.o.d, .bool y.v.is, .slice y.v.B y.v.m y.v.d]] w fun e w' => NwAns w w' (noteE x.p y.p) (noteT x.p y.p) e := by
  cases hb1 : mayT x.p with
  | false => exact note_no1 w x y h hy hn hm hb1
  | true =>
    cases hb2 : folB (pc x.L) y.p with
    | false => exact note_no2 w x y h hy hn hm hb1 hb2
    | true =>
      by_cases h6 : x.n = 6
      · exact note_full w x y h hy hn hm hb1 hb2 h6
      · exact note_yes w x y h hy hn hm hb1 hb2 h6
end Go.Proofs.Ytidcmolkolcliaa
