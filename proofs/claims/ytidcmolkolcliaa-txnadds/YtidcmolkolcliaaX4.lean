/-
  Package txn: copiedChange.
-/
import Derived.Test.YtidcmolkolcliaaX3
namespace Go.Proofs.Ytidcmolkolcliaa
open Go Go.RowKit

set_option maxRecDepth 100000 in
set_option maxHeartbeats 3200000 in
theorem copiedChange_ok (w : World) (x : ChD) (h : x.At w) (hn : x.o.m ≤ 1000) (hm : x.v.m ≤ 1000) :
    Calls Try.prog 33 #[.agg #[.int .i64 x.lsn, .int .i64 x.page, .int .i64 x.key, .bool x.o.is, .slice x.o.B x.o.m x.o.d, .bool x.v.is, .slice x.v.B x.v.m x.v.d]] w fun e w' => ∃ y : ChD, e = .returned (.agg #[.int .i64 y.lsn, .int .i64 y.page, .int .i64 y.key, .bool y.o.is, .slice y.o.B y.o.m y.o.d, .bool y.v.is, .slice y.v.B y.v.m y.v.d]) ∧ y.Own w' w.heap.size ∧ y.p = x.p ∧ Mod (fun _ => False) w w' := by
  obtain ⟨w1, hw1⟩ : ∃ w1, (w.alloc (.cells #[.int .i64 x.lsn, .int .i64 x.page, .int .i64 x.key, .bool x.o.is, .slice x.o.B x.o.m x.o.d, .bool x.v.is, .slice x.v.B x.v.m x.v.d] 30)).alloc (.cells #[.int .i64 0, .int .i64 0, .int .i64 0, .bool false, .slice none 0 0, .bool false, .slice none 0 0] 30) = w1 := ⟨_, rfl⟩
  have HB1 : Hid ((x : ChD).In w1 (w.heap.size)) := by
    rw [← hw1]
    have q := ChD.In.new (w) (x)
    exact q.keep ((Mod.refl (fun _ => False) _).alloc _)
  have HR1 : Hid ((ChD.zero : ChD).In w1 (w.heap.size + 1)) := by
    rw [← hw1]
    have q := ChD.In.new (w.alloc (.cells #[.int .i64 x.lsn, .int .i64 x.page, .int .i64 x.key, .bool x.o.is, .slice x.o.B x.o.m x.o.d, .bool x.v.is, .slice x.v.B x.v.m x.v.d] 30)) (ChD.zero)
    simp only [World.size_alloc] at q
    exact q.keep (Mod.refl (fun _ => False) _)
  have HM1 : Hid (Mod (fun _ => False) w w1) := by rw [← hw1]; exact ((Mod.refl (fun _ => False) w).alloc _).alloc _
  have hz1 : w.heap.size + 2 ≤ w1.heap.size := by rw [← hw1]; simp
  obtain ⟨c0, c1, c2, c3, c4, c5, c6⟩ := HB1.out.cells
  have HC := Lib.hid (cloneb_ok w1 x.o.B x.o.m x.o.d x.o.vs (h.o.keep HM1.out) (by omega))
  have HV := Lib.hid h.v
  have Hm := Lib.hid hm
  clear h hn hm
  go_enter Try.func33, Try.ntmps33
  go_wp2_with fail
  refine HC.out.mono ?_
  rintro e w2 ⟨P, c', rfl, hP, hm2⟩
  have HP := Lib.hid hP
  have HM2 := Lib.hid (HM1.out.trans hm2 (fun _ _ h => h))
  have hz2 := hm2.size
  have HB2 := Lib.hid (HB1.out.keep hm2)
  have HR2 := Lib.hid (HR1.out.keep hm2)
  clear HC hP hm2
  clear c0 c1 c2 c3 c4 c5 c6
  obtain ⟨c0, c1, c2, c3, c4, c5, c6⟩ := HB2.out.cells
  have f4 := HB2.out.fz 4
  obtain ⟨w3, hw3⟩ : ∃ w3, w2.setCell ⟨w.heap.size, 4, none⟩ (.slice P x.o.m c') = w3 := ⟨_, rfl⟩
  have hs3 : Mod (fun k => k = w.heap.size) w2 w3 := by rw [← hw3]; exact (Mod.refl (fun k => k = w.heap.size) w2).one (fun _ => rfl) _ _
  have HM3 : Hid (Mod (fun _ => False) w w3) := HM2.out.trans hs3 (fun k _ e => by omega)
  have hz3 := hs3.size
  have HB3 : Hid ((⟨x.lsn, x.page, x.key, ⟨x.o.is, P, x.o.m, c', x.o.vs⟩, x.v⟩ : ChD).In w3 (w.heap.size)) := by rw [← hw3]; exact heap_set HB2.out 4 (.slice P x.o.m c')
  have HR3 := Lib.hid (HR2.out.mod hs3 (fun e => by omega))
  have HP3 := Lib.hid (OwV.mod HP.out hs3 (fun k hk e => by have := (OwV.lt HP.out k hk).1; omega))
  have HC := Lib.hid (cloneb_ok w3 x.v.B x.v.m x.v.d x.v.vs (HV.out.keep HM3.out) (by have := Hm.out; omega))
  clear hs3
  obtain ⟨d0, d1, d2, d3, d4, d5, d6⟩ := HB3.out.cells
  go_wp2_with fail
  clear hw3 f4 c0 c1 c2 c3 c4 c5 c6
  refine HC.out.mono ?_
  rintro e w4 ⟨Q, d', rfl, hQ, hm4⟩
  have HQ := Lib.hid hQ
  have HP4 := Lib.hid (OwV.mod HP3.out hm4 (fun _ _ h => h))
  have HM4 := Lib.hid (HM3.out.trans hm4 (fun _ _ h => h))
  have hz4 := hm4.size
  have HB4 := Lib.hid (HB3.out.keep hm4)
  have HR4 := Lib.hid (HR3.out.keep hm4)
  clear HC hQ hm4
  clear d0 d1 d2 d3 d4 d5 d6
  obtain ⟨c0, c1, c2, c3, c4, c5, c6⟩ := HB4.out.cells
  have f6 := HB4.out.fz 6
  obtain ⟨w5, hw5⟩ : ∃ w5, w4.setCell ⟨w.heap.size, 6, none⟩ (.slice Q x.v.m d') = w5 := ⟨_, rfl⟩
  have hs5 : Mod (fun k => k = w.heap.size) w4 w5 := by rw [← hw5]; exact (Mod.refl (fun k => k = w.heap.size) w4).one (fun _ => rfl) _ _
  have HM5 : Hid (Mod (fun _ => False) w w5) := HM4.out.trans hs5 (fun k _ e => by omega)
  have hz5 := hs5.size
  have HB5 : Hid ((⟨x.lsn, x.page, x.key, ⟨x.o.is, P, x.o.m, c', x.o.vs⟩, ⟨x.v.is, Q, x.v.m, d', x.v.vs⟩⟩ : ChD).In w5 (w.heap.size)) := by rw [← hw5]; exact heap_set HB4.out 6 (.slice Q x.v.m d')
  have HR5 := Lib.hid (HR4.out.mod hs5 (fun e => by omega))
  have HP5 := Lib.hid (OwV.mod HP4.out hs5 (fun k hk e => by have := (OwV.lt HP.out k hk).1; omega))
  have HQ5 := Lib.hid (OwV.mod HQ.out hs5 (fun k hk e => by have := (OwV.lt HQ.out k hk).1; omega))
  clear hs5
  obtain ⟨d0, d1, d2, d3, d4, d5, d6⟩ := HB5.out.cells
  obtain ⟨r0, r1, r2, r3, r4, r5, r6⟩ := HR5.out.cells
  have g0 := HR5.out.fz 0
  have g1 := HR5.out.fz 1
  have g2 := HR5.out.fz 2
  have g3 := HR5.out.fz 3
  have g4 := HR5.out.fz 4
  have g5 := HR5.out.fz 5
  have g6 := HR5.out.fz 6
  obtain ⟨w6, hw6⟩ : ∃ w6, ((((((w5.setCell ⟨w.heap.size + 1, 0, none⟩ (.int .i64 x.lsn)).setCell ⟨w.heap.size + 1, 1, none⟩ (.int .i64 x.page)).setCell ⟨w.heap.size + 1, 2, none⟩ (.int .i64 x.key)).setCell ⟨w.heap.size + 1, 3, none⟩ (.bool x.o.is)).setCell ⟨w.heap.size + 1, 4, none⟩ (.slice P x.o.m c')).setCell ⟨w.heap.size + 1, 5, none⟩ (.bool x.v.is)).setCell ⟨w.heap.size + 1, 6, none⟩ (.slice Q x.v.m d') = w6 := ⟨_, rfl⟩
  have hq6 : stC w5 (w.heap.size + 1) 0 ⟨x.lsn, x.page, x.key, ⟨x.o.is, P, x.o.m, c', x.o.vs⟩, ⟨x.v.is, Q, x.v.m, d', x.v.vs⟩⟩ = w6 := hw6
  have hs6 : Mod (fun k => k = w.heap.size + 1) w5 w6 := by rw [← hq6]; exact stC_mod w5 (w.heap.size + 1) 0 ⟨x.lsn, x.page, x.key, ⟨x.o.is, P, x.o.m, c', x.o.vs⟩, ⟨x.v.is, Q, x.v.m, d', x.v.vs⟩⟩
  have HM6 : Hid (Mod (fun _ => False) w w6) := HM5.out.trans hs6 (fun k _ e => by omega)
  have hz6 := hs6.size
  have HB6 := Lib.hid (HB5.out.mod hs6 (fun e => by omega))
  have HR6 : Hid ((⟨x.lsn, x.page, x.key, ⟨x.o.is, P, x.o.m, c', x.o.vs⟩, ⟨x.v.is, Q, x.v.m, d', x.v.vs⟩⟩ : ChD).In w6 (w.heap.size + 1)) := by rw [← hq6]; exact HR5.out.set ⟨x.lsn, x.page, x.key, ⟨x.o.is, P, x.o.m, c', x.o.vs⟩, ⟨x.v.is, Q, x.v.m, d', x.v.vs⟩⟩
  clear hq6
  have HP6 := Lib.hid (OwV.mod HP5.out hs6 (fun k hk e => by have := (OwV.lt HP.out k hk).1; omega))
  have HQ6 := Lib.hid (OwV.mod HQ5.out hs6 (fun k hk e => by have := (OwV.lt HQ.out k hk).1; omega))
  clear hs6
  have HW := Lib.hid hw6
  clear hw6
  go_wp2
  rw [HW.out]
  clear hw5 f6 c0 c1 c2 c3 c4 c5 c6 d0 d1 d2 d3 d4 d5 d6 r0 r1 r2 r3 r4 r5 r6 g0 g1 g2 g3 g4 g5 g6
  obtain ⟨q0, q1, q2, q3, q4, q5, q6⟩ := HR6.out.cells
  refine bodyPost_ret (v := .agg #[.int .i64 x.lsn, .int .i64 x.page, .int .i64 x.key, .bool x.o.is, .slice P x.o.m c', .bool x.v.is, .slice Q x.v.m d']) (by simp [results, Try.results33, go_sem, q0, q1, q2, q3, q4, q5, q6]) rfl ?_
  refine ⟨⟨x.lsn, x.page, x.key, ⟨x.o.is, P, x.o.m, c', x.o.vs⟩, ⟨x.v.is, Q, x.v.m, d', x.v.vs⟩⟩, rfl, ⟨?_, ?_⟩, rfl, HM6.out⟩
  · exact OwV.rebase HP6.out (fun k hk => by have := (OwV.lt HP.out k hk).1; omega)
  · exact OwV.rebase HQ6.out (fun k hk => by have := (OwV.lt HQ.out k hk).1; omega)
end Go.Proofs.Ytidcmolkolcliaa
