/-
  Package txn: Undo, where there is a change.
-/
import Derived.Test.YtidcmolkolcliaaX7
import Derived.Deep.DeepCutAuto
namespace Go.Proofs.Ytidcmolkolcliaa
open Go Go.RowKit

set_option maxRecDepth 100000 in
set_option maxHeartbeats 3200000 in
theorem undo_yes (w : World) (x : TxD) (h : x.At w) (hn : x.n ≤ 1000) (hm : x.m ≤ 1000) (hb1 : mayT x.p = true) (h0 : ¬ x.n = 0) :
    Calls Try.prog 14 #[.agg #[.int .i64 x.id, .int .i64 x.st, .int .i64 x.f, .int .i64 x.l, .slice x.A x.n x.c, .slice x.B x.m x.d]] w fun e w' => UnAns w w' (undoE x.p) (undoT x.p) (undoC x.p) e := by
  obtain ⟨w1, hw1⟩ : ∃ w1, ((w.alloc (.cells #[.int .i64 x.id, .int .i64 x.st, .int .i64 x.f, .int .i64 x.l, .slice x.A x.n x.c, .slice x.B x.m x.d] 25)).alloc (.cells #[.int .i64 0, .int .i64 0, .int .i64 0, .int .i64 0, .slice none 0 0, .slice none 0 0] 25)).alloc (.cells #[.int .i64 0, .int .i64 0, .int .i64 0, .bool false, .slice none 0 0, .bool false, .slice none 0 0] 30) = w1 := ⟨_, rfl⟩
  have HB1 : Hid ((x : TxD).In w1 (w.heap.size)) := by
    rw [← hw1]
    have q := TxD.In.new (w) (x)
    exact q.keep (((Mod.refl (fun _ => False) _).alloc _).alloc _)
  have HR1 : Hid ((TxD.zero : TxD).In w1 (w.heap.size + 1)) := by
    rw [← hw1]
    have q := TxD.In.new (w.alloc (.cells #[.int .i64 x.id, .int .i64 x.st, .int .i64 x.f, .int .i64 x.l, .slice x.A x.n x.c, .slice x.B x.m x.d] 25)) (TxD.zero)
    simp only [World.size_alloc] at q
    exact q.keep ((Mod.refl (fun _ => False) _).alloc _)
  have HC1 : Hid ((ChD.zero : ChD).In w1 (w.heap.size + 2)) := by
    rw [← hw1]
    have q := ChD.In.new ((w.alloc (.cells #[.int .i64 x.id, .int .i64 x.st, .int .i64 x.f, .int .i64 x.l, .slice x.A x.n x.c, .slice x.B x.m x.d] 25)).alloc (.cells #[.int .i64 0, .int .i64 0, .int .i64 0, .int .i64 0, .slice none 0 0, .slice none 0 0] 25)) (ChD.zero)
    simp only [World.size_alloc] at q
    exact q.keep (Mod.refl (fun _ => False) _)
  have HM1 : Hid (Mod (fun _ => False) w w1) := by rw [← hw1]; exact (((Mod.refl (fun _ => False) w).alloc _).alloc _).alloc _
  have hz1 : w.heap.size + 3 ≤ w1.heap.size := by rw [← hw1]; simp
  obtain ⟨c0, c1, c2, c3, c4, c5⟩ := HB1.out.cells
  have HMay := Lib.hid (fun V (hV : Mod (fun _ => False) w V) => may_ok V x (h.keep hV) hn hm)
  have HX := Lib.hid h
  have HN := Lib.hid hn
  have HM := Lib.hid hm
  have Hsm := Lib.hid h.small
  have HE : Hid (undoE x.p = if mayT x.p then (if x.n = 0 then 3 else 0) else 1) := by unfold undoE; rw [h.nL]; rfl
  clear h hn hm
  have HMx : Hid (mayT x.p = true) := hb1
  rw [hb1] at HMay HE Hsm
  clear hb1
  have hd0 : ((x.n : Int) == 0) = false := by simpa using h0
  have HE0 : Hid (undoE x.p = 0) := by show _ = _; rw [HE.out, if_neg h0]; rfl
  have H0 := Lib.hid h0
  clear HE h0
  go_enter Try.func14, Try.ntmps14
  go_wp2_with fail
  refine (HMay.out _ HM1.out).mono ?_
  rintro e w2 ⟨rfl, hm2⟩
  have HM2 := Lib.hid (HM1.out.trans hm2 (fun _ _ h => h))
  have hz2 := hm2.size
  have HB2 := Lib.hid (HB1.out.keep hm2)
  have HR2 := Lib.hid (HR1.out.keep hm2)
  have HC2 := Lib.hid (HC1.out.keep hm2)
  clear hm2
  clear hw1 c0 c1 c2 c3 c4 c5
  obtain ⟨c0, c1, c2, c3, c4, c5⟩ := HB2.out.cells
  have HC := Lib.hid (copied_ok w2 x (HX.out.keep HM2.out) HN.out HM.out (Hsm.out trivial))
  go_wp2_with fail
  refine HC.out.mono ?_
  rintro e w3 ⟨z, rfl, hz, hzp, hm3⟩
  have HZ := Lib.hid hz
  have HZp := Lib.hid hzp
  have HM3 := Lib.hid (HM2.out.trans hm3 (fun _ _ h => h))
  have hz3 := hm3.size
  have HB3 := Lib.hid (HB2.out.keep hm3)
  have HR3 := Lib.hid (HR2.out.keep hm3)
  have HC3 := Lib.hid (HC2.out.keep hm3)
  clear HC hz hzp hm3 hd0 c0 c1 c2 c3 c4 c5
  obtain ⟨c0, c1, c2, c3, c4, c5⟩ := HB3.out.cells
  have f0 := HB3.out.fz 0
  have f1 := HB3.out.fz 1
  have f2 := HB3.out.fz 2
  have f3 := HB3.out.fz 3
  have f4 := HB3.out.fz 4
  have f5 := HB3.out.fz 5
  obtain ⟨w4, hw4⟩ : ∃ w4, (((((w3.setCell ⟨w.heap.size, 0, none⟩ (.int .i64 z.id)).setCell ⟨w.heap.size, 1, none⟩ (.int .i64 z.st)).setCell ⟨w.heap.size, 2, none⟩ (.int .i64 z.f)).setCell ⟨w.heap.size, 3, none⟩ (.int .i64 z.l)).setCell ⟨w.heap.size, 4, none⟩ (.slice z.A z.n z.c)).setCell ⟨w.heap.size, 5, none⟩ (.slice z.B z.m z.d) = w4 := ⟨_, rfl⟩
  have hq4 : stT w3 (w.heap.size) z = w4 := hw4
  have hs4 : Mod (fun k => k = w.heap.size) w3 w4 := by rw [← hq4]; exact stT_mod w3 (w.heap.size) z
  have HM4 : Hid (Mod (fun _ => False) w w4) := HM3.out.trans hs4 (fun k _ e => by omega)
  have hz4 := hs4.size
  have HB4 : Hid ((z : TxD).In w4 (w.heap.size)) := by rw [← hq4]; exact HB3.out.set z
  have HR4 := Lib.hid (HR3.out.mod hs4 (fun e => by omega))
  have HC4 := Lib.hid (HC3.out.mod hs4 (fun e => by omega))
  clear hq4
  have HZ4 := Lib.hid (HZ.out.old hs4 (by omega))
  clear hs4
  have hzn : z.n = x.n := by have h1 := HZ.out.at_.nL; have h2 := HZp.out; have h3 := HX.out.nL; rw [h2] at h1; omega
  have hzm : z.m = x.m := by have h1 := HZ.out.at_.nS; have h2 := HZp.out; have h3 := HX.out.nS; rw [h2] at h1; omega
  have l1 : z.n - 1 < z.n := by have := H0.out; omega
  have lc := OwN.cap HZ4.out.L
  have lm := OwV.cap HZ4.out.S
  have hn2 : z.n ≤ 1000 := by rw [hzn]; exact HN.out
  have hm2 : z.m ≤ 1000 := by rw [hzm]; exact HM.out
  have Hzn := Lib.hid hzn
  have e2 : (z.n : Int) - 1 = ((z.n - 1 : Nat) : Int) := by omega
  have e1 : IntKind.i64.wrap ((z.n - 1 : Nat) : Int) = ((z.n - 1 : Nat) : Int) := by rw [IntKind.wrap_i64]; omega
  obtain ⟨q, hq⟩ : ∃ q, z.n - 1 = q := ⟨_, rfl⟩
  rw [hq] at l1 e1 e2
  have Hq := Lib.hid hq
  obtain ⟨c9, hc9⟩ : ∃ c9, z.L[q]? = some c9 := ⟨_, List.getElem?_eq_getElem (by rw [HZ.out.at_.L.len]; exact l1)⟩
  have Hc9 := Lib.hid hc9
  obtain ⟨gA, hgA, hcA⟩ := OwN.cells HZ4.out.L (by omega)
  have hk : ∀ j, j < 7 → w4.cell? ⟨gA, q * 7 + j, none⟩ = (chc c9)[j]? := fun j hj => by rw [hcA _ (by omega), chs_get z.L q c9 hc9 j hj]
  have s0 : w4.cell? ⟨gA, q * 7, none⟩ = some (.int .i64 c9.lsn) := hk 0 (by omega)
  have s1 : w4.cell? ⟨gA, q * 7 + 1, none⟩ = some (.int .i64 c9.page) := hk 1 (by omega)
  have s2 : w4.cell? ⟨gA, q * 7 + 2, none⟩ = some (.int .i64 c9.key) := hk 2 (by omega)
  have s3 : w4.cell? ⟨gA, q * 7 + 3, none⟩ = some (.bool c9.o.is) := hk 3 (by omega)
  have s4 : w4.cell? ⟨gA, q * 7 + 4, none⟩ = some (.slice c9.o.B c9.o.m c9.o.d) := hk 4 (by omega)
  have s5 : w4.cell? ⟨gA, q * 7 + 5, none⟩ = some (.bool c9.v.is) := hk 5 (by omega)
  have s6 : w4.cell? ⟨gA, q * 7 + 6, none⟩ = some (.slice c9.v.B c9.v.m c9.v.d) := hk 6 (by omega)
  clear hk hcA hc9 hq hzn hzm
  obtain ⟨d0, d1, d2, d3, d4, d5⟩ : w4.cell? ⟨w.heap.size, 0, none⟩ = some (.int .i64 z.id) ∧ w4.cell? ⟨w.heap.size, 1, none⟩ = some (.int .i64 z.st) ∧ w4.cell? ⟨w.heap.size, 2, none⟩ = some (.int .i64 z.f) ∧ w4.cell? ⟨w.heap.size, 3, none⟩ = some (.int .i64 z.l) ∧ w4.cell? ⟨w.heap.size, 4, none⟩ = some (.slice z.A z.n z.c) ∧ w4.cell? ⟨w.heap.size, 5, none⟩ = some (.slice z.B z.m z.d) := HB4.out.cells
  rw [hgA] at d4 hw4
  obtain ⟨w5, hw5⟩ : ∃ w5, w4.alloc (.cells #[.int .i64 c9.lsn, .int .i64 c9.page, .int .i64 c9.key, .bool c9.o.is, .slice c9.o.B c9.o.m c9.o.d, .bool c9.v.is, .slice c9.v.B c9.v.m c9.v.d] 30) = w5 := ⟨_, rfl⟩
  have hm5 : Mod (fun _ => False) w4 w5 := by rw [← hw5]; exact (Mod.refl _ w4).alloc _
  have hi5 : c9.In w5 w4.heap.size := by rw [← hw5]; exact ChD.In.new w4 c9
  have HZ5 := Lib.hid (HZ4.out.keep hm5)
  have HL4 : Hid (c9.In w5 w4.heap.size) := hi5
  have HM5 := Lib.hid (HM4.out.trans hm5 (fun _ _ h => h))
  have hz5 := hm5.size
  have HB5 := Lib.hid (HB4.out.keep hm5)
  have HR5 := Lib.hid (HR4.out.keep hm5)
  have HC5 := Lib.hid (HC4.out.keep hm5)
  have HL5 := HL4
  clear HL4 hi5 hm5
  have h4 := HB5.out.fz 4
  have h5 := HB5.out.fz 5
  obtain ⟨b0, b1, b2, b3, b4, b5⟩ : w5.cell? ⟨w.heap.size, 0, none⟩ = some (.int .i64 z.id) ∧ w5.cell? ⟨w.heap.size, 1, none⟩ = some (.int .i64 z.st) ∧ w5.cell? ⟨w.heap.size, 2, none⟩ = some (.int .i64 z.f) ∧ w5.cell? ⟨w.heap.size, 3, none⟩ = some (.int .i64 z.l) ∧ w5.cell? ⟨w.heap.size, 4, none⟩ = some (.slice z.A z.n z.c) ∧ w5.cell? ⟨w.heap.size, 5, none⟩ = some (.slice z.B z.m z.d) := HB5.out.cells
  rw [hgA] at b4
  have hsl : ∀ w, (Instr.sliceAt 22 (.slice (some ⟨gA, 0, none⟩) z.n z.c) none (some (.int .i64 (q : Int))) (some (.int .i64 (q : Int)))).run Try.prog w = .ok (.slice (some ⟨gA, 0, none⟩) q q) w := fun w => slice_pre Try.underlying22 7 (fun w => by kernel_rfl) (.inr ⟨gA, rfl⟩) z.n z.c q (by omega) w
  obtain ⟨w6, hw6⟩ : ∃ w6, w5.setCell ⟨w.heap.size, 4, none⟩ (.slice (some ⟨gA, 0, none⟩) q q) = w6 := ⟨_, rfl⟩
  have hs6 : Mod (fun k => k = w.heap.size) w5 w6 := by rw [← hw6]; exact (Mod.refl (fun k => k = w.heap.size) w5).one (fun _ => rfl) _ _
  have HM6 : Hid (Mod (fun _ => False) w w6) := HM5.out.trans hs6 (fun k _ e => by omega)
  have hz6 := hs6.size
  have HB6 : Hid ((⟨z.id, z.st, z.f, z.l, some ⟨gA, 0, none⟩, q, q, z.L, z.B, z.m, z.d, z.S⟩ : TxD).In w6 (w.heap.size)) := by rw [← hw6]; exact heap_set HB5.out 4 (.slice (some ⟨gA, 0, none⟩) q q)
  have HR6 := Lib.hid (HR5.out.mod hs6 (fun e => by omega))
  have HC6 := Lib.hid (HC5.out.mod hs6 (fun e => by omega))
  have HL6 := Lib.hid (HL5.out.mod hs6 (fun e => by omega))
  have HZ6 := Lib.hid (HZ5.out.old hs6 (by omega))
  clear hs6
  obtain ⟨e0, e1, e2, e3, e4, e5⟩ : w6.cell? ⟨w.heap.size, 0, none⟩ = some (.int .i64 z.id) ∧ w6.cell? ⟨w.heap.size, 1, none⟩ = some (.int .i64 z.st) ∧ w6.cell? ⟨w.heap.size, 2, none⟩ = some (.int .i64 z.f) ∧ w6.cell? ⟨w.heap.size, 3, none⟩ = some (.int .i64 z.l) ∧ w6.cell? ⟨w.heap.size, 4, none⟩ = some (.slice (some ⟨gA, 0, none⟩) q q) ∧ w6.cell? ⟨w.heap.size, 5, none⟩ = some (.slice z.B z.m z.d) := HB6.out.cells
  have HS := Lib.hid (savesUpTo_ok w6 z.B z.m z.d z.S HZ6.out.at_.S (by omega) q)
  go_wp2_with fail
  refine HS.out.mono ?_
  rintro e w' ⟨hww, r, rfl, hr, hi, lo⟩
  subst w'
  have Hi := Lib.hid hi
  have Hlo := Lib.hid lo
  have Hg := Lib.hid hgA
  clear hi lo hgA HS hsl hw4 hw5 c0 c1 c2 c3 c4 c5 f0 f1 f2 f3 f4 f5 d0 d1 d2 d3 d4 d5 s0 s1 s2 s3 s4 s5 s6 b0 b1 b2 b3 b4 b5 h4 h5 hn2 hm2 hw6 e0 e1 e2 e3 e4 e5
  clear e1 e2
  obtain ⟨e0, e1, e2, e3, e4, e5⟩ : w6.cell? ⟨w.heap.size, 0, none⟩ = some (.int .i64 z.id) ∧ w6.cell? ⟨w.heap.size, 1, none⟩ = some (.int .i64 z.st) ∧ w6.cell? ⟨w.heap.size, 2, none⟩ = some (.int .i64 z.f) ∧ w6.cell? ⟨w.heap.size, 3, none⟩ = some (.int .i64 z.l) ∧ w6.cell? ⟨w.heap.size, 4, none⟩ = some (.slice (some ⟨gA, 0, none⟩) q q) ∧ w6.cell? ⟨w.heap.size, 5, none⟩ = some (.slice z.B z.m z.d) := HB6.out.cells
  have f5 := HB6.out.fz 5
  have hsl : ∀ w, (Instr.sliceAt 23 (.slice z.B z.m z.d) none (some (.int .i64 (r : Int))) (some (.int .i64 (r : Int)))).run Try.prog w = .ok (.slice z.B r r) w := fun w => slice_pre Try.underlying23 1 (fun w => by kernel_rfl) (OwN.form (size := 1) HZ6.out.S) z.m z.d r (by omega) w
  obtain ⟨w7, hw7⟩ : ∃ w7, w6.setCell ⟨w.heap.size, 5, none⟩ (.slice z.B r r) = w7 := ⟨_, rfl⟩
  have hs7 : Mod (fun k => k = w.heap.size) w6 w7 := by rw [← hw7]; exact (Mod.refl (fun k => k = w.heap.size) w6).one (fun _ => rfl) _ _
  have HM7 : Hid (Mod (fun _ => False) w w7) := HM6.out.trans hs7 (fun k _ e => by omega)
  have hz7 := hs7.size
  have HB7 : Hid ((⟨z.id, z.st, z.f, z.l, some ⟨gA, 0, none⟩, q, q, z.L, z.B, r, r, z.S⟩ : TxD).In w7 (w.heap.size)) := by rw [← hw7]; exact heap_set HB6.out 5 (.slice z.B r r)
  have HR7 := Lib.hid (HR6.out.mod hs7 (fun e => by omega))
  have HC7 := Lib.hid (HC6.out.mod hs7 (fun e => by omega))
  have HL7 := Lib.hid (HL6.out.mod hs7 (fun e => by omega))
  have HZ7 := Lib.hid (HZ6.out.old hs7 (by omega))
  clear hs7
  obtain ⟨w8, hw8⟩ : ∃ w8, w7.drew = w8 := ⟨_, rfl⟩
  have hm8 : Mod (fun _ => False) w7 w8 := by rw [← hw8]; exact (Mod.refl _ w7).drew
  have HM8 := Lib.hid (HM7.out.trans hm8 (fun _ _ h => h))
  have hz8 := hm8.size
  have HB8 := Lib.hid (HB7.out.keep hm8)
  have HR8 := Lib.hid (HR7.out.keep hm8)
  have HC8 := Lib.hid (HC7.out.keep hm8)
  have HL8 := Lib.hid (HL7.out.keep hm8)
  have HZ8 := Lib.hid (HZ7.out.keep hm8)
  have HW8 := Lib.hid hw8
  clear hm8 hw8
  have g0 := HR8.out.fz 0
  have g1 := HR8.out.fz 1
  have g2 := HR8.out.fz 2
  have g3 := HR8.out.fz 3
  have g4 := HR8.out.fz 4
  have g5 := HR8.out.fz 5
  obtain ⟨r0, r1, r2, r3, r4, r5⟩ : w8.cell? ⟨w.heap.size + 1, 0, none⟩ = some (.int .i64 0) ∧ w8.cell? ⟨w.heap.size + 1, 1, none⟩ = some (.int .i64 0) ∧ w8.cell? ⟨w.heap.size + 1, 2, none⟩ = some (.int .i64 0) ∧ w8.cell? ⟨w.heap.size + 1, 3, none⟩ = some (.int .i64 0) ∧ w8.cell? ⟨w.heap.size + 1, 4, none⟩ = some (.slice none 0 0) ∧ w8.cell? ⟨w.heap.size + 1, 5, none⟩ = some (.slice none 0 0) := HR8.out.cells
  obtain ⟨w9, hw9⟩ : ∃ w9, (((((w8.setCell ⟨w.heap.size + 1, 0, none⟩ (.int .i64 z.id)).setCell ⟨w.heap.size + 1, 1, none⟩ (.int .i64 z.st)).setCell ⟨w.heap.size + 1, 2, none⟩ (.int .i64 z.f)).setCell ⟨w.heap.size + 1, 3, none⟩ (.int .i64 z.l)).setCell ⟨w.heap.size + 1, 4, none⟩ (.slice (some ⟨gA, 0, none⟩) q q)).setCell ⟨w.heap.size + 1, 5, none⟩ (.slice z.B r r) = w9 := ⟨_, rfl⟩
  have hq9 : stT w8 (w.heap.size + 1) ⟨z.id, z.st, z.f, z.l, some ⟨gA, 0, none⟩, q, q, z.L, z.B, r, r, z.S⟩ = w9 := hw9
  have hs9 : Mod (fun k => k = w.heap.size + 1) w8 w9 := by rw [← hq9]; exact stT_mod w8 (w.heap.size + 1) ⟨z.id, z.st, z.f, z.l, some ⟨gA, 0, none⟩, q, q, z.L, z.B, r, r, z.S⟩
  have HM9 : Hid (Mod (fun _ => False) w w9) := HM8.out.trans hs9 (fun k _ e => by omega)
  have hz9 := hs9.size
  have HB9 := Lib.hid (HB8.out.mod hs9 (fun e => by omega))
  have HR9 : Hid ((⟨z.id, z.st, z.f, z.l, some ⟨gA, 0, none⟩, q, q, z.L, z.B, r, r, z.S⟩ : TxD).In w9 (w.heap.size + 1)) := by rw [← hq9]; exact HR8.out.set ⟨z.id, z.st, z.f, z.l, some ⟨gA, 0, none⟩, q, q, z.L, z.B, r, r, z.S⟩
  have HC9 := Lib.hid (HC8.out.mod hs9 (fun e => by omega))
  have HL9 := Lib.hid (HL8.out.mod hs9 (fun e => by omega))
  clear hq9
  have HZ9 := Lib.hid (HZ8.out.old hs9 (by omega))
  clear hs9
  have k0 := HC9.out.fz 0
  have k1 := HC9.out.fz 1
  have k2 := HC9.out.fz 2
  have k3 := HC9.out.fz 3
  have k4 := HC9.out.fz 4
  have k5 := HC9.out.fz 5
  have k6 := HC9.out.fz 6
  obtain ⟨s0, s1, s2, s3, s4, s5, s6⟩ : w9.cell? ⟨w.heap.size + 2, 0, none⟩ = some (.int .i64 0) ∧ w9.cell? ⟨w.heap.size + 2, 1, none⟩ = some (.int .i64 0) ∧ w9.cell? ⟨w.heap.size + 2, 2, none⟩ = some (.int .i64 0) ∧ w9.cell? ⟨w.heap.size + 2, 3, none⟩ = some (.bool false) ∧ w9.cell? ⟨w.heap.size + 2, 4, none⟩ = some (.slice none 0 0) ∧ w9.cell? ⟨w.heap.size + 2, 5, none⟩ = some (.bool false) ∧ w9.cell? ⟨w.heap.size + 2, 6, none⟩ = some (.slice none 0 0) := HC9.out.cells
  obtain ⟨w10, hw10⟩ : ∃ w10, ((((((w9.setCell ⟨w.heap.size + 2, 0, none⟩ (.int .i64 c9.lsn)).setCell ⟨w.heap.size + 2, 1, none⟩ (.int .i64 c9.page)).setCell ⟨w.heap.size + 2, 2, none⟩ (.int .i64 c9.key)).setCell ⟨w.heap.size + 2, 3, none⟩ (.bool c9.o.is)).setCell ⟨w.heap.size + 2, 4, none⟩ (.slice c9.o.B c9.o.m c9.o.d)).setCell ⟨w.heap.size + 2, 5, none⟩ (.bool c9.v.is)).setCell ⟨w.heap.size + 2, 6, none⟩ (.slice c9.v.B c9.v.m c9.v.d) = w10 := ⟨_, rfl⟩
  have hq10 : stC w9 (w.heap.size + 2) 0 c9 = w10 := hw10
  have hs10 : Mod (fun k => k = w.heap.size + 2) w9 w10 := by rw [← hq10]; exact stC_mod w9 (w.heap.size + 2) 0 c9
  have HM10 : Hid (Mod (fun _ => False) w w10) := HM9.out.trans hs10 (fun k _ e => by omega)
  have hz10 := hs10.size
  have HB10 := Lib.hid (HB9.out.mod hs10 (fun e => by omega))
  have HR10 := Lib.hid (HR9.out.mod hs10 (fun e => by omega))
  have HC10 : Hid ((c9 : ChD).In w10 (w.heap.size + 2)) := by rw [← hq10]; exact HC9.out.set c9
  have HL10 := Lib.hid (HL9.out.mod hs10 (fun e => by omega))
  clear hq10
  have HZ10 := Lib.hid (HZ9.out.old hs10 (by omega))
  clear hs10
  go_wp2_with fail
  clear hsl f5 e0 e1 e2 e3 e4 e5 hw7
  refine wp_region_held (S := (fun W : World => (W.cell? ⟨w.heap.size, 0, none⟩ = some (.int .i64 z.id) ∧ W.cell? ⟨w.heap.size, 1, none⟩ = some (.int .i64 z.st) ∧ W.cell? ⟨w.heap.size, 2, none⟩ = some (.int .i64 z.f) ∧ W.cell? ⟨w.heap.size, 3, none⟩ = some (.int .i64 z.l) ∧ W.cell? ⟨w.heap.size, 4, none⟩ = some (.slice (some ⟨gA, 0, none⟩) q q) ∧ W.cell? ⟨w.heap.size, 5, none⟩ = some (.slice z.B r r)) ∧ (W.cell? ⟨w4.heap.size, 0, none⟩ = some (.int .i64 c9.lsn) ∧ W.cell? ⟨w4.heap.size, 1, none⟩ = some (.int .i64 c9.page) ∧ W.cell? ⟨w4.heap.size, 2, none⟩ = some (.int .i64 c9.key) ∧ W.cell? ⟨w4.heap.size, 3, none⟩ = some (.bool c9.o.is) ∧ W.cell? ⟨w4.heap.size, 4, none⟩ = some (.slice c9.o.B c9.o.m c9.o.d) ∧ W.cell? ⟨w4.heap.size, 5, none⟩ = some (.bool c9.v.is) ∧ W.cell? ⟨w4.heap.size, 6, none⟩ = some (.slice c9.v.B c9.v.m c9.v.d)))) (by kernel_rfl) ?_
  change wpAnyH _ _ _ _ _ _ _ _ w7.drew
  rw [HW8.out]
  have hI := (show (fun W : World => (W.cell? ⟨w.heap.size, 0, none⟩ = some (.int .i64 z.id) ∧ W.cell? ⟨w.heap.size, 1, none⟩ = some (.int .i64 z.st) ∧ W.cell? ⟨w.heap.size, 2, none⟩ = some (.int .i64 z.f) ∧ W.cell? ⟨w.heap.size, 3, none⟩ = some (.int .i64 z.l) ∧ W.cell? ⟨w.heap.size, 4, none⟩ = some (.slice (some ⟨gA, 0, none⟩) q q) ∧ W.cell? ⟨w.heap.size, 5, none⟩ = some (.slice z.B r r)) ∧ (W.cell? ⟨w4.heap.size, 0, none⟩ = some (.int .i64 c9.lsn) ∧ W.cell? ⟨w4.heap.size, 1, none⟩ = some (.int .i64 c9.page) ∧ W.cell? ⟨w4.heap.size, 2, none⟩ = some (.int .i64 c9.key) ∧ W.cell? ⟨w4.heap.size, 3, none⟩ = some (.bool c9.o.is) ∧ W.cell? ⟨w4.heap.size, 4, none⟩ = some (.slice c9.o.B c9.o.m c9.o.d) ∧ W.cell? ⟨w4.heap.size, 5, none⟩ = some (.bool c9.v.is) ∧ W.cell? ⟨w4.heap.size, 6, none⟩ = some (.slice c9.v.B c9.v.m c9.v.d))) _ from ⟨HB8.out.cells, HL8.out.cells⟩)
  refine rg_take (n := 4) (v := ?_) 0 (some 46) rfl rfl (by kernel_rfl) (by kernel_rfl) (by kernel_rfl) (fun _ _ _ h => h) (by rfl) hI ?_ ?_
  rotate_left
  · ((intro w hSw; (try dsimp only at hSw); go_simp); (try with_reducible rfl))
  try simp only [Act.put, List.setIfInBounds_toArray, List.set_cons_zero, List.set_cons_succ]
  refine rg_take (n := 3) (v := ?_) 1 (some 47) rfl rfl (by kernel_rfl) (by kernel_rfl) (by kernel_rfl) (fun _ _ _ h => h) (by rfl) hI ?_ ?_
  rotate_left
  · ((intro w hSw; (try dsimp only at hSw); go_simp); (try with_reducible rfl))
  try simp only [Act.put, List.setIfInBounds_toArray, List.set_cons_zero, List.set_cons_succ]
  refine rg_one (n := 2) 2 rfl (by kernel_rfl) (by rfl) ?_
  go_simp
  clear hI
  have hI := (show (fun W : World => (W.cell? ⟨w.heap.size, 0, none⟩ = some (.int .i64 z.id) ∧ W.cell? ⟨w.heap.size, 1, none⟩ = some (.int .i64 z.st) ∧ W.cell? ⟨w.heap.size, 2, none⟩ = some (.int .i64 z.f) ∧ W.cell? ⟨w.heap.size, 3, none⟩ = some (.int .i64 z.l) ∧ W.cell? ⟨w.heap.size, 4, none⟩ = some (.slice (some ⟨gA, 0, none⟩) q q) ∧ W.cell? ⟨w.heap.size, 5, none⟩ = some (.slice z.B r r)) ∧ (W.cell? ⟨w4.heap.size, 0, none⟩ = some (.int .i64 c9.lsn) ∧ W.cell? ⟨w4.heap.size, 1, none⟩ = some (.int .i64 c9.page) ∧ W.cell? ⟨w4.heap.size, 2, none⟩ = some (.int .i64 c9.key) ∧ W.cell? ⟨w4.heap.size, 3, none⟩ = some (.bool c9.o.is) ∧ W.cell? ⟨w4.heap.size, 4, none⟩ = some (.slice c9.o.B c9.o.m c9.o.d) ∧ W.cell? ⟨w4.heap.size, 5, none⟩ = some (.bool c9.v.is) ∧ W.cell? ⟨w4.heap.size, 6, none⟩ = some (.slice c9.v.B c9.v.m c9.v.d))) _ from ⟨HB9.out.cells, HL9.out.cells⟩)
  first | refine ⟨hI, ?_⟩ | skip
  try simp only [Act.put]
  refine rg_one (n := 1) 3 rfl (by kernel_rfl) (by rfl) ?_
  go_simp
  clear hI
  have hI := (show (fun W : World => (W.cell? ⟨w.heap.size, 0, none⟩ = some (.int .i64 z.id) ∧ W.cell? ⟨w.heap.size, 1, none⟩ = some (.int .i64 z.st) ∧ W.cell? ⟨w.heap.size, 2, none⟩ = some (.int .i64 z.f) ∧ W.cell? ⟨w.heap.size, 3, none⟩ = some (.int .i64 z.l) ∧ W.cell? ⟨w.heap.size, 4, none⟩ = some (.slice (some ⟨gA, 0, none⟩) q q) ∧ W.cell? ⟨w.heap.size, 5, none⟩ = some (.slice z.B r r)) ∧ (W.cell? ⟨w4.heap.size, 0, none⟩ = some (.int .i64 c9.lsn) ∧ W.cell? ⟨w4.heap.size, 1, none⟩ = some (.int .i64 c9.page) ∧ W.cell? ⟨w4.heap.size, 2, none⟩ = some (.int .i64 c9.key) ∧ W.cell? ⟨w4.heap.size, 3, none⟩ = some (.bool c9.o.is) ∧ W.cell? ⟨w4.heap.size, 4, none⟩ = some (.slice c9.o.B c9.o.m c9.o.d) ∧ W.cell? ⟨w4.heap.size, 5, none⟩ = some (.bool c9.v.is) ∧ W.cell? ⟨w4.heap.size, 6, none⟩ = some (.slice c9.v.B c9.v.m c9.v.d))) _ from ⟨HB10.out.cells, HL10.out.cells⟩)
  first | refine ⟨hI, ?_⟩ | skip
  try simp only [Act.put]
  refine rg_take (n := 0) (v := ?_) 4 (some 4) rfl rfl (by kernel_rfl) (by kernel_rfl) (by kernel_rfl) (fun _ _ _ h => h) (by rfl) hI ?_ ?_
  rotate_left
  · ((intro w hSw; (try dsimp only at hSw); go_simp); (try with_reducible rfl))
  try simp only [Act.put, List.setIfInBounds_toArray, List.set_cons_zero, List.set_cons_succ]
  refine wpAnyH_done (by kernel_rfl) ?_ _
  clear hI
  go_wp2
  clear hw9 hw10 g0 g1 g2 g3 g4 g5 r0 r1 r2 r3 r4 r5 k0 k1 k2 k3 k4 k5 k6 s0 s1 s2 s3 s4 s5 s6
  obtain ⟨q0, q1, q2, q3, q4, q5⟩ : w10.cell? ⟨w.heap.size + 1, 0, none⟩ = some (.int .i64 z.id) ∧ w10.cell? ⟨w.heap.size + 1, 1, none⟩ = some (.int .i64 z.st) ∧ w10.cell? ⟨w.heap.size + 1, 2, none⟩ = some (.int .i64 z.f) ∧ w10.cell? ⟨w.heap.size + 1, 3, none⟩ = some (.int .i64 z.l) ∧ w10.cell? ⟨w.heap.size + 1, 4, none⟩ = some (.slice (some ⟨gA, 0, none⟩) q q) ∧ w10.cell? ⟨w.heap.size + 1, 5, none⟩ = some (.slice z.B r r) := HR10.out.cells
  obtain ⟨p0, p1, p2, p3, p4, p5, p6⟩ : w10.cell? ⟨w.heap.size + 2, 0, none⟩ = some (.int .i64 c9.lsn) ∧ w10.cell? ⟨w.heap.size + 2, 1, none⟩ = some (.int .i64 c9.page) ∧ w10.cell? ⟨w.heap.size + 2, 2, none⟩ = some (.int .i64 c9.key) ∧ w10.cell? ⟨w.heap.size + 2, 3, none⟩ = some (.bool c9.o.is) ∧ w10.cell? ⟨w.heap.size + 2, 4, none⟩ = some (.slice c9.o.B c9.o.m c9.o.d) ∧ w10.cell? ⟨w.heap.size + 2, 5, none⟩ = some (.bool c9.v.is) ∧ w10.cell? ⟨w.heap.size + 2, 6, none⟩ = some (.slice c9.v.B c9.v.m c9.v.d) := HC10.out.cells
  refine bodyPost_ret (v := .tuple #[.agg #[.int .i64 z.id, .int .i64 z.st, .int .i64 z.f, .int .i64 z.l, .slice (some ⟨gA, 0, none⟩) q q, .slice z.B r r], .agg #[.int .i64 c9.lsn, .int .i64 c9.page, .int .i64 c9.key, .bool c9.o.is, .slice c9.o.B c9.o.m c9.o.d, .bool c9.v.is, .slice c9.v.B c9.v.m c9.v.d], .int .i64 0]) (by simp [results, Try.results14, go_sem, q0, q1, q2, q3, q4, q5, p0, p1, p2, p3, p4, p5, p6]) rfl ?_
  have hnl := HZ.out.at_.nL
  refine ⟨⟨z.id, z.st, z.f, z.l, some ⟨gA, 0, none⟩, q, q, z.L.take q, z.B, r, r, z.S.take r⟩, c9, by rw [HE0.out], fun b0 => ?_, (HZ10.out.vals c9 (List.mem_of_getElem? Hc9.out)).at_, ?_, ?_, HM10.out⟩
  · have := HZ10.out.cut (q := q) (r := r) (by omega) hr b0
    rwa [Hg.out] at this
  · rw [HE0.out, if_pos rfl, ← HZp.out]
    have hS := HMx.out
    rw [← HZp.out] at hS
    have hS := sL_rises (mayT_iff.1 hS).2.2.2.2.2
    have hlS : z.S.length = z.m := HZ.out.at_.S.len
    have hf := cut_filter (S := z.S) (k := q) (r := r) (fun i j => hS j i) (by omega) (fun j h1 h2 => Hi.out j h1 (by omega)) Hlo.out
    show (⟨z.id, z.st, z.f, z.l, pc (z.L.take q), z.S.take r⟩ : Tp) = ⟨z.id, z.st, z.f, z.l, (pc z.L).take (z.p.L.length - 1), z.S.filter (leq (z.p.L.length - 1))⟩
    rw [hnl, Hq.out, pc_take, hf]
  · rw [HE0.out, if_pos rfl, ← HZp.out]
    show c9.p = atC (pc z.L) (z.p.L.length - 1)
    rw [hnl, Hq.out, atC_of (pc_at Hc9.out)]
theorem undo_ok (w : World) (x : TxD) (h : x.At w) (hn : x.n ≤ 1000) (hm : x.m ≤ 1000) :
    Calls Try.prog 14 #[.agg #[.int .i64 x.id, .int .i64 x.st, .int .i64 x.f, .int .i64 x.l, .slice x.A x.n x.c, .slice x.B x.m x.d]] w fun e w' => UnAns w w' (undoE x.p) (undoT x.p) (undoC x.p) e := by
  cases hb1 : mayT x.p with
  | false => exact undo_no w x h hn hm hb1
  | true =>
    by_cases h0 : x.n = 0
    · exact undo_none w x h hn hm hb1 h0
    · exact undo_yes w x h hn hm hb1 h0
end Go.Proofs.Ytidcmolkolcliaa
