/-
  The reference: Undo.
-/
import Derived.Test.YtidcmolkolcliaaXRa
import Derived.Deep.DeepCutAuto
namespace Go.Proofs.Ytidcmolkolcliaa
open Go Go.RowKit

theorem slice_low {t : TypeId} (ht : Try.prog.underlying t = some (.slice (Try.prog.elem t))) (z : Nat) (hs : ∀ w, (sizeOf (Try.prog.elem t)).run Try.prog w = .ok z w) (b o n c q : Nat) (hq : q ≤ c) (w : World) :
    (Instr.sliceAt t (.slice (some ⟨b, o, none⟩) n c) none (some (.int .i64 (q : Int))) none).run Try.prog w = .ok (.slice (some ⟨b, o, none⟩) q c) w := by
  have hs := hs w
  rw [run_sliceAt_slice w t _ _ _ _ ht, run_slice_h w t (some ⟨b, o, none⟩) n c ht .i64 (q : Int) (by omega) (by omega), hs]
  simp only [Result.andThen, sliced, Int.toNat_natCast, Nat.sub_zero, Nat.zero_mul]
  by_cases h0 : c = 0
  · rw [if_pos h0]
  · rw [if_neg h0]
    rfl
theorem flt_succ {S : List Int} {q i : Nat} (hi : i < S.length) : (S.take (i + 1)).filter (leq q) = (S.take i).filter (leq q) ++ (if atI S i ≤ (q : Int) then [atI S i] else []) := by
  rw [take_succ_at (atI_at hi), List.filter_append]
  congr 1
  by_cases h : atI S i ≤ (q : Int)
  · simp [leq, h]
  · simp [leq, h]
set_option maxRecDepth 100000 in
set_option maxHeartbeats 3200000 in
theorem rundo_no (b0 : Nat) (w : World) (x : TxD) (h : Kp b0 w x) (hn : x.n ≤ 1000) (hm : x.m ≤ 1000) (hb1 : mayT x.p = false) :
    Calls Try.prog 15 #[.agg #[.int .i64 x.id, .int .i64 x.st, .int .i64 x.f, .int .i64 x.l, .slice x.A x.n x.c, .slice x.B x.m x.d]] w fun e w' => RuAns b0 w w' (undoE x.p) (undoT x.p) (undoC x.p) e := by
  obtain ⟨w1, hw1⟩ : ∃ w1, ((w.alloc (.cells #[.int .i64 x.id, .int .i64 x.st, .int .i64 x.f, .int .i64 x.l, .slice x.A x.n x.c, .slice x.B x.m x.d] 25)).alloc (.cells #[.int .i64 0, .int .i64 0, .int .i64 0, .int .i64 0, .slice none 0 0, .slice none 0 0] 25)).alloc (.cells #[.int .i64 0, .int .i64 0, .int .i64 0, .bool false, .slice none 0 0, .bool false, .slice none 0 0] 30) = w1 := ⟨_, rfl⟩
  have HB1 : Hid ((x : TxD).In w1 (w.heap.size)) := by
    rw [← hw1]
    have q := TxD.In.new (w) (x)
    exact q.keep (((Mod.refl (fun _ => False) _).alloc _).alloc _)
  have HR1 : Hid ((TxD.zero : TxD).In w1 (w.heap.size + 1)) := by
    rw [← hw1]
    have q := TxD.In.new (w.alloc (.cells #[.int .i64 x.id, .int .i64 x.st, .int .i64 x.f, .int .i64 x.l, .slice x.A x.n x.c, .slice x.B x.m x.d] 25)) (TxD.zero)
    simp only [World.size_alloc] at q
    exact q.keep ((Mod.refl (fun _ => False) _).alloc _)
  have HC1 : Hid ((ChD.zero : ChD).In w1 (w.heap.size + 2)) := by
    rw [← hw1]
    have q := ChD.In.new ((w.alloc (.cells #[.int .i64 x.id, .int .i64 x.st, .int .i64 x.f, .int .i64 x.l, .slice x.A x.n x.c, .slice x.B x.m x.d] 25)).alloc (.cells #[.int .i64 0, .int .i64 0, .int .i64 0, .int .i64 0, .slice none 0 0, .slice none 0 0] 25)) (ChD.zero)
    simp only [World.size_alloc] at q
    exact q.keep (Mod.refl (fun _ => False) _)
  have HM1 : Hid (Mod (fun _ => False) w w1) := by rw [← hw1]; exact (((Mod.refl (fun _ => False) w).alloc _).alloc _).alloc _
  have hz1 : w.heap.size + 3 ≤ w1.heap.size := by rw [← hw1]; simp
  obtain ⟨c0, c1, c2, c3, c4, c5⟩ := HB1.out.cells
  have HMay := Lib.hid (fun V (hV : Mod (fun _ => False) w V) => rmay_ok V x (h.at_.keep hV))
  have HX := Lib.hid h
  have HN := Lib.hid hn
  have HM := Lib.hid hm
  have HE : Hid (undoE x.p = if mayT x.p then (if x.n = 0 then 3 else 0) else 1) := by unfold undoE; rw [h.at_.nL]; rfl
  clear h hn hm
  clear HX HN HM
  rw [hb1] at HMay HE
  clear hb1
  go_enter Try.func15, Try.ntmps15
  go_wp2_with fail
  refine (HMay.out _ HM1.out).mono ?_
  rintro e w2 ⟨rfl, hm2⟩
  have HM2 := Lib.hid (HM1.out.trans hm2 (fun _ _ h => h))
  have hz2 := hm2.size
  have HB2 := Lib.hid (HB1.out.keep hm2)
  have HR2 := Lib.hid (HR1.out.keep hm2)
  have HC2 := Lib.hid (HC1.out.keep hm2)
  clear hm2
  clear hw1 c0 c1 c2 c3 c4 c5
  obtain ⟨c0, c1, c2, c3, c4, c5⟩ := HB2.out.cells
  obtain ⟨r0, r1, r2, r3, r4, r5⟩ : w2.cell? ⟨w.heap.size + 1, 0, none⟩ = some (.int .i64 0) ∧ w2.cell? ⟨w.heap.size + 1, 1, none⟩ = some (.int .i64 0) ∧ w2.cell? ⟨w.heap.size + 1, 2, none⟩ = some (.int .i64 0) ∧ w2.cell? ⟨w.heap.size + 1, 3, none⟩ = some (.int .i64 0) ∧ w2.cell? ⟨w.heap.size + 1, 4, none⟩ = some (.slice none 0 0) ∧ w2.cell? ⟨w.heap.size + 1, 5, none⟩ = some (.slice none 0 0) := HR2.out.cells
  obtain ⟨s0, s1, s2, s3, s4, s5, s6⟩ : w2.cell? ⟨w.heap.size + 2, 0, none⟩ = some (.int .i64 0) ∧ w2.cell? ⟨w.heap.size + 2, 1, none⟩ = some (.int .i64 0) ∧ w2.cell? ⟨w.heap.size + 2, 2, none⟩ = some (.int .i64 0) ∧ w2.cell? ⟨w.heap.size + 2, 3, none⟩ = some (.bool false) ∧ w2.cell? ⟨w.heap.size + 2, 4, none⟩ = some (.slice none 0 0) ∧ w2.cell? ⟨w.heap.size + 2, 5, none⟩ = some (.bool false) ∧ w2.cell? ⟨w.heap.size + 2, 6, none⟩ = some (.slice none 0 0) := HC2.out.cells
  have g0 := HR2.out.fz 0
  have g1 := HR2.out.fz 1
  have g2 := HR2.out.fz 2
  have g3 := HR2.out.fz 3
  have g4 := HR2.out.fz 4
  have g5 := HR2.out.fz 5
  have k0 := HC2.out.fz 0
  have k1 := HC2.out.fz 1
  have k2 := HC2.out.fz 2
  have k3 := HC2.out.fz 3
  have k4 := HC2.out.fz 4
  have k5 := HC2.out.fz 5
  have k6 := HC2.out.fz 6
  obtain ⟨w3, hw3⟩ : ∃ w3, (((((w2.setCell ⟨w.heap.size + 1, 0, none⟩ (.int .i64 0)).setCell ⟨w.heap.size + 1, 1, none⟩ (.int .i64 0)).setCell ⟨w.heap.size + 1, 2, none⟩ (.int .i64 0)).setCell ⟨w.heap.size + 1, 3, none⟩ (.int .i64 0)).setCell ⟨w.heap.size + 1, 4, none⟩ (.slice none 0 0)).setCell ⟨w.heap.size + 1, 5, none⟩ (.slice none 0 0) = w3 := ⟨_, rfl⟩
  have hq3 : stT w2 (w.heap.size + 1) TxD.zero = w3 := hw3
  have hs3 : Mod (fun k => k = w.heap.size + 1) w2 w3 := by rw [← hq3]; exact stT_mod w2 (w.heap.size + 1) TxD.zero
  have HM3 : Hid (Mod (fun _ => False) w w3) := HM2.out.trans hs3 (fun k _ e => by omega)
  have hz3 := hs3.size
  have HB3 := Lib.hid (HB2.out.mod hs3 (fun e => by omega))
  have HR3 : Hid ((TxD.zero : TxD).In w3 (w.heap.size + 1)) := by rw [← hq3]; exact HR2.out.set TxD.zero
  have HC3 := Lib.hid (HC2.out.mod hs3 (fun e => by omega))
  clear hq3
  clear hs3
  obtain ⟨u0, u1, u2, u3, u4, u5, u6⟩ : w3.cell? ⟨w.heap.size + 2, 0, none⟩ = some (.int .i64 0) ∧ w3.cell? ⟨w.heap.size + 2, 1, none⟩ = some (.int .i64 0) ∧ w3.cell? ⟨w.heap.size + 2, 2, none⟩ = some (.int .i64 0) ∧ w3.cell? ⟨w.heap.size + 2, 3, none⟩ = some (.bool false) ∧ w3.cell? ⟨w.heap.size + 2, 4, none⟩ = some (.slice none 0 0) ∧ w3.cell? ⟨w.heap.size + 2, 5, none⟩ = some (.bool false) ∧ w3.cell? ⟨w.heap.size + 2, 6, none⟩ = some (.slice none 0 0) := HC3.out.cells
  have l0 := HC3.out.fz 0
  have l1 := HC3.out.fz 1
  have l2 := HC3.out.fz 2
  have l3 := HC3.out.fz 3
  have l4 := HC3.out.fz 4
  have l5 := HC3.out.fz 5
  have l6 := HC3.out.fz 6
  obtain ⟨w4, hw4⟩ : ∃ w4, ((((((w3.setCell ⟨w.heap.size + 2, 0, none⟩ (.int .i64 0)).setCell ⟨w.heap.size + 2, 1, none⟩ (.int .i64 0)).setCell ⟨w.heap.size + 2, 2, none⟩ (.int .i64 0)).setCell ⟨w.heap.size + 2, 3, none⟩ (.bool false)).setCell ⟨w.heap.size + 2, 4, none⟩ (.slice none 0 0)).setCell ⟨w.heap.size + 2, 5, none⟩ (.bool false)).setCell ⟨w.heap.size + 2, 6, none⟩ (.slice none 0 0) = w4 := ⟨_, rfl⟩
  have hq4 : stC w3 (w.heap.size + 2) 0 ChD.zero = w4 := hw4
  have hs4 : Mod (fun k => k = w.heap.size + 2) w3 w4 := by rw [← hq4]; exact stC_mod w3 (w.heap.size + 2) 0 ChD.zero
  have HM4 : Hid (Mod (fun _ => False) w w4) := HM3.out.trans hs4 (fun k _ e => by omega)
  have hz4 := hs4.size
  have HB4 := Lib.hid (HB3.out.mod hs4 (fun e => by omega))
  have HR4 := Lib.hid (HR3.out.mod hs4 (fun e => by omega))
  have HC4 : Hid ((ChD.zero : ChD).In w4 (w.heap.size + 2)) := by rw [← hq4]; exact HC3.out.set ChD.zero
  clear hq4
  clear hs4
  have HW4 := Lib.hid hw4
  clear hw4
  go_wp2
  rw [HW4.out]
  clear hw3 c0 c1 c2 c3 c4 c5 r0 r1 r2 r3 r4 r5 g0 g1 g2 g3 g4 g5 s0 s1 s2 s3 s4 s5 s6 k0 k1 k2 k3 k4 k5 k6 u0 u1 u2 u3 u4 u5 u6 l0 l1 l2 l3 l4 l5 l6
  obtain ⟨q0, q1, q2, q3, q4, q5⟩ : w4.cell? ⟨w.heap.size + 1, 0, none⟩ = some (.int .i64 0) ∧ w4.cell? ⟨w.heap.size + 1, 1, none⟩ = some (.int .i64 0) ∧ w4.cell? ⟨w.heap.size + 1, 2, none⟩ = some (.int .i64 0) ∧ w4.cell? ⟨w.heap.size + 1, 3, none⟩ = some (.int .i64 0) ∧ w4.cell? ⟨w.heap.size + 1, 4, none⟩ = some (.slice none 0 0) ∧ w4.cell? ⟨w.heap.size + 1, 5, none⟩ = some (.slice none 0 0) := HR4.out.cells
  obtain ⟨p0, p1, p2, p3, p4, p5, p6⟩ : w4.cell? ⟨w.heap.size + 2, 0, none⟩ = some (.int .i64 0) ∧ w4.cell? ⟨w.heap.size + 2, 1, none⟩ = some (.int .i64 0) ∧ w4.cell? ⟨w.heap.size + 2, 2, none⟩ = some (.int .i64 0) ∧ w4.cell? ⟨w.heap.size + 2, 3, none⟩ = some (.bool false) ∧ w4.cell? ⟨w.heap.size + 2, 4, none⟩ = some (.slice none 0 0) ∧ w4.cell? ⟨w.heap.size + 2, 5, none⟩ = some (.bool false) ∧ w4.cell? ⟨w.heap.size + 2, 6, none⟩ = some (.slice none 0 0) := HC4.out.cells
  refine bodyPost_ret (v := .tuple #[.agg #[.int .i64 0, .int .i64 0, .int .i64 0, .int .i64 0, .slice none 0 0, .slice none 0 0], .agg #[.int .i64 0, .int .i64 0, .int .i64 0, .bool false, .slice none 0 0, .bool false, .slice none 0 0], .int .i64 1]) (by simp [results, Try.results15, go_sem, q0, q1, q2, q3, q4, q5, p0, p1, p2, p3, p4, p5, p6]) rfl ?_
  exact ⟨TxD.zero, ChD.zero, by rw [HE.out]; rfl, TxD.zero_kp _ _, ChD.zero_at _, by rw [HE.out]; rfl, by rw [HE.out]; rfl, HM4.out⟩
set_option maxRecDepth 100000 in
set_option maxHeartbeats 3200000 in
theorem rundo_none (b0 : Nat) (w : World) (x : TxD) (h : Kp b0 w x) (hn : x.n ≤ 1000) (hm : x.m ≤ 1000) (hb1 : mayT x.p = true) (h0 : x.n = 0) :
    Calls Try.prog 15 #[.agg #[.int .i64 x.id, .int .i64 x.st, .int .i64 x.f, .int .i64 x.l, .slice x.A x.n x.c, .slice x.B x.m x.d]] w fun e w' => RuAns b0 w w' (undoE x.p) (undoT x.p) (undoC x.p) e := by
  obtain ⟨w1, hw1⟩ : ∃ w1, ((w.alloc (.cells #[.int .i64 x.id, .int .i64 x.st, .int .i64 x.f, .int .i64 x.l, .slice x.A x.n x.c, .slice x.B x.m x.d] 25)).alloc (.cells #[.int .i64 0, .int .i64 0, .int .i64 0, .int .i64 0, .slice none 0 0, .slice none 0 0] 25)).alloc (.cells #[.int .i64 0, .int .i64 0, .int .i64 0, .bool false, .slice none 0 0, .bool false, .slice none 0 0] 30) = w1 := ⟨_, rfl⟩
  have HB1 : Hid ((x : TxD).In w1 (w.heap.size)) := by
    rw [← hw1]
    have q := TxD.In.new (w) (x)
    exact q.keep (((Mod.refl (fun _ => False) _).alloc _).alloc _)
  have HR1 : Hid ((TxD.zero : TxD).In w1 (w.heap.size + 1)) := by
    rw [← hw1]
    have q := TxD.In.new (w.alloc (.cells #[.int .i64 x.id, .int .i64 x.st, .int .i64 x.f, .int .i64 x.l, .slice x.A x.n x.c, .slice x.B x.m x.d] 25)) (TxD.zero)
    simp only [World.size_alloc] at q
    exact q.keep ((Mod.refl (fun _ => False) _).alloc _)
  have HC1 : Hid ((ChD.zero : ChD).In w1 (w.heap.size + 2)) := by
    rw [← hw1]
    have q := ChD.In.new ((w.alloc (.cells #[.int .i64 x.id, .int .i64 x.st, .int .i64 x.f, .int .i64 x.l, .slice x.A x.n x.c, .slice x.B x.m x.d] 25)).alloc (.cells #[.int .i64 0, .int .i64 0, .int .i64 0, .int .i64 0, .slice none 0 0, .slice none 0 0] 25)) (ChD.zero)
    simp only [World.size_alloc] at q
    exact q.keep (Mod.refl (fun _ => False) _)
  have HM1 : Hid (Mod (fun _ => False) w w1) := by rw [← hw1]; exact (((Mod.refl (fun _ => False) w).alloc _).alloc _).alloc _
  have hz1 : w.heap.size + 3 ≤ w1.heap.size := by rw [← hw1]; simp
  obtain ⟨c0, c1, c2, c3, c4, c5⟩ := HB1.out.cells
  have HMay := Lib.hid (fun V (hV : Mod (fun _ => False) w V) => rmay_ok V x (h.at_.keep hV))
  have HX := Lib.hid h
  have HN := Lib.hid hn
  have HM := Lib.hid hm
  have HE : Hid (undoE x.p = if mayT x.p then (if x.n = 0 then 3 else 0) else 1) := by unfold undoE; rw [h.at_.nL]; rfl
  clear h hn hm
  clear HX HN HM
  rw [hb1] at HMay HE
  clear hb1
  have hd0 : ((x.n : Int) == 0) = true := by simp [h0]
  rw [if_pos h0] at HE
  clear h0
  go_enter Try.func15, Try.ntmps15
  go_wp2_with fail
  refine (HMay.out _ HM1.out).mono ?_
  rintro e w2 ⟨rfl, hm2⟩
  have HM2 := Lib.hid (HM1.out.trans hm2 (fun _ _ h => h))
  have hz2 := hm2.size
  have HB2 := Lib.hid (HB1.out.keep hm2)
  have HR2 := Lib.hid (HR1.out.keep hm2)
  have HC2 := Lib.hid (HC1.out.keep hm2)
  clear hm2
  clear hw1 c0 c1 c2 c3 c4 c5
  obtain ⟨c0, c1, c2, c3, c4, c5⟩ := HB2.out.cells
  obtain ⟨r0, r1, r2, r3, r4, r5⟩ : w2.cell? ⟨w.heap.size + 1, 0, none⟩ = some (.int .i64 0) ∧ w2.cell? ⟨w.heap.size + 1, 1, none⟩ = some (.int .i64 0) ∧ w2.cell? ⟨w.heap.size + 1, 2, none⟩ = some (.int .i64 0) ∧ w2.cell? ⟨w.heap.size + 1, 3, none⟩ = some (.int .i64 0) ∧ w2.cell? ⟨w.heap.size + 1, 4, none⟩ = some (.slice none 0 0) ∧ w2.cell? ⟨w.heap.size + 1, 5, none⟩ = some (.slice none 0 0) := HR2.out.cells
  obtain ⟨s0, s1, s2, s3, s4, s5, s6⟩ : w2.cell? ⟨w.heap.size + 2, 0, none⟩ = some (.int .i64 0) ∧ w2.cell? ⟨w.heap.size + 2, 1, none⟩ = some (.int .i64 0) ∧ w2.cell? ⟨w.heap.size + 2, 2, none⟩ = some (.int .i64 0) ∧ w2.cell? ⟨w.heap.size + 2, 3, none⟩ = some (.bool false) ∧ w2.cell? ⟨w.heap.size + 2, 4, none⟩ = some (.slice none 0 0) ∧ w2.cell? ⟨w.heap.size + 2, 5, none⟩ = some (.bool false) ∧ w2.cell? ⟨w.heap.size + 2, 6, none⟩ = some (.slice none 0 0) := HC2.out.cells
  have g0 := HR2.out.fz 0
  have g1 := HR2.out.fz 1
  have g2 := HR2.out.fz 2
  have g3 := HR2.out.fz 3
  have g4 := HR2.out.fz 4
  have g5 := HR2.out.fz 5
  have k0 := HC2.out.fz 0
  have k1 := HC2.out.fz 1
  have k2 := HC2.out.fz 2
  have k3 := HC2.out.fz 3
  have k4 := HC2.out.fz 4
  have k5 := HC2.out.fz 5
  have k6 := HC2.out.fz 6
  obtain ⟨w3, hw3⟩ : ∃ w3, (((((w2.setCell ⟨w.heap.size + 1, 0, none⟩ (.int .i64 0)).setCell ⟨w.heap.size + 1, 1, none⟩ (.int .i64 0)).setCell ⟨w.heap.size + 1, 2, none⟩ (.int .i64 0)).setCell ⟨w.heap.size + 1, 3, none⟩ (.int .i64 0)).setCell ⟨w.heap.size + 1, 4, none⟩ (.slice none 0 0)).setCell ⟨w.heap.size + 1, 5, none⟩ (.slice none 0 0) = w3 := ⟨_, rfl⟩
  have hq3 : stT w2 (w.heap.size + 1) TxD.zero = w3 := hw3
  have hs3 : Mod (fun k => k = w.heap.size + 1) w2 w3 := by rw [← hq3]; exact stT_mod w2 (w.heap.size + 1) TxD.zero
  have HM3 : Hid (Mod (fun _ => False) w w3) := HM2.out.trans hs3 (fun k _ e => by omega)
  have hz3 := hs3.size
  have HB3 := Lib.hid (HB2.out.mod hs3 (fun e => by omega))
  have HR3 : Hid ((TxD.zero : TxD).In w3 (w.heap.size + 1)) := by rw [← hq3]; exact HR2.out.set TxD.zero
  have HC3 := Lib.hid (HC2.out.mod hs3 (fun e => by omega))
  clear hq3
  clear hs3
  obtain ⟨u0, u1, u2, u3, u4, u5, u6⟩ : w3.cell? ⟨w.heap.size + 2, 0, none⟩ = some (.int .i64 0) ∧ w3.cell? ⟨w.heap.size + 2, 1, none⟩ = some (.int .i64 0) ∧ w3.cell? ⟨w.heap.size + 2, 2, none⟩ = some (.int .i64 0) ∧ w3.cell? ⟨w.heap.size + 2, 3, none⟩ = some (.bool false) ∧ w3.cell? ⟨w.heap.size + 2, 4, none⟩ = some (.slice none 0 0) ∧ w3.cell? ⟨w.heap.size + 2, 5, none⟩ = some (.bool false) ∧ w3.cell? ⟨w.heap.size + 2, 6, none⟩ = some (.slice none 0 0) := HC3.out.cells
  have l0 := HC3.out.fz 0
  have l1 := HC3.out.fz 1
  have l2 := HC3.out.fz 2
  have l3 := HC3.out.fz 3
  have l4 := HC3.out.fz 4
  have l5 := HC3.out.fz 5
  have l6 := HC3.out.fz 6
  obtain ⟨w4, hw4⟩ : ∃ w4, ((((((w3.setCell ⟨w.heap.size + 2, 0, none⟩ (.int .i64 0)).setCell ⟨w.heap.size + 2, 1, none⟩ (.int .i64 0)).setCell ⟨w.heap.size + 2, 2, none⟩ (.int .i64 0)).setCell ⟨w.heap.size + 2, 3, none⟩ (.bool false)).setCell ⟨w.heap.size + 2, 4, none⟩ (.slice none 0 0)).setCell ⟨w.heap.size + 2, 5, none⟩ (.bool false)).setCell ⟨w.heap.size + 2, 6, none⟩ (.slice none 0 0) = w4 := ⟨_, rfl⟩
  have hq4 : stC w3 (w.heap.size + 2) 0 ChD.zero = w4 := hw4
  have hs4 : Mod (fun k => k = w.heap.size + 2) w3 w4 := by rw [← hq4]; exact stC_mod w3 (w.heap.size + 2) 0 ChD.zero
  have HM4 : Hid (Mod (fun _ => False) w w4) := HM3.out.trans hs4 (fun k _ e => by omega)
  have hz4 := hs4.size
  have HB4 := Lib.hid (HB3.out.mod hs4 (fun e => by omega))
  have HR4 := Lib.hid (HR3.out.mod hs4 (fun e => by omega))
  have HC4 : Hid ((ChD.zero : ChD).In w4 (w.heap.size + 2)) := by rw [← hq4]; exact HC3.out.set ChD.zero
  clear hq4
  clear hs4
  have HW4 := Lib.hid hw4
  clear hw4
  go_wp2
  rw [HW4.out]
  clear hw3 c0 c1 c2 c3 c4 c5 r0 r1 r2 r3 r4 r5 g0 g1 g2 g3 g4 g5 s0 s1 s2 s3 s4 s5 s6 k0 k1 k2 k3 k4 k5 k6 u0 u1 u2 u3 u4 u5 u6 l0 l1 l2 l3 l4 l5 l6
  obtain ⟨q0, q1, q2, q3, q4, q5⟩ : w4.cell? ⟨w.heap.size + 1, 0, none⟩ = some (.int .i64 0) ∧ w4.cell? ⟨w.heap.size + 1, 1, none⟩ = some (.int .i64 0) ∧ w4.cell? ⟨w.heap.size + 1, 2, none⟩ = some (.int .i64 0) ∧ w4.cell? ⟨w.heap.size + 1, 3, none⟩ = some (.int .i64 0) ∧ w4.cell? ⟨w.heap.size + 1, 4, none⟩ = some (.slice none 0 0) ∧ w4.cell? ⟨w.heap.size + 1, 5, none⟩ = some (.slice none 0 0) := HR4.out.cells
  obtain ⟨p0, p1, p2, p3, p4, p5, p6⟩ : w4.cell? ⟨w.heap.size + 2, 0, none⟩ = some (.int .i64 0) ∧ w4.cell? ⟨w.heap.size + 2, 1, none⟩ = some (.int .i64 0) ∧ w4.cell? ⟨w.heap.size + 2, 2, none⟩ = some (.int .i64 0) ∧ w4.cell? ⟨w.heap.size + 2, 3, none⟩ = some (.bool false) ∧ w4.cell? ⟨w.heap.size + 2, 4, none⟩ = some (.slice none 0 0) ∧ w4.cell? ⟨w.heap.size + 2, 5, none⟩ = some (.bool false) ∧ w4.cell? ⟨w.heap.size + 2, 6, none⟩ = some (.slice none 0 0) := HC4.out.cells
  refine bodyPost_ret (v := .tuple #[.agg #[.int .i64 0, .int .i64 0, .int .i64 0, .int .i64 0, .slice none 0 0, .slice none 0 0], .agg #[.int .i64 0, .int .i64 0, .int .i64 0, .bool false, .slice none 0 0, .bool false, .slice none 0 0], .int .i64 3]) (by simp [results, Try.results15, go_sem, q0, q1, q2, q3, q4, q5, p0, p1, p2, p3, p4, p5, p6]) rfl ?_
  exact ⟨TxD.zero, ChD.zero, by rw [HE.out]; rfl, TxD.zero_kp _ _, ChD.zero_at _, by rw [HE.out]; rfl, by rw [HE.out]; rfl, HM4.out⟩
set_option maxRecDepth 100000 in
set_option maxHeartbeats 3200000 in
theorem rundo_yes (b0 : Nat) (w : World) (x : TxD) (h : Kp b0 w x) (hn : x.n ≤ 1000) (hm : x.m ≤ 1000) (hb1 : mayT x.p = true) (h0 : ¬ x.n = 0) :
    Calls Try.prog 15 #[.agg #[.int .i64 x.id, .int .i64 x.st, .int .i64 x.f, .int .i64 x.l, .slice x.A x.n x.c, .slice x.B x.m x.d]] w fun e w' => RuAns b0 w w' (undoE x.p) (undoT x.p) (undoC x.p) e := by
  obtain ⟨w1, hw1⟩ : ∃ w1, ((w.alloc (.cells #[.int .i64 x.id, .int .i64 x.st, .int .i64 x.f, .int .i64 x.l, .slice x.A x.n x.c, .slice x.B x.m x.d] 25)).alloc (.cells #[.int .i64 0, .int .i64 0, .int .i64 0, .int .i64 0, .slice none 0 0, .slice none 0 0] 25)).alloc (.cells #[.int .i64 0, .int .i64 0, .int .i64 0, .bool false, .slice none 0 0, .bool false, .slice none 0 0] 30) = w1 := ⟨_, rfl⟩
  have HB1 : Hid ((x : TxD).In w1 (w.heap.size)) := by
    rw [← hw1]
    have q := TxD.In.new (w) (x)
    exact q.keep (((Mod.refl (fun _ => False) _).alloc _).alloc _)
  have HR1 : Hid ((TxD.zero : TxD).In w1 (w.heap.size + 1)) := by
    rw [← hw1]
    have q := TxD.In.new (w.alloc (.cells #[.int .i64 x.id, .int .i64 x.st, .int .i64 x.f, .int .i64 x.l, .slice x.A x.n x.c, .slice x.B x.m x.d] 25)) (TxD.zero)
    simp only [World.size_alloc] at q
    exact q.keep ((Mod.refl (fun _ => False) _).alloc _)
  have HC1 : Hid ((ChD.zero : ChD).In w1 (w.heap.size + 2)) := by
    rw [← hw1]
    have q := ChD.In.new ((w.alloc (.cells #[.int .i64 x.id, .int .i64 x.st, .int .i64 x.f, .int .i64 x.l, .slice x.A x.n x.c, .slice x.B x.m x.d] 25)).alloc (.cells #[.int .i64 0, .int .i64 0, .int .i64 0, .int .i64 0, .slice none 0 0, .slice none 0 0] 25)) (ChD.zero)
    simp only [World.size_alloc] at q
    exact q.keep (Mod.refl (fun _ => False) _)
  have HM1 : Hid (Mod (fun _ => False) w w1) := by rw [← hw1]; exact (((Mod.refl (fun _ => False) w).alloc _).alloc _).alloc _
  have hz1 : w.heap.size + 3 ≤ w1.heap.size := by rw [← hw1]; simp
  obtain ⟨c0, c1, c2, c3, c4, c5⟩ := HB1.out.cells
  have HMay := Lib.hid (fun V (hV : Mod (fun _ => False) w V) => rmay_ok V x (h.at_.keep hV))
  have HX := Lib.hid h
  have HN := Lib.hid hn
  have HM := Lib.hid hm
  have HE : Hid (undoE x.p = if mayT x.p then (if x.n = 0 then 3 else 0) else 1) := by unfold undoE; rw [h.at_.nL]; rfl
  clear h hn hm
  rw [hb1] at HMay HE
  clear hb1
  have hd0 : ((x.n : Int) == 0) = false := by simpa using h0
  have HE0 : Hid (undoE x.p = 0) := by show _ = _; rw [HE.out, if_pos rfl, if_neg h0]
  have H0 := Lib.hid h0
  clear HE h0
  go_enter Try.func15, Try.ntmps15
  go_wp2_with fail
  refine (HMay.out _ HM1.out).mono ?_
  rintro e w2 ⟨rfl, hm2⟩
  have HM2 := Lib.hid (HM1.out.trans hm2 (fun _ _ h => h))
  have hz2 := hm2.size
  have HB2 := Lib.hid (HB1.out.keep hm2)
  have HR2 := Lib.hid (HR1.out.keep hm2)
  have HC2 := Lib.hid (HC1.out.keep hm2)
  clear hm2
  clear hw1 c0 c1 c2 c3 c4 c5
  obtain ⟨c0, c1, c2, c3, c4, c5⟩ := HB2.out.cells
  have l1 : x.n - 1 < x.n := by have := H0.out; omega
  have lc := HX.out.at_.L.cap
  have e2 : (x.n : Int) - 1 = ((x.n - 1 : Nat) : Int) := by omega
  have e1 : IntKind.i64.wrap ((x.n - 1 : Nat) : Int) = ((x.n - 1 : Nat) : Int) := by have := HN.out; rw [IntKind.wrap_i64]; omega
  obtain ⟨q, hq⟩ : ∃ q, x.n - 1 = q := ⟨_, rfl⟩
  rw [hq] at l1 e1 e2
  have Hq := Lib.hid hq
  obtain ⟨c9, hc9⟩ : ∃ c9, x.L[q]? = some c9 := ⟨_, List.getElem?_eq_getElem (by rw [HX.out.at_.L.len]; exact l1)⟩
  have Hc9 := Lib.hid hc9
  obtain ⟨b, o, hA, hcs⟩ := (HX.out.at_.keep HM2.out).L.cells (by omega)
  obtain ⟨s0, s1, s2, s3, s4, s5, s6⟩ := hcs q c9 hc9
  have Hg := Lib.hid hA
  rw [hA] at c4
  clear hcs hc9 hq hA
  obtain ⟨w3, hw3⟩ : ∃ w3, w2.alloc (.cells #[.int .i64 c9.lsn, .int .i64 c9.page, .int .i64 c9.key, .bool c9.o.is, .slice c9.o.B c9.o.m c9.o.d, .bool c9.v.is, .slice c9.v.B c9.v.m c9.v.d] 30) = w3 := ⟨_, rfl⟩
  have hm3 : Mod (fun _ => False) w2 w3 := by rw [← hw3]; exact (Mod.refl _ w2).alloc _
  have hi3 : c9.In w3 w2.heap.size := by rw [← hw3]; exact ChD.In.new w2 c9
  have HL2 : Hid (c9.In w3 w2.heap.size) := hi3
  have HM3 := Lib.hid (HM2.out.trans hm3 (fun _ _ h => h))
  have hz3 := hm3.size
  have HB3 := Lib.hid (HB2.out.keep hm3)
  have HR3 := Lib.hid (HR2.out.keep hm3)
  have HC3 := Lib.hid (HC2.out.keep hm3)
  have HL3 := HL2
  clear HL2 hi3 hm3
  have h4 := HB3.out.fz 4
  obtain ⟨m0, m1, m2, m3, m4, m5⟩ : w3.cell? ⟨w.heap.size, 0, none⟩ = some (.int .i64 x.id) ∧ w3.cell? ⟨w.heap.size, 1, none⟩ = some (.int .i64 x.st) ∧ w3.cell? ⟨w.heap.size, 2, none⟩ = some (.int .i64 x.f) ∧ w3.cell? ⟨w.heap.size, 3, none⟩ = some (.int .i64 x.l) ∧ w3.cell? ⟨w.heap.size, 4, none⟩ = some (.slice x.A x.n x.c) ∧ w3.cell? ⟨w.heap.size, 5, none⟩ = some (.slice x.B x.m x.d) := HB3.out.cells
  rw [Hg.out] at m4
  have hsl : ∀ w, (Instr.sliceAt 22 (.slice (some ⟨b, o, none⟩) x.n x.c) none (some (.int .i64 (q : Int))) none).run Try.prog w = .ok (.slice (some ⟨b, o, none⟩) q x.c) w := fun w => slice_low Try.underlying22 7 (fun w => by kernel_rfl) b o x.n x.c q (by omega) w
  obtain ⟨w4, hw4⟩ : ∃ w4, w3.setCell ⟨w.heap.size, 4, none⟩ (.slice (some ⟨b, o, none⟩) q x.c) = w4 := ⟨_, rfl⟩
  have hs4 : Mod (fun k => k = w.heap.size) w3 w4 := by rw [← hw4]; exact (Mod.refl (fun k => k = w.heap.size) w3).one (fun _ => rfl) _ _
  have HM4 : Hid (Mod (fun _ => False) w w4) := HM3.out.trans hs4 (fun k _ e => by omega)
  have hz4 := hs4.size
  have HB4 : Hid ((⟨x.id, x.st, x.f, x.l, some ⟨b, o, none⟩, q, x.c, x.L, x.B, x.m, x.d, x.S⟩ : TxD).In w4 (w.heap.size)) := by rw [← hw4]; exact heap_set HB3.out 4 (.slice (some ⟨b, o, none⟩) q x.c)
  have HR4 := Lib.hid (HR3.out.mod hs4 (fun e => by omega))
  have HC4 := Lib.hid (HC3.out.mod hs4 (fun e => by omega))
  have HL4 := Lib.hid (HL3.out.mod hs4 (fun e => by omega))
  clear hs4
  obtain ⟨v0, v1, v2, v3, v4, v5⟩ : w4.cell? ⟨w.heap.size, 0, none⟩ = some (.int .i64 x.id) ∧ w4.cell? ⟨w.heap.size, 1, none⟩ = some (.int .i64 x.st) ∧ w4.cell? ⟨w.heap.size, 2, none⟩ = some (.int .i64 x.f) ∧ w4.cell? ⟨w.heap.size, 3, none⟩ = some (.int .i64 x.l) ∧ w4.cell? ⟨w.heap.size, 4, none⟩ = some (.slice (some ⟨b, o, none⟩) q x.c) ∧ w4.cell? ⟨w.heap.size, 5, none⟩ = some (.slice x.B x.m x.d) := HB4.out.cells
  go_wp2_with fail
  clear hd0 hsl hw3 hw4 h4 e1 e2 c0 c1 c2 c3 c4 c5 m0 m1 m2 m3 m4 m5 s0 s1 s2 s3 s4 s5 s6 v0 v1 v2 v3 v4 v5
  have Hsz := Lib.hid hz1
  go_loopw [8, 9] (fun sv k W => ∃ (i r c' : Nat) (A' : Option Addr) (zs : List Int), k = .int .i64 i ∧ sv = .slice A' r c' ∧ OwI W w4.heap.size A' r c' zs ∧ zs = (x.S.take i).filter (leq q) ∧ r ≤ i ∧ i ≤ x.m ∧ Mod (fun _ => False) w4 W) (fun _ k _ => x.m - (intOf k).toNat)
  case atStart => exact ⟨0, 0, 0, none, [], rfl, rfl, OwI.nil _ _, rfl, by omega, by omega, Mod.refl _ _⟩
  case round =>
    obtain ⟨i, r, c', A', zs, rfl, rfl, ho, hzs, hri, hi, hm⟩ := hrel
    have HO := Lib.hid ho
    have Hzs := Lib.hid hzs
    have HMr := Lib.hid hm
    have HBr := Lib.hid (HB4.out.keep hm)
    have Hri := Lib.hid hri
    clear ho hzs hm hri
    obtain ⟨c0, c1, c2, c3, c4, c5⟩ : wr.cell? ⟨w.heap.size, 0, none⟩ = some (.int .i64 x.id) ∧ wr.cell? ⟨w.heap.size, 1, none⟩ = some (.int .i64 x.st) ∧ wr.cell? ⟨w.heap.size, 2, none⟩ = some (.int .i64 x.f) ∧ wr.cell? ⟨w.heap.size, 3, none⟩ = some (.int .i64 x.l) ∧ wr.cell? ⟨w.heap.size, 4, none⟩ = some (.slice (some ⟨b, o, none⟩) q x.c) ∧ wr.cell? ⟨w.heap.size, 5, none⟩ = some (.slice x.B x.m x.d) := HBr.out.cells
    by_cases hlt : i < x.m
    · have hxr := (HX.out.at_.keep (HM4.out.trans HMr.out (fun _ _ h => h))).S
      obtain ⟨b2, o2, hB, hc⟩ := hxr.2.2 (by omega)
      have hS := hxr.len
      have t0 := hc i _ (atI_at (by omega))
      have Hfs : Hid ((x.S.take (i + 1)).filter (leq q) = (x.S.take i).filter (leq q) ++ (if atI x.S i ≤ (q : Int) then [atI x.S i] else [])) := flt_succ (by omega)
      have l2 : i < x.d := by have := hxr.cap; omega
      have hm9 : x.m ≤ 1000 := HM.out
      rw [hB] at c5
      clear hc hxr hS hB
      by_cases hg : atI x.S i ≤ (q : Int)
      · have hgd : decide (atI x.S i ≤ (q : Int)) = true := decide_eq_true hg
        rw [if_pos hg] at Hfs
        clear hg
        obtain ⟨w5, hw5⟩ : ∃ w5, wr.alloc (.cells #[.int .i64 (atI x.S i)] 3) = w5 := ⟨_, rfl⟩
        have hm5 : Mod (fun _ => False) wr w5 := by rw [← hw5]; exact (Mod.refl _ wr).alloc _
        have HS5 : Hid (Src w5 (some ⟨wr.heap.size, 0, none⟩) 1 [.int .i64 (atI x.S i)]) := by rw [← hw5]; exact Src.one wr (.int .i64 (atI x.S i)) 3 rfl
        have HO5 := Lib.hid (OwV.mod HO.out hm5 (fun _ _ h => h))
        have HM5 := Lib.hid (HMr.out.trans hm5 (fun _ _ h => h))
        clear hm5
        go_wp2_with (at_builtin; refine Hid.out ?_)
        refine Lib.hid ?_
        refine wpList_app (.tmp 50) (.tmp 56) intElem rfl rfl rfl rfl HO5.out HS5.out (by have := HM.out; have := Hri.out; omega) (by have := HM.out; have := Hri.out; unfold maxLen; omega) HM5.out.size ?_
        intro A2 c2 w6 hO hg6 _
        have HM6 : Hid (Mod (fun _ => False) w4 w6) := HM5.out.grown hg6 (fun k e hk => by have := (OwV.lt HO.out k e).1; omega)
        have HO6 : Hid (OwI w6 w4.heap.size A2 (r + 1) c2 (zs ++ [atI x.S i])) := by
          show OwV w6 w4.heap.size 3 A2 (r + 1) c2 (ivs (zs ++ [atI x.S i]))
          rw [ivs_append]
          exact hO
        clear hO hg6 hw5
        go_wp2
        go_roundw
        case rel => exact ⟨i + 1, r + 1, c2, A2, zs ++ [atI x.S i], by go_num, rfl, HO6.out, by rw [Hfs.out, Hzs.out], by have := Hri.out; omega, by omega, HM6.out⟩
        case measure => simp [intOf]; omega
      · have hgd : decide (atI x.S i ≤ (q : Int)) = false := decide_eq_false hg
        rw [if_neg hg, List.append_nil] at Hfs
        clear hg
        go_wp2
        go_roundw
        case rel => exact ⟨i + 1, r, c', A', zs, by go_num, rfl, HO.out, by rw [Hfs.out, Hzs.out], by have := Hri.out; omega, by omega, HMr.out⟩
        case measure => simp [intOf]; omega
    · obtain rfl : i = x.m := by omega
      have HM6 := Lib.hid (HM4.out.trans HMr.out (fun _ _ h => h))
      have HB6 := HBr
      have HR6 := Lib.hid (HR4.out.keep HMr.out)
      have HC6 := Lib.hid (HC4.out.keep HMr.out)
      have HL6 := Lib.hid (HL4.out.keep HMr.out)
      have hz6 := HMr.out.size
      have HO6 := HO
      have f5 := HB6.out.fz 5
      obtain ⟨w7, hw7⟩ : ∃ w7, wr.setCell ⟨w.heap.size, 5, none⟩ (.slice A' r c') = w7 := ⟨_, rfl⟩
      have hs7 : Mod (fun k => k = w.heap.size) wr w7 := by rw [← hw7]; exact (Mod.refl (fun k => k = w.heap.size) wr).one (fun _ => rfl) _ _
      have HM7 : Hid (Mod (fun _ => False) w w7) := HM6.out.trans hs7 (fun k _ e => by omega)
      have hz7 := hs7.size
      have HB7 : Hid ((⟨x.id, x.st, x.f, x.l, some ⟨b, o, none⟩, q, x.c, x.L, A', r, c', x.S⟩ : TxD).In w7 (w.heap.size)) := by rw [← hw7]; exact heap_set HB6.out 5 (.slice A' r c')
      have HR7 := Lib.hid (HR6.out.mod hs7 (fun e => by omega))
      have HC7 := Lib.hid (HC6.out.mod hs7 (fun e => by omega))
      have HL7 := Lib.hid (HL6.out.mod hs7 (fun e => by omega))
      have HO7 := Lib.hid (OwV.mod HO6.out hs7 (fun k hk e => by have := (OwV.lt HO6.out k hk).1; omega))
      clear hs7
      obtain ⟨w8, hw8⟩ : ∃ w8, w7.drew = w8 := ⟨_, rfl⟩
      have hm8 : Mod (fun _ => False) w7 w8 := by rw [← hw8]; exact (Mod.refl _ w7).drew
      have HM8 := Lib.hid (HM7.out.trans hm8 (fun _ _ h => h))
      have hz8 := hm8.size
      have HB8 := Lib.hid (HB7.out.keep hm8)
      have HR8 := Lib.hid (HR7.out.keep hm8)
      have HC8 := Lib.hid (HC7.out.keep hm8)
      have HL8 := Lib.hid (HL7.out.keep hm8)
      have HO8 := Lib.hid (OwV.mod HO7.out hm8 (fun _ _ h => h))
      have HW8 := Lib.hid hw8
      clear hm8 hw8
      have g0 := HR8.out.fz 0
      have g1 := HR8.out.fz 1
      have g2 := HR8.out.fz 2
      have g3 := HR8.out.fz 3
      have g4 := HR8.out.fz 4
      have g5 := HR8.out.fz 5
      obtain ⟨r0, r1, r2, r3, r4, r5⟩ : w8.cell? ⟨w.heap.size + 1, 0, none⟩ = some (.int .i64 0) ∧ w8.cell? ⟨w.heap.size + 1, 1, none⟩ = some (.int .i64 0) ∧ w8.cell? ⟨w.heap.size + 1, 2, none⟩ = some (.int .i64 0) ∧ w8.cell? ⟨w.heap.size + 1, 3, none⟩ = some (.int .i64 0) ∧ w8.cell? ⟨w.heap.size + 1, 4, none⟩ = some (.slice none 0 0) ∧ w8.cell? ⟨w.heap.size + 1, 5, none⟩ = some (.slice none 0 0) := HR8.out.cells
      obtain ⟨w9, hw9⟩ : ∃ w9, (((((w8.setCell ⟨w.heap.size + 1, 0, none⟩ (.int .i64 x.id)).setCell ⟨w.heap.size + 1, 1, none⟩ (.int .i64 x.st)).setCell ⟨w.heap.size + 1, 2, none⟩ (.int .i64 x.f)).setCell ⟨w.heap.size + 1, 3, none⟩ (.int .i64 x.l)).setCell ⟨w.heap.size + 1, 4, none⟩ (.slice (some ⟨b, o, none⟩) q x.c)).setCell ⟨w.heap.size + 1, 5, none⟩ (.slice A' r c') = w9 := ⟨_, rfl⟩
      have hq9 : stT w8 (w.heap.size + 1) ⟨x.id, x.st, x.f, x.l, some ⟨b, o, none⟩, q, x.c, x.L, A', r, c', x.S⟩ = w9 := hw9
      have hs9 : Mod (fun k => k = w.heap.size + 1) w8 w9 := by rw [← hq9]; exact stT_mod w8 (w.heap.size + 1) ⟨x.id, x.st, x.f, x.l, some ⟨b, o, none⟩, q, x.c, x.L, A', r, c', x.S⟩
      have HM9 : Hid (Mod (fun _ => False) w w9) := HM8.out.trans hs9 (fun k _ e => by omega)
      have hz9 := hs9.size
      have HB9 := Lib.hid (HB8.out.mod hs9 (fun e => by omega))
      have HR9 : Hid ((⟨x.id, x.st, x.f, x.l, some ⟨b, o, none⟩, q, x.c, x.L, A', r, c', x.S⟩ : TxD).In w9 (w.heap.size + 1)) := by rw [← hq9]; exact HR8.out.set ⟨x.id, x.st, x.f, x.l, some ⟨b, o, none⟩, q, x.c, x.L, A', r, c', x.S⟩
      have HC9 := Lib.hid (HC8.out.mod hs9 (fun e => by omega))
      have HL9 := Lib.hid (HL8.out.mod hs9 (fun e => by omega))
      clear hq9
      have HO9 := Lib.hid (OwV.mod HO8.out hs9 (fun k hk e => by have := (OwV.lt HO6.out k hk).1; omega))
      clear hs9
      have k0 := HC9.out.fz 0
      have k1 := HC9.out.fz 1
      have k2 := HC9.out.fz 2
      have k3 := HC9.out.fz 3
      have k4 := HC9.out.fz 4
      have k5 := HC9.out.fz 5
      have k6 := HC9.out.fz 6
      obtain ⟨s0, s1, s2, s3, s4, s5, s6⟩ : w9.cell? ⟨w.heap.size + 2, 0, none⟩ = some (.int .i64 0) ∧ w9.cell? ⟨w.heap.size + 2, 1, none⟩ = some (.int .i64 0) ∧ w9.cell? ⟨w.heap.size + 2, 2, none⟩ = some (.int .i64 0) ∧ w9.cell? ⟨w.heap.size + 2, 3, none⟩ = some (.bool false) ∧ w9.cell? ⟨w.heap.size + 2, 4, none⟩ = some (.slice none 0 0) ∧ w9.cell? ⟨w.heap.size + 2, 5, none⟩ = some (.bool false) ∧ w9.cell? ⟨w.heap.size + 2, 6, none⟩ = some (.slice none 0 0) := HC9.out.cells
      obtain ⟨w10, hw10⟩ : ∃ w10, ((((((w9.setCell ⟨w.heap.size + 2, 0, none⟩ (.int .i64 c9.lsn)).setCell ⟨w.heap.size + 2, 1, none⟩ (.int .i64 c9.page)).setCell ⟨w.heap.size + 2, 2, none⟩ (.int .i64 c9.key)).setCell ⟨w.heap.size + 2, 3, none⟩ (.bool c9.o.is)).setCell ⟨w.heap.size + 2, 4, none⟩ (.slice c9.o.B c9.o.m c9.o.d)).setCell ⟨w.heap.size + 2, 5, none⟩ (.bool c9.v.is)).setCell ⟨w.heap.size + 2, 6, none⟩ (.slice c9.v.B c9.v.m c9.v.d) = w10 := ⟨_, rfl⟩
      have hq10 : stC w9 (w.heap.size + 2) 0 c9 = w10 := hw10
      have hs10 : Mod (fun k => k = w.heap.size + 2) w9 w10 := by rw [← hq10]; exact stC_mod w9 (w.heap.size + 2) 0 c9
      have HM10 : Hid (Mod (fun _ => False) w w10) := HM9.out.trans hs10 (fun k _ e => by omega)
      have hz10 := hs10.size
      have HB10 := Lib.hid (HB9.out.mod hs10 (fun e => by omega))
      have HR10 := Lib.hid (HR9.out.mod hs10 (fun e => by omega))
      have HC10 : Hid ((c9 : ChD).In w10 (w.heap.size + 2)) := by rw [← hq10]; exact HC9.out.set c9
      have HL10 := Lib.hid (HL9.out.mod hs10 (fun e => by omega))
      clear hq10
      have HO10 := Lib.hid (OwV.mod HO9.out hs10 (fun k hk e => by have := (OwV.lt HO6.out k hk).1; omega))
      clear hs10
      go_wp2_with fail
      clear f5 c0 c1 c2 c3 c4 c5 hw7
      refine wp_region_held (S := (fun W : World => (W.cell? ⟨w.heap.size, 0, none⟩ = some (.int .i64 x.id) ∧ W.cell? ⟨w.heap.size, 1, none⟩ = some (.int .i64 x.st) ∧ W.cell? ⟨w.heap.size, 2, none⟩ = some (.int .i64 x.f) ∧ W.cell? ⟨w.heap.size, 3, none⟩ = some (.int .i64 x.l) ∧ W.cell? ⟨w.heap.size, 4, none⟩ = some (.slice (some ⟨b, o, none⟩) q x.c) ∧ W.cell? ⟨w.heap.size, 5, none⟩ = some (.slice A' r c')) ∧ (W.cell? ⟨w2.heap.size, 0, none⟩ = some (.int .i64 c9.lsn) ∧ W.cell? ⟨w2.heap.size, 1, none⟩ = some (.int .i64 c9.page) ∧ W.cell? ⟨w2.heap.size, 2, none⟩ = some (.int .i64 c9.key) ∧ W.cell? ⟨w2.heap.size, 3, none⟩ = some (.bool c9.o.is) ∧ W.cell? ⟨w2.heap.size, 4, none⟩ = some (.slice c9.o.B c9.o.m c9.o.d) ∧ W.cell? ⟨w2.heap.size, 5, none⟩ = some (.bool c9.v.is) ∧ W.cell? ⟨w2.heap.size, 6, none⟩ = some (.slice c9.v.B c9.v.m c9.v.d)))) (by kernel_rfl) ?_
      change wpAnyH _ _ _ _ _ _ _ _ w7.drew
      rw [HW8.out]
      have hI := (show (fun W : World => (W.cell? ⟨w.heap.size, 0, none⟩ = some (.int .i64 x.id) ∧ W.cell? ⟨w.heap.size, 1, none⟩ = some (.int .i64 x.st) ∧ W.cell? ⟨w.heap.size, 2, none⟩ = some (.int .i64 x.f) ∧ W.cell? ⟨w.heap.size, 3, none⟩ = some (.int .i64 x.l) ∧ W.cell? ⟨w.heap.size, 4, none⟩ = some (.slice (some ⟨b, o, none⟩) q x.c) ∧ W.cell? ⟨w.heap.size, 5, none⟩ = some (.slice A' r c')) ∧ (W.cell? ⟨w2.heap.size, 0, none⟩ = some (.int .i64 c9.lsn) ∧ W.cell? ⟨w2.heap.size, 1, none⟩ = some (.int .i64 c9.page) ∧ W.cell? ⟨w2.heap.size, 2, none⟩ = some (.int .i64 c9.key) ∧ W.cell? ⟨w2.heap.size, 3, none⟩ = some (.bool c9.o.is) ∧ W.cell? ⟨w2.heap.size, 4, none⟩ = some (.slice c9.o.B c9.o.m c9.o.d) ∧ W.cell? ⟨w2.heap.size, 5, none⟩ = some (.bool c9.v.is) ∧ W.cell? ⟨w2.heap.size, 6, none⟩ = some (.slice c9.v.B c9.v.m c9.v.d))) _ from ⟨HB8.out.cells, HL8.out.cells⟩)
      refine rg_take (n := 4) (v := ?_) 0 (some 60) rfl rfl (by kernel_rfl) (by kernel_rfl) (by kernel_rfl) (fun _ _ _ h => h) (by rfl) hI ?_ ?_
      rotate_left
      · ((intro w hSw; (try dsimp only at hSw); go_simp); (try with_reducible rfl))
      try simp only [Act.put, List.setIfInBounds_toArray, List.set_cons_zero, List.set_cons_succ]
      refine rg_take (n := 3) (v := ?_) 1 (some 61) rfl rfl (by kernel_rfl) (by kernel_rfl) (by kernel_rfl) (fun _ _ _ h => h) (by rfl) hI ?_ ?_
      rotate_left
      · ((intro w hSw; (try dsimp only at hSw); go_simp); (try with_reducible rfl))
      try simp only [Act.put, List.setIfInBounds_toArray, List.set_cons_zero, List.set_cons_succ]
      refine rg_one (n := 2) 2 rfl (by kernel_rfl) (by rfl) ?_
      go_simp
      clear hI
      have hI := (show (fun W : World => (W.cell? ⟨w.heap.size, 0, none⟩ = some (.int .i64 x.id) ∧ W.cell? ⟨w.heap.size, 1, none⟩ = some (.int .i64 x.st) ∧ W.cell? ⟨w.heap.size, 2, none⟩ = some (.int .i64 x.f) ∧ W.cell? ⟨w.heap.size, 3, none⟩ = some (.int .i64 x.l) ∧ W.cell? ⟨w.heap.size, 4, none⟩ = some (.slice (some ⟨b, o, none⟩) q x.c) ∧ W.cell? ⟨w.heap.size, 5, none⟩ = some (.slice A' r c')) ∧ (W.cell? ⟨w2.heap.size, 0, none⟩ = some (.int .i64 c9.lsn) ∧ W.cell? ⟨w2.heap.size, 1, none⟩ = some (.int .i64 c9.page) ∧ W.cell? ⟨w2.heap.size, 2, none⟩ = some (.int .i64 c9.key) ∧ W.cell? ⟨w2.heap.size, 3, none⟩ = some (.bool c9.o.is) ∧ W.cell? ⟨w2.heap.size, 4, none⟩ = some (.slice c9.o.B c9.o.m c9.o.d) ∧ W.cell? ⟨w2.heap.size, 5, none⟩ = some (.bool c9.v.is) ∧ W.cell? ⟨w2.heap.size, 6, none⟩ = some (.slice c9.v.B c9.v.m c9.v.d))) _ from ⟨HB9.out.cells, HL9.out.cells⟩)
      first | refine ⟨hI, ?_⟩ | skip
      try simp only [Act.put]
      refine rg_one (n := 1) 3 rfl (by kernel_rfl) (by rfl) ?_
      go_simp
      clear hI
      have hI := (show (fun W : World => (W.cell? ⟨w.heap.size, 0, none⟩ = some (.int .i64 x.id) ∧ W.cell? ⟨w.heap.size, 1, none⟩ = some (.int .i64 x.st) ∧ W.cell? ⟨w.heap.size, 2, none⟩ = some (.int .i64 x.f) ∧ W.cell? ⟨w.heap.size, 3, none⟩ = some (.int .i64 x.l) ∧ W.cell? ⟨w.heap.size, 4, none⟩ = some (.slice (some ⟨b, o, none⟩) q x.c) ∧ W.cell? ⟨w.heap.size, 5, none⟩ = some (.slice A' r c')) ∧ (W.cell? ⟨w2.heap.size, 0, none⟩ = some (.int .i64 c9.lsn) ∧ W.cell? ⟨w2.heap.size, 1, none⟩ = some (.int .i64 c9.page) ∧ W.cell? ⟨w2.heap.size, 2, none⟩ = some (.int .i64 c9.key) ∧ W.cell? ⟨w2.heap.size, 3, none⟩ = some (.bool c9.o.is) ∧ W.cell? ⟨w2.heap.size, 4, none⟩ = some (.slice c9.o.B c9.o.m c9.o.d) ∧ W.cell? ⟨w2.heap.size, 5, none⟩ = some (.bool c9.v.is) ∧ W.cell? ⟨w2.heap.size, 6, none⟩ = some (.slice c9.v.B c9.v.m c9.v.d))) _ from ⟨HB10.out.cells, HL10.out.cells⟩)
      first | refine ⟨hI, ?_⟩ | skip
      try simp only [Act.put]
      refine rg_take (n := 0) (v := ?_) 4 (some 4) rfl rfl (by kernel_rfl) (by kernel_rfl) (by kernel_rfl) (fun _ _ _ h => h) (by rfl) hI ?_ ?_
      rotate_left
      · ((intro w hSw; (try dsimp only at hSw); go_simp); (try with_reducible rfl))
      try simp only [Act.put, List.setIfInBounds_toArray, List.set_cons_zero, List.set_cons_succ]
      refine wpAnyH_done (by kernel_rfl) ?_ _
      clear hI
      go_wp2
      clear hw9 hw10 g0 g1 g2 g3 g4 g5 r0 r1 r2 r3 r4 r5 k0 k1 k2 k3 k4 k5 k6 s0 s1 s2 s3 s4 s5 s6
      obtain ⟨q0, q1, q2, q3, q4, q5⟩ : w10.cell? ⟨w.heap.size + 1, 0, none⟩ = some (.int .i64 x.id) ∧ w10.cell? ⟨w.heap.size + 1, 1, none⟩ = some (.int .i64 x.st) ∧ w10.cell? ⟨w.heap.size + 1, 2, none⟩ = some (.int .i64 x.f) ∧ w10.cell? ⟨w.heap.size + 1, 3, none⟩ = some (.int .i64 x.l) ∧ w10.cell? ⟨w.heap.size + 1, 4, none⟩ = some (.slice (some ⟨b, o, none⟩) q x.c) ∧ w10.cell? ⟨w.heap.size + 1, 5, none⟩ = some (.slice A' r c') := HR10.out.cells
      obtain ⟨p0, p1, p2, p3, p4, p5, p6⟩ : w10.cell? ⟨w.heap.size + 2, 0, none⟩ = some (.int .i64 c9.lsn) ∧ w10.cell? ⟨w.heap.size + 2, 1, none⟩ = some (.int .i64 c9.page) ∧ w10.cell? ⟨w.heap.size + 2, 2, none⟩ = some (.int .i64 c9.key) ∧ w10.cell? ⟨w.heap.size + 2, 3, none⟩ = some (.bool c9.o.is) ∧ w10.cell? ⟨w.heap.size + 2, 4, none⟩ = some (.slice c9.o.B c9.o.m c9.o.d) ∧ w10.cell? ⟨w.heap.size + 2, 5, none⟩ = some (.bool c9.v.is) ∧ w10.cell? ⟨w.heap.size + 2, 6, none⟩ = some (.slice c9.v.B c9.v.m c9.v.d) := HC10.out.cells
      refine bodyPost_ret (v := .tuple #[.agg #[.int .i64 x.id, .int .i64 x.st, .int .i64 x.f, .int .i64 x.l, .slice (some ⟨b, o, none⟩) q x.c, .slice A' r c'], .agg #[.int .i64 c9.lsn, .int .i64 c9.page, .int .i64 c9.key, .bool c9.o.is, .slice c9.o.B c9.o.m c9.o.d, .bool c9.v.is, .slice c9.v.B c9.v.m c9.v.d], .int .i64 0]) (by simp [results, Try.results15, go_sem, q0, q1, q2, q3, q4, q5, p0, p1, p2, p3, p4, p5, p6]) rfl ?_
      have hxw := (HX.out.keep HM10.out)
      have hAx := hxw.at_.L.pre (k := q) (by omega) x.c (by omega)
      rw [Hg.out] at hAx
      have hnl := HX.out.at_.nL
      refine ⟨⟨x.id, x.st, x.f, x.l, some ⟨b, o, none⟩, q, x.c, x.L.take q, A', r, c', zs⟩, c9, by rw [HE0.out], ⟨⟨hAx, OwI.il HO10.out⟩, fun k hk _ => .inr ?_⟩, hxw.at_.L.ats c9 (List.mem_of_getElem? Hc9.out), ?_, ?_, HM10.out⟩
      · obtain ⟨_, cur, hc, _⟩ := OwV.block HO10.out hk
        exact ⟨_, _, hc⟩
      · rw [HE0.out, if_pos rfl]
        show (⟨x.id, x.st, x.f, x.l, pc (x.L.take q), zs⟩ : Tp) = ⟨x.id, x.st, x.f, x.l, (pc x.L).take (x.p.L.length - 1), x.S.filter (leq (x.p.L.length - 1))⟩
        rw [hnl, Hq.out, pc_take, Hzs.out, ← HX.out.at_.S.len, List.take_length]
      · rw [HE0.out, if_pos rfl]
        show c9.p = atC (pc x.L) (x.p.L.length - 1)
        rw [hnl, Hq.out, atC_of (pc_at Hc9.out)]
theorem rundo_ok (b0 : Nat) (w : World) (x : TxD) (h : Kp b0 w x) (hn : x.n ≤ 1000) (hm : x.m ≤ 1000) :
    Calls Try.prog 15 #[.agg #[.int .i64 x.id, .int .i64 x.st, .int .i64 x.f, .int .i64 x.l, .slice x.A x.n x.c, .slice x.B x.m x.d]] w fun e w' => RuAns b0 w w' (undoE x.p) (undoT x.p) (undoC x.p) e := by
  cases hb1 : mayT x.p with
  | false => exact rundo_no b0 w x h hn hm hb1
  | true =>
    by_cases h0 : x.n = 0
    · exact rundo_none b0 w x h hn hm hb1 h0
    · exact rundo_yes b0 w x h hn hm hb1 h0
end Go.Proofs.Ytidcmolkolcliaa
