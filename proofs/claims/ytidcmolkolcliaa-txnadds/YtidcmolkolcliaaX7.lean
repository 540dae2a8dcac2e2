/-
  Package txn: savesUpTo, Undo.
-/
import Derived.Test.YtidcmolkolcliaaXKp
namespace Go.Proofs.Ytidcmolkolcliaa
open Go Go.RowKit

set_option maxRecDepth 100000 in
set_option maxHeartbeats 3200000 in
theorem savesUpTo_ok (w : World) (A : Option Addr) (n c : Nat) (S : List Int) (h : Il w A n c S) (hn : n ≤ 1000) (k : Nat) :
    Calls Try.prog 35 #[.slice A n c, .int .i64 (k : Int)] w fun e w' => w' = w ∧ ∃ r : Nat, e = .returned (.int .i64 (r : Int)) ∧ r ≤ n ∧ (∀ j, r ≤ j → j < n → (k : Int) < atI S j) ∧ (r = 0 ∨ atI S (r - 1) ≤ (k : Int)) := by
  have H := Lib.hid h
  clear h
  go_enter Try.func35, Try.ntmps35
  go_wp2
  go_loopw [5] (fun t wr => ∃ r : Nat, t = .int .i64 r ∧ wr = w ∧ r ≤ n ∧ (∀ j, r ≤ j → j < n → (k : Int) < atI S j)) (fun t _ => (intOf t).toNat)
  case atStart => exact ⟨n, rfl, rfl, Nat.le_refl _, fun j h1 h2 => absurd h2 (by omega)⟩
  case round =>
    obtain ⟨r, rfl, rfl, hr, hs⟩ := hrel
    have HS := Lib.hid hs
    clear hs
    by_cases h0 : r = 0
    · subst h0
      go_wp2
      go_ret
      exact ⟨rfl, 0, rfl, by omega, HS.out, .inl rfl⟩
    · obtain ⟨b, o, rfl, hc⟩ := H.out.2.2 (by omega)
      have hz := hc (r - 1) _ (atI_at (by rw [H.out.1]; omega))
      have hd0 : decide (0 < r) = true := decide_eq_true (by omega)
      have hd1 : decide ((0 : Int) < (r : Int)) = true := decide_eq_true (by omega)
      have e1 : IntKind.i64.wrap ((r - 1 : Nat) : Int) = ((r - 1 : Nat) : Int) := by rw [IntKind.wrap_i64]; omega
      have e2 : (r : Int) - 1 = ((r - 1 : Nat) : Int) := by omega
      have l1 : r - 1 < n := by omega
      clear hc
      by_cases hg : (k : Int) < atI S (r - 1)
      · have hg2 : decide ((k : Int) < atI S (r - 1)) = true := decide_eq_true hg
        have HS2 : Hid (∀ j, r - 1 ≤ j → j < n → (k : Int) < atI S j) := fun j h1 h2 => by
          rcases Nat.lt_or_ge j r with h3 | h3
          · obtain rfl : j = r - 1 := by omega
            exact hg
          · exact HS.out j h3 h2
        clear hg
        go_wp2
        go_roundw
        case rel => exact ⟨r - 1, by go_num, by trivial, by omega, HS2.out⟩
        case measure => simp [intOf]; omega
      · have hg2 : decide ((k : Int) < atI S (r - 1)) = false := decide_eq_false hg
        go_wp2
        go_ret
        exact ⟨by trivial, r, rfl, hr, HS.out, .inr (by omega)⟩
theorem slice_pre {t : TypeId} (ht : Try.prog.underlying t = some (.slice (Try.prog.elem t))) (z : Nat) (hs : ∀ w, (sizeOf (Try.prog.elem t)).run Try.prog w = .ok z w) {A : Option Addr} (hA : A = none ∨ ∃ g, A = some ⟨g, 0, none⟩) (n c q : Nat) (hq : q ≤ c) (w : World) :
    (Instr.sliceAt t (.slice A n c) none (some (.int .i64 (q : Int))) (some (.int .i64 (q : Int)))).run Try.prog w = .ok (.slice A q q) w := by
  have hs := hs w
  rw [run_sliceAt_slice w t _ _ _ _ ht, run_slice_hm w t A n c ht .i64 .i64 (q : Int) (q : Int) (by omega) (by omega) (by omega), hs]
  simp only [Result.andThen, sliced, Int.toNat_natCast, Nat.sub_zero, Nat.zero_mul]
  by_cases h0 : q = 0
  · rw [if_pos h0]
  · rw [if_neg h0]
    rcases hA with rfl | ⟨g, rfl⟩
    · rfl
    · rfl
set_option maxRecDepth 100000 in
set_option maxHeartbeats 3200000 in
theorem undo_no (w : World) (x : TxD) (h : x.At w) (hn : x.n ≤ 1000) (hm : x.m ≤ 1000) (hb1 : mayT x.p = false) :
    Calls Try.prog 14 #[.agg #[.int .i64 x.id, .int .i64 x.st, .int .i64 x.f, .int .i64 x.l, .slice x.A x.n x.c, .slice x.B x.m x.d]] w fun e w' => UnAns w w' (undoE x.p) (undoT x.p) (undoC x.p) e := by
  obtain ⟨w1, hw1⟩ : ∃ w1, ((w.alloc (.cells #[.int .i64 x.id, .int .i64 x.st, .int .i64 x.f, .int .i64 x.l, .slice x.A x.n x.c, .slice x.B x.m x.d] 25)).alloc (.cells #[.int .i64 0, .int .i64 0, .int .i64 0, .int .i64 0, .slice none 0 0, .slice none 0 0] 25)).alloc (.cells #[.int .i64 0, .int .i64 0, .int .i64 0, .bool false, .slice none 0 0, .bool false, .slice none 0 0] 30) = w1 := ⟨_, rfl⟩
  have HB1 : Hid ((x : TxD).In w1 (w.heap.size)) := by
    rw [← hw1]
    have q := TxD.In.new (w) (x)
    exact q.keep (((Mod.refl (fun _ => False) _).alloc _).alloc _)
  have HR1 : Hid ((TxD.zero : TxD).In w1 (w.heap.size + 1)) := by
    rw [← hw1]
    have q := TxD.In.new (w.alloc (.cells #[.int .i64 x.id, .int .i64 x.st, .int .i64 x.f, .int .i64 x.l, .slice x.A x.n x.c, .slice x.B x.m x.d] 25)) (TxD.zero)
    simp only [World.size_alloc] at q
    exact q.keep ((Mod.refl (fun _ => False) _).alloc _)
  have HC1 : Hid ((ChD.zero : ChD).In w1 (w.heap.size + 2)) := by
    rw [← hw1]
    have q := ChD.In.new ((w.alloc (.cells #[.int .i64 x.id, .int .i64 x.st, .int .i64 x.f, .int .i64 x.l, .slice x.A x.n x.c, .slice x.B x.m x.d] 25)).alloc (.cells #[.int .i64 0, .int .i64 0, .int .i64 0, .int .i64 0, .slice none 0 0, .slice none 0 0] 25)) (ChD.zero)
    simp only [World.size_alloc] at q
    exact q.keep (Mod.refl (fun _ => False) _)
  have HM1 : Hid (Mod (fun _ => False) w w1) := by rw [← hw1]; exact (((Mod.refl (fun _ => False) w).alloc _).alloc _).alloc _
  have hz1 : w.heap.size + 3 ≤ w1.heap.size := by rw [← hw1]; simp
  obtain ⟨c0, c1, c2, c3, c4, c5⟩ := HB1.out.cells
  have HMay := Lib.hid (fun V (hV : Mod (fun _ => False) w V) => may_ok V x (h.keep hV) hn hm)
  have HX := Lib.hid h
  have HN := Lib.hid hn
  have HM := Lib.hid hm
  have Hsm := Lib.hid h.small
  have HE : Hid (undoE x.p = if mayT x.p then (if x.n = 0 then 3 else 0) else 1) := by unfold undoE; rw [h.nL]; rfl
  clear h hn hm
  clear HX HN HM
  rw [hb1] at HMay HE Hsm
  clear hb1
  clear Hsm
  go_enter Try.func14, Try.ntmps14
  go_wp2_with fail
  refine (HMay.out _ HM1.out).mono ?_
  rintro e w2 ⟨rfl, hm2⟩
  have HM2 := Lib.hid (HM1.out.trans hm2 (fun _ _ h => h))
  have hz2 := hm2.size
  have HB2 := Lib.hid (HB1.out.keep hm2)
  have HR2 := Lib.hid (HR1.out.keep hm2)
  have HC2 := Lib.hid (HC1.out.keep hm2)
  clear hm2
  clear hw1 c0 c1 c2 c3 c4 c5
  obtain ⟨c0, c1, c2, c3, c4, c5⟩ := HB2.out.cells
  obtain ⟨r0, r1, r2, r3, r4, r5⟩ : w2.cell? ⟨w.heap.size + 1, 0, none⟩ = some (.int .i64 0) ∧ w2.cell? ⟨w.heap.size + 1, 1, none⟩ = some (.int .i64 0) ∧ w2.cell? ⟨w.heap.size + 1, 2, none⟩ = some (.int .i64 0) ∧ w2.cell? ⟨w.heap.size + 1, 3, none⟩ = some (.int .i64 0) ∧ w2.cell? ⟨w.heap.size + 1, 4, none⟩ = some (.slice none 0 0) ∧ w2.cell? ⟨w.heap.size + 1, 5, none⟩ = some (.slice none 0 0) := HR2.out.cells
  obtain ⟨s0, s1, s2, s3, s4, s5, s6⟩ : w2.cell? ⟨w.heap.size + 2, 0, none⟩ = some (.int .i64 0) ∧ w2.cell? ⟨w.heap.size + 2, 1, none⟩ = some (.int .i64 0) ∧ w2.cell? ⟨w.heap.size + 2, 2, none⟩ = some (.int .i64 0) ∧ w2.cell? ⟨w.heap.size + 2, 3, none⟩ = some (.bool false) ∧ w2.cell? ⟨w.heap.size + 2, 4, none⟩ = some (.slice none 0 0) ∧ w2.cell? ⟨w.heap.size + 2, 5, none⟩ = some (.bool false) ∧ w2.cell? ⟨w.heap.size + 2, 6, none⟩ = some (.slice none 0 0) := HC2.out.cells
  have g0 := HR2.out.fz 0
  have g1 := HR2.out.fz 1
  have g2 := HR2.out.fz 2
  have g3 := HR2.out.fz 3
  have g4 := HR2.out.fz 4
  have g5 := HR2.out.fz 5
  have k0 := HC2.out.fz 0
  have k1 := HC2.out.fz 1
  have k2 := HC2.out.fz 2
  have k3 := HC2.out.fz 3
  have k4 := HC2.out.fz 4
  have k5 := HC2.out.fz 5
  have k6 := HC2.out.fz 6
  obtain ⟨w3, hw3⟩ : ∃ w3, (((((w2.setCell ⟨w.heap.size + 1, 0, none⟩ (.int .i64 0)).setCell ⟨w.heap.size + 1, 1, none⟩ (.int .i64 0)).setCell ⟨w.heap.size + 1, 2, none⟩ (.int .i64 0)).setCell ⟨w.heap.size + 1, 3, none⟩ (.int .i64 0)).setCell ⟨w.heap.size + 1, 4, none⟩ (.slice none 0 0)).setCell ⟨w.heap.size + 1, 5, none⟩ (.slice none 0 0) = w3 := ⟨_, rfl⟩
  have hq3 : stT w2 (w.heap.size + 1) TxD.zero = w3 := hw3
  have hs3 : Mod (fun k => k = w.heap.size + 1) w2 w3 := by rw [← hq3]; exact stT_mod w2 (w.heap.size + 1) TxD.zero
  have HM3 : Hid (Mod (fun _ => False) w w3) := HM2.out.trans hs3 (fun k _ e => by omega)
  have hz3 := hs3.size
  have HB3 := Lib.hid (HB2.out.mod hs3 (fun e => by omega))
  have HR3 : Hid ((TxD.zero : TxD).In w3 (w.heap.size + 1)) := by rw [← hq3]; exact HR2.out.set TxD.zero
  have HC3 := Lib.hid (HC2.out.mod hs3 (fun e => by omega))
  clear hq3
  have ha := hs3
  clear hs3
  obtain ⟨u0, u1, u2, u3, u4, u5, u6⟩ : w3.cell? ⟨w.heap.size + 2, 0, none⟩ = some (.int .i64 0) ∧ w3.cell? ⟨w.heap.size + 2, 1, none⟩ = some (.int .i64 0) ∧ w3.cell? ⟨w.heap.size + 2, 2, none⟩ = some (.int .i64 0) ∧ w3.cell? ⟨w.heap.size + 2, 3, none⟩ = some (.bool false) ∧ w3.cell? ⟨w.heap.size + 2, 4, none⟩ = some (.slice none 0 0) ∧ w3.cell? ⟨w.heap.size + 2, 5, none⟩ = some (.bool false) ∧ w3.cell? ⟨w.heap.size + 2, 6, none⟩ = some (.slice none 0 0) := HC3.out.cells
  have l0 := HC3.out.fz 0
  have l1 := HC3.out.fz 1
  have l2 := HC3.out.fz 2
  have l3 := HC3.out.fz 3
  have l4 := HC3.out.fz 4
  have l5 := HC3.out.fz 5
  have l6 := HC3.out.fz 6
  obtain ⟨w4, hw4⟩ : ∃ w4, ((((((w3.setCell ⟨w.heap.size + 2, 0, none⟩ (.int .i64 0)).setCell ⟨w.heap.size + 2, 1, none⟩ (.int .i64 0)).setCell ⟨w.heap.size + 2, 2, none⟩ (.int .i64 0)).setCell ⟨w.heap.size + 2, 3, none⟩ (.bool false)).setCell ⟨w.heap.size + 2, 4, none⟩ (.slice none 0 0)).setCell ⟨w.heap.size + 2, 5, none⟩ (.bool false)).setCell ⟨w.heap.size + 2, 6, none⟩ (.slice none 0 0) = w4 := ⟨_, rfl⟩
  have hq4 : stC w3 (w.heap.size + 2) 0 ChD.zero = w4 := hw4
  have hs4 : Mod (fun k => k = w.heap.size + 2) w3 w4 := by rw [← hq4]; exact stC_mod w3 (w.heap.size + 2) 0 ChD.zero
  have HM4 : Hid (Mod (fun _ => False) w w4) := HM3.out.trans hs4 (fun k _ e => by omega)
  have hz4 := hs4.size
  have HB4 := Lib.hid (HB3.out.mod hs4 (fun e => by omega))
  have HR4 := Lib.hid (HR3.out.mod hs4 (fun e => by omega))
  have HC4 : Hid ((ChD.zero : ChD).In w4 (w.heap.size + 2)) := by rw [← hq4]; exact HC3.out.set ChD.zero
  clear hq4
  have hb := hs4
  clear hs4
  clear ha hb
  have HW4 := Lib.hid hw4
  clear hw4
  go_wp2
  rw [HW4.out]
  clear hw3 c0 c1 c2 c3 c4 c5 r0 r1 r2 r3 r4 r5 g0 g1 g2 g3 g4 g5 s0 s1 s2 s3 s4 s5 s6 k0 k1 k2 k3 k4 k5 k6 u0 u1 u2 u3 u4 u5 u6 l0 l1 l2 l3 l4 l5 l6
  obtain ⟨q0, q1, q2, q3, q4, q5⟩ : w4.cell? ⟨w.heap.size + 1, 0, none⟩ = some (.int .i64 0) ∧ w4.cell? ⟨w.heap.size + 1, 1, none⟩ = some (.int .i64 0) ∧ w4.cell? ⟨w.heap.size + 1, 2, none⟩ = some (.int .i64 0) ∧ w4.cell? ⟨w.heap.size + 1, 3, none⟩ = some (.int .i64 0) ∧ w4.cell? ⟨w.heap.size + 1, 4, none⟩ = some (.slice none 0 0) ∧ w4.cell? ⟨w.heap.size + 1, 5, none⟩ = some (.slice none 0 0) := HR4.out.cells
  obtain ⟨p0, p1, p2, p3, p4, p5, p6⟩ : w4.cell? ⟨w.heap.size + 2, 0, none⟩ = some (.int .i64 0) ∧ w4.cell? ⟨w.heap.size + 2, 1, none⟩ = some (.int .i64 0) ∧ w4.cell? ⟨w.heap.size + 2, 2, none⟩ = some (.int .i64 0) ∧ w4.cell? ⟨w.heap.size + 2, 3, none⟩ = some (.bool false) ∧ w4.cell? ⟨w.heap.size + 2, 4, none⟩ = some (.slice none 0 0) ∧ w4.cell? ⟨w.heap.size + 2, 5, none⟩ = some (.bool false) ∧ w4.cell? ⟨w.heap.size + 2, 6, none⟩ = some (.slice none 0 0) := HC4.out.cells
  refine bodyPost_ret (v := .tuple #[.agg #[.int .i64 0, .int .i64 0, .int .i64 0, .int .i64 0, .slice none 0 0, .slice none 0 0], .agg #[.int .i64 0, .int .i64 0, .int .i64 0, .bool false, .slice none 0 0, .bool false, .slice none 0 0], .int .i64 1]) (by simp [results, Try.results14, go_sem, q0, q1, q2, q3, q4, q5, p0, p1, p2, p3, p4, p5, p6]) rfl ?_
  exact ⟨TxD.zero, ChD.zero, by rw [HE.out]; rfl, fun b0 => (TxD.zero_own _ 0).kp, ChD.zero_at _, by rw [HE.out]; rfl, by rw [HE.out]; rfl, HM4.out⟩
set_option maxRecDepth 100000 in
set_option maxHeartbeats 3200000 in
theorem undo_none (w : World) (x : TxD) (h : x.At w) (hn : x.n ≤ 1000) (hm : x.m ≤ 1000) (hb1 : mayT x.p = true) (h0 : x.n = 0) :
    Calls Try.prog 14 #[.agg #[.int .i64 x.id, .int .i64 x.st, .int .i64 x.f, .int .i64 x.l, .slice x.A x.n x.c, .slice x.B x.m x.d]] w fun e w' => UnAns w w' (undoE x.p) (undoT x.p) (undoC x.p) e := by
  obtain ⟨w1, hw1⟩ : ∃ w1, ((w.alloc (.cells #[.int .i64 x.id, .int .i64 x.st, .int .i64 x.f, .int .i64 x.l, .slice x.A x.n x.c, .slice x.B x.m x.d] 25)).alloc (.cells #[.int .i64 0, .int .i64 0, .int .i64 0, .int .i64 0, .slice none 0 0, .slice none 0 0] 25)).alloc (.cells #[.int .i64 0, .int .i64 0, .int .i64 0, .bool false, .slice none 0 0, .bool false, .slice none 0 0] 30) = w1 := ⟨_, rfl⟩
  have HB1 : Hid ((x : TxD).In w1 (w.heap.size)) := by
    rw [← hw1]
    have q := TxD.In.new (w) (x)
    exact q.keep (((Mod.refl (fun _ => False) _).alloc _).alloc _)
  have HR1 : Hid ((TxD.zero : TxD).In w1 (w.heap.size + 1)) := by
    rw [← hw1]
    have q := TxD.In.new (w.alloc (.cells #[.int .i64 x.id, .int .i64 x.st, .int .i64 x.f, .int .i64 x.l, .slice x.A x.n x.c, .slice x.B x.m x.d] 25)) (TxD.zero)
    simp only [World.size_alloc] at q
    exact q.keep ((Mod.refl (fun _ => False) _).alloc _)
  have HC1 : Hid ((ChD.zero : ChD).In w1 (w.heap.size + 2)) := by
    rw [← hw1]
    have q := ChD.In.new ((w.alloc (.cells #[.int .i64 x.id, .int .i64 x.st, .int .i64 x.f, .int .i64 x.l, .slice x.A x.n x.c, .slice x.B x.m x.d] 25)).alloc (.cells #[.int .i64 0, .int .i64 0, .int .i64 0, .int .i64 0, .slice none 0 0, .slice none 0 0] 25)) (ChD.zero)
    simp only [World.size_alloc] at q
    exact q.keep (Mod.refl (fun _ => False) _)
  have HM1 : Hid (Mod (fun _ => False) w w1) := by rw [← hw1]; exact (((Mod.refl (fun _ => False) w).alloc _).alloc _).alloc _
  have hz1 : w.heap.size + 3 ≤ w1.heap.size := by rw [← hw1]; simp
  obtain ⟨c0, c1, c2, c3, c4, c5⟩ := HB1.out.cells
  have HMay := Lib.hid (fun V (hV : Mod (fun _ => False) w V) => may_ok V x (h.keep hV) hn hm)
  have HX := Lib.hid h
  have HN := Lib.hid hn
  have HM := Lib.hid hm
  have Hsm := Lib.hid h.small
  have HE : Hid (undoE x.p = if mayT x.p then (if x.n = 0 then 3 else 0) else 1) := by unfold undoE; rw [h.nL]; rfl
  clear h hn hm
  clear HX HN HM
  rw [hb1] at HMay HE Hsm
  clear hb1
  clear Hsm
  have hd0 : ((x.n : Int) == 0) = true := by simp [h0]
  rw [if_pos h0] at HE
  clear h0
  go_enter Try.func14, Try.ntmps14
  go_wp2_with fail
  refine (HMay.out _ HM1.out).mono ?_
  rintro e w2 ⟨rfl, hm2⟩
  have HM2 := Lib.hid (HM1.out.trans hm2 (fun _ _ h => h))
  have hz2 := hm2.size
  have HB2 := Lib.hid (HB1.out.keep hm2)
  have HR2 := Lib.hid (HR1.out.keep hm2)
  have HC2 := Lib.hid (HC1.out.keep hm2)
  clear hm2
  clear hw1 c0 c1 c2 c3 c4 c5
  obtain ⟨c0, c1, c2, c3, c4, c5⟩ := HB2.out.cells
  obtain ⟨r0, r1, r2, r3, r4, r5⟩ : w2.cell? ⟨w.heap.size + 1, 0, none⟩ = some (.int .i64 0) ∧ w2.cell? ⟨w.heap.size + 1, 1, none⟩ = some (.int .i64 0) ∧ w2.cell? ⟨w.heap.size + 1, 2, none⟩ = some (.int .i64 0) ∧ w2.cell? ⟨w.heap.size + 1, 3, none⟩ = some (.int .i64 0) ∧ w2.cell? ⟨w.heap.size + 1, 4, none⟩ = some (.slice none 0 0) ∧ w2.cell? ⟨w.heap.size + 1, 5, none⟩ = some (.slice none 0 0) := HR2.out.cells
  obtain ⟨s0, s1, s2, s3, s4, s5, s6⟩ : w2.cell? ⟨w.heap.size + 2, 0, none⟩ = some (.int .i64 0) ∧ w2.cell? ⟨w.heap.size + 2, 1, none⟩ = some (.int .i64 0) ∧ w2.cell? ⟨w.heap.size + 2, 2, none⟩ = some (.int .i64 0) ∧ w2.cell? ⟨w.heap.size + 2, 3, none⟩ = some (.bool false) ∧ w2.cell? ⟨w.heap.size + 2, 4, none⟩ = some (.slice none 0 0) ∧ w2.cell? ⟨w.heap.size + 2, 5, none⟩ = some (.bool false) ∧ w2.cell? ⟨w.heap.size + 2, 6, none⟩ = some (.slice none 0 0) := HC2.out.cells
  have g0 := HR2.out.fz 0
  have g1 := HR2.out.fz 1
  have g2 := HR2.out.fz 2
  have g3 := HR2.out.fz 3
  have g4 := HR2.out.fz 4
  have g5 := HR2.out.fz 5
  have k0 := HC2.out.fz 0
  have k1 := HC2.out.fz 1
  have k2 := HC2.out.fz 2
  have k3 := HC2.out.fz 3
  have k4 := HC2.out.fz 4
  have k5 := HC2.out.fz 5
  have k6 := HC2.out.fz 6
  obtain ⟨w3, hw3⟩ : ∃ w3, (((((w2.setCell ⟨w.heap.size + 1, 0, none⟩ (.int .i64 0)).setCell ⟨w.heap.size + 1, 1, none⟩ (.int .i64 0)).setCell ⟨w.heap.size + 1, 2, none⟩ (.int .i64 0)).setCell ⟨w.heap.size + 1, 3, none⟩ (.int .i64 0)).setCell ⟨w.heap.size + 1, 4, none⟩ (.slice none 0 0)).setCell ⟨w.heap.size + 1, 5, none⟩ (.slice none 0 0) = w3 := ⟨_, rfl⟩
  have hq3 : stT w2 (w.heap.size + 1) TxD.zero = w3 := hw3
  have hs3 : Mod (fun k => k = w.heap.size + 1) w2 w3 := by rw [← hq3]; exact stT_mod w2 (w.heap.size + 1) TxD.zero
  have HM3 : Hid (Mod (fun _ => False) w w3) := HM2.out.trans hs3 (fun k _ e => by omega)
  have hz3 := hs3.size
  have HB3 := Lib.hid (HB2.out.mod hs3 (fun e => by omega))
  have HR3 : Hid ((TxD.zero : TxD).In w3 (w.heap.size + 1)) := by rw [← hq3]; exact HR2.out.set TxD.zero
  have HC3 := Lib.hid (HC2.out.mod hs3 (fun e => by omega))
  clear hq3
  have ha := hs3
  clear hs3
  obtain ⟨u0, u1, u2, u3, u4, u5, u6⟩ : w3.cell? ⟨w.heap.size + 2, 0, none⟩ = some (.int .i64 0) ∧ w3.cell? ⟨w.heap.size + 2, 1, none⟩ = some (.int .i64 0) ∧ w3.cell? ⟨w.heap.size + 2, 2, none⟩ = some (.int .i64 0) ∧ w3.cell? ⟨w.heap.size + 2, 3, none⟩ = some (.bool false) ∧ w3.cell? ⟨w.heap.size + 2, 4, none⟩ = some (.slice none 0 0) ∧ w3.cell? ⟨w.heap.size + 2, 5, none⟩ = some (.bool false) ∧ w3.cell? ⟨w.heap.size + 2, 6, none⟩ = some (.slice none 0 0) := HC3.out.cells
  have l0 := HC3.out.fz 0
  have l1 := HC3.out.fz 1
  have l2 := HC3.out.fz 2
  have l3 := HC3.out.fz 3
  have l4 := HC3.out.fz 4
  have l5 := HC3.out.fz 5
  have l6 := HC3.out.fz 6
  obtain ⟨w4, hw4⟩ : ∃ w4, ((((((w3.setCell ⟨w.heap.size + 2, 0, none⟩ (.int .i64 0)).setCell ⟨w.heap.size + 2, 1, none⟩ (.int .i64 0)).setCell ⟨w.heap.size + 2, 2, none⟩ (.int .i64 0)).setCell ⟨w.heap.size + 2, 3, none⟩ (.bool false)).setCell ⟨w.heap.size + 2, 4, none⟩ (.slice none 0 0)).setCell ⟨w.heap.size + 2, 5, none⟩ (.bool false)).setCell ⟨w.heap.size + 2, 6, none⟩ (.slice none 0 0) = w4 := ⟨_, rfl⟩
  have hq4 : stC w3 (w.heap.size + 2) 0 ChD.zero = w4 := hw4
  have hs4 : Mod (fun k => k = w.heap.size + 2) w3 w4 := by rw [← hq4]; exact stC_mod w3 (w.heap.size + 2) 0 ChD.zero
  have HM4 : Hid (Mod (fun _ => False) w w4) := HM3.out.trans hs4 (fun k _ e => by omega)
  have hz4 := hs4.size
  have HB4 := Lib.hid (HB3.out.mod hs4 (fun e => by omega))
  have HR4 := Lib.hid (HR3.out.mod hs4 (fun e => by omega))
  have HC4 : Hid ((ChD.zero : ChD).In w4 (w.heap.size + 2)) := by rw [← hq4]; exact HC3.out.set ChD.zero
  clear hq4
  have hb := hs4
  clear hs4
  clear ha hb
  have HW4 := Lib.hid hw4
  clear hw4
  go_wp2
  rw [HW4.out]
  clear hw3 c0 c1 c2 c3 c4 c5 r0 r1 r2 r3 r4 r5 g0 g1 g2 g3 g4 g5 s0 s1 s2 s3 s4 s5 s6 k0 k1 k2 k3 k4 k5 k6 u0 u1 u2 u3 u4 u5 u6 l0 l1 l2 l3 l4 l5 l6
  obtain ⟨q0, q1, q2, q3, q4, q5⟩ : w4.cell? ⟨w.heap.size + 1, 0, none⟩ = some (.int .i64 0) ∧ w4.cell? ⟨w.heap.size + 1, 1, none⟩ = some (.int .i64 0) ∧ w4.cell? ⟨w.heap.size + 1, 2, none⟩ = some (.int .i64 0) ∧ w4.cell? ⟨w.heap.size + 1, 3, none⟩ = some (.int .i64 0) ∧ w4.cell? ⟨w.heap.size + 1, 4, none⟩ = some (.slice none 0 0) ∧ w4.cell? ⟨w.heap.size + 1, 5, none⟩ = some (.slice none 0 0) := HR4.out.cells
  obtain ⟨p0, p1, p2, p3, p4, p5, p6⟩ : w4.cell? ⟨w.heap.size + 2, 0, none⟩ = some (.int .i64 0) ∧ w4.cell? ⟨w.heap.size + 2, 1, none⟩ = some (.int .i64 0) ∧ w4.cell? ⟨w.heap.size + 2, 2, none⟩ = some (.int .i64 0) ∧ w4.cell? ⟨w.heap.size + 2, 3, none⟩ = some (.bool false) ∧ w4.cell? ⟨w.heap.size + 2, 4, none⟩ = some (.slice none 0 0) ∧ w4.cell? ⟨w.heap.size + 2, 5, none⟩ = some (.bool false) ∧ w4.cell? ⟨w.heap.size + 2, 6, none⟩ = some (.slice none 0 0) := HC4.out.cells
  refine bodyPost_ret (v := .tuple #[.agg #[.int .i64 0, .int .i64 0, .int .i64 0, .int .i64 0, .slice none 0 0, .slice none 0 0], .agg #[.int .i64 0, .int .i64 0, .int .i64 0, .bool false, .slice none 0 0, .bool false, .slice none 0 0], .int .i64 3]) (by simp [results, Try.results14, go_sem, q0, q1, q2, q3, q4, q5, p0, p1, p2, p3, p4, p5, p6]) rfl ?_
  exact ⟨TxD.zero, ChD.zero, by rw [HE.out]; rfl, fun b0 => (TxD.zero_own _ 0).kp, ChD.zero_at _, by rw [HE.out]; rfl, by rw [HE.out]; rfl, HM4.out⟩
end Go.Proofs.Ytidcmolkolcliaa
