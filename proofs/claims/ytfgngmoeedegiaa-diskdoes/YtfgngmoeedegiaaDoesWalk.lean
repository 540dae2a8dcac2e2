/-
  DiskDoes: any calls of any device answer, and leave on it, what the document says.
-/
import Derived.Test.YtfgngmoeedegiaaDoesBoth
namespace Go.Proofs.Ytfgngmoeedegiaa
open Go Go.RowKit

set_option maxRecDepth 100000 in
set_option maxHeartbeats 4000000 in
theorem does_not (a : Int) (A : Option Addr) (n c : Nat) (w : World) (v1 v2 : Bool) (e1 : decide (20 < a) = v1) (e2 : decide ((60 : Int) < n) = v2) (h : (v1 || v2) = true) :
    Calls Try.prog 3 #[.int .i64 a, .slice A n c] w fun e w' => e = .returned (.bool true) ∧ Below w.heap.size w w' := by
  go_enter Try.func3, Try.ntmps3
  go_wp2_with fail
  refine (awake_ok _).mono ?_
  rintro e w1 ⟨rfl, hm1⟩
  have Hm1 : Hid (Mod (fun _ => False) w w1) := hm1
  clear hm1
  cases v1 <;> cases v2 <;> first | (exact absurd h (by decide)) | skip
  all_goals
    clear h
    go_wp2
    go_ret
    exact ⟨rfl, Hm1.out.below (Nat.le_refl _) (fun _ _ => id)⟩

set_option maxRecDepth 100000 in
set_option maxHeartbeats 4000000 in
theorem does_none (a : Int) (ha : a < 1) (A : Option Addr) (n c : Nat) (hn : n ≤ 60) (w : World) :
    Calls Try.prog 3 #[.int .i64 a, .slice A n c] w fun e w' => e = .returned (.bool true) ∧ Below w.heap.size w w' := by
  have h1 : decide (20 < a) = false := by simp; omega
  have h2 : decide ((60 : Int) < n) = false := by simp; omega
  go_enter Try.func3, Try.ntmps3
  go_wp2_with fail
  refine (awake_ok _).mono ?_
  rintro e w1 ⟨rfl, hm1⟩
  have Hm1 := Lib.hid hm1
  clear hm1
  go_wp2_with fail
  refine (new_no _ a (.inl ha)).mono ?_
  rintro e w2 ⟨rfl, rfl⟩
  go_wp2_with fail
  refine (refNew_no _ a (.inl ha)).mono ?_
  rintro e w3 ⟨rfl, hm3⟩
  have Hm3 := Lib.hid (Hm1.out.trans hm3 (fun _ _ h => h))
  clear hm3 Hm1
  have hF : Below w.heap.size w (w3.alloc (.cells zrow31 31)) := (Hm3.out.alloc _).below (Nat.le_refl _) (fun _ _ => id)
  have HF := Lib.hid hF
  clear hF
  go_wp2_with fail
  refine wp_loop_rounds 1 ?_
  rw [rounds_succ]
  by_cases hn0 : (0 : Int) < n
  · have hd : decide ((0 : Int) < n) = true := by simpa using hn0
    go_wp2
    go_ret
    exact ⟨rfl, HF.out⟩
  · have hd : decide ((0 : Int) < n) = false := by simpa using hn0
    go_wp2
    go_ret
    exact ⟨rfl, HF.out⟩

set_option maxRecDepth 100000 in
set_option maxHeartbeats 8000000 in
theorem does_walk (a : Int) (A : Option Addr) (n c : Nat) (l : List OpD) (w : World) (hl : OpsAt w A n c l) :
    Calls Try.prog 3 #[.int .i64 a, .slice A n c] w fun e w' => e = .returned (.bool true) ∧ Below w.heap.size w w' := by
  by_cases hnm : 20 < a ∨ 60 < n
  · refine does_not a A n c w _ _ rfl rfl ?_
    rw [Bool.or_eq_true, decide_eq_true_eq, decide_eq_true_eq]
    omega
  by_cases ha1 : a < 1
  · exact does_none a ha1 A n c (by omega) w
  have h1 : decide (20 < a) = false := by simp; omega
  have h2 : decide ((60 : Int) < n) = false := by simp; omega
  have hn60 : n ≤ 60 := by omega
  have Hl := Lib.hid hl
  clear hl
  go_enter Try.func3, Try.ntmps3
  go_wp2_with fail
  refine (awake_ok _).mono ?_
  rintro e w1 ⟨rfl, hm1⟩
  have Hm1 := Lib.hid hm1
  clear hm1
  go_wp2_with fail
  refine (dev_new w w1 Hm1.out a (by omega) (by omega)).mono ?_
  rintro e w2 ⟨x0, rfl, h0⟩
  have H0 := Lib.hid h0
  clear h0 Hm1
  go_wp2_with fail
  refine (refNew_ok _ a (by omega) (by omega)).mono ?_
  rintro e w3 ⟨r0, rfl, hdk, hm3, hat⟩
  obtain ⟨wq, hwq⟩ : ∃ wq, wq = w3.alloc (.cells #[.slice r0.DA r0.D.length r0.dc, .slice r0.WA r0.W.length r0.wc, .bool r0.armed, .bool r0.dead, .int .i64 r0.left] 31) := ⟨_, rfl⟩
  have hH : Half w wq w3.heap.size x0 (Dk.fresh (List.replicate a.toNat (fill 0))) (Dk.fresh (List.replicate a.toNat (fill 0))) r0 := by
    have hmq : Mod (fun _ => False) w3 wq := by rw [hwq]; exact (Mod.refl _ _).alloc _
    have hd3 := H0.out.keep hm3
    refine ⟨hd3.keep hmq, ?_, ?_, by rw [hwq]; exact heap_alloc_new w3 _, hd3.old.size⟩
    · have h3 := hat x0.M (fun k hk => (H0.out.at_.M_lt hk).2)
      exact h3.over (hmq.mono (fun _ _ e => e.elim)) (fun k q => by
        rcases q with q | q
        · exact .inl q
        · exact .inr (by omega))
    · rw [hdk]
      exact ⟨rfl, rfl, rfl, rfl, fun q => by cases q⟩
  have HH := Lib.hid hH
  have Hwq := Lib.hid hwq
  have hp0 : (Dk.fresh (List.replicate a.toNat (fill 0))).pend.length ≤ 0 := Nat.le_refl _
  generalize Dk.fresh (List.replicate a.toNat (fill 0)) = d0 at *
  clear hdk hm3 hat H0 hH hwq
  rw [RV.v_eq]
  go_wp2_with fail
  rw [← Hwq.out]
  obtain ⟨B, hB⟩ : ∃ B, B = w3.heap.size := ⟨_, rfl⟩
  rw [← hB] at HH ⊢
  clear hB Hwq
  go_loopw [6, 10] (fun p i wr => ∃ (j : Nat) (x : DV) (d : Dk) (r : RV), j ≤ n ∧ i = .int .i64 j ∧ p = .pointer (some ⟨x.p, 0, none⟩) ∧ Half w wr B x d d r ∧ d.pend.length ≤ j) (fun _ i _ => n - (intOf i).toNat)
  case atStart => exact ⟨0, x0, d0, r0, by omega, rfl, rfl, HH.out, hp0⟩
  case round =>
    obtain ⟨j, xd, d, r, hj, rfl, rfl, hd, hpl⟩ := hrel
    have Hd := Lib.hid hd
    clear hd HH
    by_cases hlt : j < n
    · obtain ⟨y, hy⟩ : ∃ y, l[j]? = some y := ⟨_, List.getElem?_eq_getElem (by rw [Hl.out.len]; exact hlt)⟩
      obtain ⟨gb, go, hA, hcs⟩ := (Hl.out.keep Hd.out.dev.old).cells (by omega)
      subst hA
      obtain ⟨c0, c1, c2, c3, c4, c5, c6, c7⟩ := hcs j y hy
      have Hcr := Lib.hid (Hl.out.crs y (List.mem_of_getElem? hy))
      have hnum := Hl.out.num y (List.mem_of_getElem? hy)
      clear hcs hy
      -- the law's own copy
      obtain ⟨wb, hwb⟩ : ∃ wb, wb = wr.alloc (.cells y.row3 38) := ⟨_, rfl⟩
      have hmb : Mod (fun _ => False) wr wb := by rw [hwb]; exact (Mod.refl _ _).alloc _
      have hrow : wb.heap[wr.heap.size]? = some (.cells y.row3 38 (0, 0)) := by rw [hwb]; exact heap_alloc_new wr _
      have hcell : ∀ w', Mod xd.M wb w' → y.Cells w' wr.heap.size 0 := fun w' hm => row3_cells ((hm.block _ (by rw [hwb, World.size_alloc]; omega) (Hd.out.dev.apart (Nat.le_refl _))).trans hrow)
      have Hb := Lib.hid (Hd.out.keep hmb)
      have Hcell := Lib.hid hcell
      obtain ⟨r0, r1, r2, r3, r4, r5, r6, r7⟩ := hcell wb (Mod.refl _ _)
      simp only [Nat.zero_add] at r1 r2 r3 r4 r5 r6 r7
      have ho := hwb
      unfold OpD.row3 at ho
      have Hwb := Lib.hid ho
      rw [ho] at r0 r1 r2 r3 r4 r5 r6 r7
      have hlt' : (j : Int) < n := by omega
      clear hwb hmb hrow hcell Hd ho
      go_wp2_with fail
      rw [← Hwb.out]
      refine (sector_ok _ y.b).mono ?_
      rintro e w5 ⟨g, rfl, hf⟩
      have Hb5 := Lib.hid (Hb.out.keep hf.2)
      have Hs5 := Lib.hid hf.sl
      have Hnew : Hid (¬ xd.M g) := Hb.out.dev.apart (hf.new rfl)
      have Hm5 : Hid (Mod xd.M wb w5) := hf.2.mono (fun _ _ e => e.elim)
      clear r0 r1 r2 r3 r4 r5 r6 r7 hf c0 c1 c2 c3 c4 c5 c6 c7 Hb Hwb
      obtain ⟨s0, s1, s2, s3, s4, s5, s6, s7⟩ := Hcell.out w5 Hm5.out
      simp only [Nat.zero_add] at s1 s2 s3 s4 s5 s6 s7
      obtain ⟨C, hC⟩ : ∃ C, C = wr.heap.size := ⟨_, rfl⟩
      rw [← hC] at Hcell s0 s1 s2 s3 s4 s5 s6 s7 ⊢
      clear hC
      cases hsh : y.short with
      | false =>
        rw [hsh] at s4
        have Hsl := Hs5
        clear Hs5 hsh
        by_cases hk0 : y.kind = 0
        · rw [hk0] at s0
          have Hw := Lib.hid (both_write Hb5.out y.at_ (some ⟨g, 0, none⟩) 256 256 (fill y.b) Hsl.out (fun k hk => by injection hk with hk; rw [← hk]; exact Hnew.out) (by omega))
          go_wp2_with fail
          refine Hw.out.mono ?_
          rintro e w6 ⟨rfl, x6, hp, hh, hm⟩
          have Hp := Lib.hid hp
          clear hp
          clear s0 s1 s2 s3 s4 s5 s6 s7
          obtain ⟨s0, s1, s2, s3, s4, s5, s6, s7⟩ := Hcell.out w6 (Hm5.out.trans hm (fun _ _ e => e))
          simp only [Nat.zero_add] at s1 s2 s3 s4 s5 s6 s7
          rw [hk0] at s0
          obtain ⟨q0, q1, q2, q3, q4⟩ := hh.cells
          have Hr := Lib.hid (half_write hh (some ⟨g, 0, none⟩) 256 256 (Hsl.out.mod hm (fun k hk _ => by injection hk with hk; rw [← hk]; exact Hnew.out)) (by omega) (by omega))
          have hpe := Dk.write_pend d y.at_ (fill y.b)
          generalize d.write y.at_ (fill y.b) = d6 at *
          generalize d.writeE y.at_ 256 = er at *
          clear hh Hw hm
          go_wp2_with fail
          refine Hr.out.mono ?_
          rintro e w7 ⟨r7, rfl, hdn⟩
          clear q0 q1 q2 q3 q4
          obtain ⟨⟨q0, q1, q2, q3, q4⟩, hfz⟩ := hdn.cells
          have hsm := both_same hdn.store (by omega)
          rw [Hp.out] at hsm
          have Hsm := Lib.hid hsm
          clear hsm
          clear hdn Hr s0 s1 s2 s3 s4 s5 s6 s7
          go_wp2_with fail
          refine Hsm.out.mono ?_
          rintro e w8 ⟨rfl, h8⟩
          have H8 := Lib.hid h8
          clear h8 Hsm q0 q1 q2 q3 q4 hfz
          go_wp2
          go_roundw
          case rel => exact ⟨j + 1, x6, _, r7, by omega, by go_num, by rw [Hp.out], H8.out, by omega⟩
          case measure => simp [intOf]; omega
        have hb0 : (y.kind == 0) = false := by simpa using hk0
        by_cases hk1 : y.kind = 1
        · rw [hk1] at s0
          have Hw := Lib.hid (both_sync Hb5.out (by omega))
          go_wp2_with fail
          refine Hw.out.mono ?_
          rintro e w6 ⟨rfl, x6, hp, hh, hm⟩
          have Hp := Lib.hid hp
          clear hp
          clear s0 s1 s2 s3 s4 s5 s6 s7
          obtain ⟨s0, s1, s2, s3, s4, s5, s6, s7⟩ := Hcell.out w6 (Hm5.out.trans hm (fun _ _ e => e))
          simp only [Nat.zero_add] at s1 s2 s3 s4 s5 s6 s7
          rw [hk1] at s0
          obtain ⟨q0, q1, q2, q3, q4⟩ := hh.cells
          have Hr := Lib.hid (half_sync hh Hb5.out.lenD (by omega))
          have hpe := Dk.sync_pend d
          generalize d.sync = d6 at *
          generalize d.syncE = er at *
          clear hh Hw hm
          go_wp2_with fail
          refine Hr.out.mono ?_
          rintro e w7 ⟨r7, rfl, hdn⟩
          clear q0 q1 q2 q3 q4
          obtain ⟨⟨q0, q1, q2, q3, q4⟩, hfz⟩ := hdn.cells
          have hsm := both_same hdn.store (by omega)
          rw [Hp.out] at hsm
          have Hsm := Lib.hid hsm
          clear hsm
          clear hdn Hr s0 s1 s2 s3 s4 s5 s6 s7
          go_wp2_with fail
          refine Hsm.out.mono ?_
          rintro e w8 ⟨rfl, h8⟩
          have H8 := Lib.hid h8
          clear h8 Hsm q0 q1 q2 q3 q4 hfz
          go_wp2
          go_roundw
          case rel => exact ⟨j + 1, x6, _, r7, by omega, by go_num, by rw [Hp.out], H8.out, by omega⟩
          case measure => simp [intOf]; omega
        have hb1 : (y.kind == 1) = false := by simpa using hk1
        by_cases hk2 : y.kind = 2
        · rw [hk2] at s0
          have Hw := Lib.hid (both_arm Hb5.out y.n hnum)
          go_wp2_with fail
          refine Hw.out.mono ?_
          rintro e w6 ⟨⟨v, rfl⟩, x6, hp, hh, hm⟩
          have Hp := Lib.hid hp
          clear hp
          clear s0 s1 s2 s3 s4 s5 s6 s7
          obtain ⟨s0, s1, s2, s3, s4, s5, s6, s7⟩ := Hcell.out w6 (Hm5.out.trans hm (fun _ _ e => e))
          simp only [Nat.zero_add] at s1 s2 s3 s4 s5 s6 s7
          rw [hk2] at s0
          obtain ⟨q0, q1, q2, q3, q4⟩ := hh.cells
          have Hr := Lib.hid (half_arm hh hnum)
          have hpe : (d.arm y.n).pend.length ≤ d.pend.length := Nat.le_refl _
          generalize d.arm y.n = d6 at *
          clear hh Hw hm
          go_wp2_with fail
          refine Hr.out.mono ?_
          rintro e w7 ⟨r7, rfl, hdn⟩
          clear q0 q1 q2 q3 q4
          obtain ⟨⟨q0, q1, q2, q3, q4⟩, hfz⟩ := hdn.cells
          have hsm := both_same hdn.store (by omega)
          rw [Hp.out] at hsm
          have Hsm := Lib.hid hsm
          clear hsm
          clear hdn Hr s0 s1 s2 s3 s4 s5 s6 s7
          go_wp2_with fail
          refine Hsm.out.mono ?_
          rintro e w8 ⟨rfl, h8⟩
          have H8 := Lib.hid h8
          clear h8 Hsm q0 q1 q2 q3 q4 hfz
          go_wp2
          go_roundw
          case rel => exact ⟨j + 1, x6, _, r7, by omega, by go_num, by rw [Hp.out], H8.out, by omega⟩
          case measure => simp [intOf]; omega
        have hb2 : (y.kind == 2) = false := by simpa using hk2
        by_cases hk3 : y.kind = 3
        · rw [hk3] at s0
          have Hw := Lib.hid (both_crash Hb5.out (by omega) y.cr.A y.cr.n y.cr.c y.cr.ks y.cr.torn y.cr.k (Hcr.out.keep Hb5.out.dev.old).1 Hcr.out.2)
          go_wp2_with fail
          refine Hw.out.mono ?_
          rintro e w6 ⟨x6, rfl, hh, hm⟩
          clear s0 s1 s2 s3 s4 s5 s6 s7
          obtain ⟨s0, s1, s2, s3, s4, s5, s6, s7⟩ := Hcell.out w6 (Hm5.out.trans hm (fun _ _ e => e))
          simp only [Nat.zero_add] at s1 s2 s3 s4 s5 s6 s7
          rw [hk3] at s0
          obtain ⟨q0, q1, q2, q3, q4⟩ := hh.cells
          have Hr := Lib.hid (half_crash (kA := y.cr.A) (kc := y.cr.c) hh Hb5.out.lenD (by omega) (Hcr.out.keep hh.dev.old).1 Hcr.out.2)
          have hpe : (d.crash (keptN y.cr.ks y.cr.torn y.cr.k)).pend.length ≤ 0 := Nat.le_refl _
          generalize d.crash (keptN y.cr.ks y.cr.torn y.cr.k) = d6 at *
          clear hh Hw hm
          go_wp2_with fail
          refine Hr.out.mono ?_
          rintro e w7 ⟨r7, rfl, hdn⟩
          clear q0 q1 q2 q3 q4
          obtain ⟨⟨q0, q1, q2, q3, q4⟩, hfz⟩ := hdn.cells
          have hsm := both_same hdn.store (by omega)
          have Hsm := Lib.hid hsm
          clear hsm
          clear hdn Hr s0 s1 s2 s3 s4 s5 s6 s7
          go_wp2_with fail
          refine Hsm.out.mono ?_
          rintro e w8 ⟨rfl, h8⟩
          have H8 := Lib.hid h8
          clear h8 Hsm q0 q1 q2 q3 q4 hfz
          go_wp2
          go_roundw
          case rel => exact ⟨j + 1, x6, _, r7, by omega, by go_num, rfl, H8.out, by omega⟩
          case measure => simp [intOf]; omega
        have hb3 : (y.kind == 3) = false := by simpa using hk3
        obtain ⟨q0, q1, q2, q3, q4⟩ := Hb5.out.cells
        have Hsm := Lib.hid (both_same Hb5.out (by omega))
        go_wp2_with fail
        refine Hsm.out.mono ?_
        rintro e w8 ⟨rfl, h8⟩
        have H8 := Lib.hid h8
        clear h8 Hsm q0 q1 q2 q3 q4 s0 s1 s2 s3 s4 s5 s6 s7
        go_wp2
        go_roundw
        case rel => exact ⟨j + 1, xd, d, r, by omega, by go_num, rfl, H8.out, by omega⟩
        case measure => simp [intOf]; omega
      | true =>
        rw [hsh] at s4
        have Hsl := Lib.hid Hs5.out.tail1
        clear Hs5 hsh
        by_cases hk0 : y.kind = 0
        · rw [hk0] at s0
          have Hw := Lib.hid (both_write Hb5.out y.at_ (some ⟨g, 1, none⟩) 255 255 ((fill y.b).drop 1) Hsl.out (fun k hk => by injection hk with hk; rw [← hk]; exact Hnew.out) (by omega))
          go_wp2_with fail
          refine Hw.out.mono ?_
          rintro e w6 ⟨rfl, x6, hp, hh, hm⟩
          have Hp := Lib.hid hp
          clear hp
          clear s0 s1 s2 s3 s4 s5 s6 s7
          obtain ⟨s0, s1, s2, s3, s4, s5, s6, s7⟩ := Hcell.out w6 (Hm5.out.trans hm (fun _ _ e => e))
          simp only [Nat.zero_add] at s1 s2 s3 s4 s5 s6 s7
          rw [hk0] at s0
          obtain ⟨q0, q1, q2, q3, q4⟩ := hh.cells
          have Hr := Lib.hid (half_write hh (some ⟨g, 1, none⟩) 255 255 (Hsl.out.mod hm (fun k hk _ => by injection hk with hk; rw [← hk]; exact Hnew.out)) (by omega) (by omega))
          have hpe := Dk.write_pend d y.at_ ((fill y.b).drop 1)
          generalize d.write y.at_ ((fill y.b).drop 1) = d6 at *
          generalize d.writeE y.at_ 255 = er at *
          clear hh Hw hm
          go_wp2_with fail
          refine Hr.out.mono ?_
          rintro e w7 ⟨r7, rfl, hdn⟩
          clear q0 q1 q2 q3 q4
          obtain ⟨⟨q0, q1, q2, q3, q4⟩, hfz⟩ := hdn.cells
          have hsm := both_same hdn.store (by omega)
          rw [Hp.out] at hsm
          have Hsm := Lib.hid hsm
          clear hsm
          clear hdn Hr s0 s1 s2 s3 s4 s5 s6 s7
          go_wp2_with fail
          refine Hsm.out.mono ?_
          rintro e w8 ⟨rfl, h8⟩
          have H8 := Lib.hid h8
          clear h8 Hsm q0 q1 q2 q3 q4 hfz
          go_wp2
          go_roundw
          case rel => exact ⟨j + 1, x6, _, r7, by omega, by go_num, by rw [Hp.out], H8.out, by omega⟩
          case measure => simp [intOf]; omega
        have hb0 : (y.kind == 0) = false := by simpa using hk0
        by_cases hk1 : y.kind = 1
        · rw [hk1] at s0
          have Hw := Lib.hid (both_sync Hb5.out (by omega))
          go_wp2_with fail
          refine Hw.out.mono ?_
          rintro e w6 ⟨rfl, x6, hp, hh, hm⟩
          have Hp := Lib.hid hp
          clear hp
          clear s0 s1 s2 s3 s4 s5 s6 s7
          obtain ⟨s0, s1, s2, s3, s4, s5, s6, s7⟩ := Hcell.out w6 (Hm5.out.trans hm (fun _ _ e => e))
          simp only [Nat.zero_add] at s1 s2 s3 s4 s5 s6 s7
          rw [hk1] at s0
          obtain ⟨q0, q1, q2, q3, q4⟩ := hh.cells
          have Hr := Lib.hid (half_sync hh Hb5.out.lenD (by omega))
          have hpe := Dk.sync_pend d
          generalize d.sync = d6 at *
          generalize d.syncE = er at *
          clear hh Hw hm
          go_wp2_with fail
          refine Hr.out.mono ?_
          rintro e w7 ⟨r7, rfl, hdn⟩
          clear q0 q1 q2 q3 q4
          obtain ⟨⟨q0, q1, q2, q3, q4⟩, hfz⟩ := hdn.cells
          have hsm := both_same hdn.store (by omega)
          rw [Hp.out] at hsm
          have Hsm := Lib.hid hsm
          clear hsm
          clear hdn Hr s0 s1 s2 s3 s4 s5 s6 s7
          go_wp2_with fail
          refine Hsm.out.mono ?_
          rintro e w8 ⟨rfl, h8⟩
          have H8 := Lib.hid h8
          clear h8 Hsm q0 q1 q2 q3 q4 hfz
          go_wp2
          go_roundw
          case rel => exact ⟨j + 1, x6, _, r7, by omega, by go_num, by rw [Hp.out], H8.out, by omega⟩
          case measure => simp [intOf]; omega
        have hb1 : (y.kind == 1) = false := by simpa using hk1
        by_cases hk2 : y.kind = 2
        · rw [hk2] at s0
          have Hw := Lib.hid (both_arm Hb5.out y.n hnum)
          go_wp2_with fail
          refine Hw.out.mono ?_
          rintro e w6 ⟨⟨v, rfl⟩, x6, hp, hh, hm⟩
          have Hp := Lib.hid hp
          clear hp
          clear s0 s1 s2 s3 s4 s5 s6 s7
          obtain ⟨s0, s1, s2, s3, s4, s5, s6, s7⟩ := Hcell.out w6 (Hm5.out.trans hm (fun _ _ e => e))
          simp only [Nat.zero_add] at s1 s2 s3 s4 s5 s6 s7
          rw [hk2] at s0
          obtain ⟨q0, q1, q2, q3, q4⟩ := hh.cells
          have Hr := Lib.hid (half_arm hh hnum)
          have hpe : (d.arm y.n).pend.length ≤ d.pend.length := Nat.le_refl _
          generalize d.arm y.n = d6 at *
          clear hh Hw hm
          go_wp2_with fail
          refine Hr.out.mono ?_
          rintro e w7 ⟨r7, rfl, hdn⟩
          clear q0 q1 q2 q3 q4
          obtain ⟨⟨q0, q1, q2, q3, q4⟩, hfz⟩ := hdn.cells
          have hsm := both_same hdn.store (by omega)
          rw [Hp.out] at hsm
          have Hsm := Lib.hid hsm
          clear hsm
          clear hdn Hr s0 s1 s2 s3 s4 s5 s6 s7
          go_wp2_with fail
          refine Hsm.out.mono ?_
          rintro e w8 ⟨rfl, h8⟩
          have H8 := Lib.hid h8
          clear h8 Hsm q0 q1 q2 q3 q4 hfz
          go_wp2
          go_roundw
          case rel => exact ⟨j + 1, x6, _, r7, by omega, by go_num, by rw [Hp.out], H8.out, by omega⟩
          case measure => simp [intOf]; omega
        have hb2 : (y.kind == 2) = false := by simpa using hk2
        by_cases hk3 : y.kind = 3
        · rw [hk3] at s0
          have Hw := Lib.hid (both_crash Hb5.out (by omega) y.cr.A y.cr.n y.cr.c y.cr.ks y.cr.torn y.cr.k (Hcr.out.keep Hb5.out.dev.old).1 Hcr.out.2)
          go_wp2_with fail
          refine Hw.out.mono ?_
          rintro e w6 ⟨x6, rfl, hh, hm⟩
          clear s0 s1 s2 s3 s4 s5 s6 s7
          obtain ⟨s0, s1, s2, s3, s4, s5, s6, s7⟩ := Hcell.out w6 (Hm5.out.trans hm (fun _ _ e => e))
          simp only [Nat.zero_add] at s1 s2 s3 s4 s5 s6 s7
          rw [hk3] at s0
          obtain ⟨q0, q1, q2, q3, q4⟩ := hh.cells
          have Hr := Lib.hid (half_crash (kA := y.cr.A) (kc := y.cr.c) hh Hb5.out.lenD (by omega) (Hcr.out.keep hh.dev.old).1 Hcr.out.2)
          have hpe : (d.crash (keptN y.cr.ks y.cr.torn y.cr.k)).pend.length ≤ 0 := Nat.le_refl _
          generalize d.crash (keptN y.cr.ks y.cr.torn y.cr.k) = d6 at *
          clear hh Hw hm
          go_wp2_with fail
          refine Hr.out.mono ?_
          rintro e w7 ⟨r7, rfl, hdn⟩
          clear q0 q1 q2 q3 q4
          obtain ⟨⟨q0, q1, q2, q3, q4⟩, hfz⟩ := hdn.cells
          have hsm := both_same hdn.store (by omega)
          have Hsm := Lib.hid hsm
          clear hsm
          clear hdn Hr s0 s1 s2 s3 s4 s5 s6 s7
          go_wp2_with fail
          refine Hsm.out.mono ?_
          rintro e w8 ⟨rfl, h8⟩
          have H8 := Lib.hid h8
          clear h8 Hsm q0 q1 q2 q3 q4 hfz
          go_wp2
          go_roundw
          case rel => exact ⟨j + 1, x6, _, r7, by omega, by go_num, rfl, H8.out, by omega⟩
          case measure => simp [intOf]; omega
        have hb3 : (y.kind == 3) = false := by simpa using hk3
        obtain ⟨q0, q1, q2, q3, q4⟩ := Hb5.out.cells
        have Hsm := Lib.hid (both_same Hb5.out (by omega))
        go_wp2_with fail
        refine Hsm.out.mono ?_
        rintro e w8 ⟨rfl, h8⟩
        have H8 := Lib.hid h8
        clear h8 Hsm q0 q1 q2 q3 q4 s0 s1 s2 s3 s4 s5 s6 s7
        go_wp2
        go_roundw
        case rel => exact ⟨j + 1, xd, d, r, by omega, by go_num, rfl, H8.out, by omega⟩
        case measure => simp [intOf]; omega
    · obtain rfl : j = n := by omega
      have HF := Lib.hid (Hd.out.dev.old.below (Nat.le_refl _) (fun _ _ => id))
      clear Hd
      go_wp2
      go_ret
      exact ⟨rfl, HF.out⟩
end Go.Proofs.Ytfgngmoeedegiaa
