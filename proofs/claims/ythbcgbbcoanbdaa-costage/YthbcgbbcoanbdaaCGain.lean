/-
  Package cost: Gain.
-/
import Derived.Test.YthbcgbbcoanbdaaCMath
import Derived.Test.YthbcgbbcoanbdaaTLive
import Derived.Deep.RegionHeld3
import Derived.Deep.DeepCutAuto
import Derived.BigQuiet
namespace Go.Proofs.Ythbcgbbcoanbdaa
open Go Go.RowKit

/-- Three numbers in a box that was made in w or behind it. -/
structure RIn (w W : World) (b : Nat) (e : TypeId) (s : Tr) : Prop where
  box : RBx W b e s
  mod : Mod (fun _ => False) w W
  lo : w.heap.size ≤ b
theorem RIn.late {w w7 : World} {e : TypeId} (hm : Mod (fun _ => False) w w7) (s : Tr) : RIn w (w7.alloc (.cells #[.int .i64 s.a, .int .i64 s.b, .int .i64 s.c] e)) w7.heap.size e s := ⟨RBx.new w7 e s, hm.alloc _, hm.size⟩
theorem RIn.early {w w7 : World} {e : TypeId} (hm : Mod (fun _ => False) (w.drew.alloc (.cells #[.int .i64 0, .int .i64 0, .int .i64 0] e)) w7) (s : Tr) :
    RIn w (((w7.setCell ⟨w.heap.size, 0, none⟩ (.int .i64 s.a)).setCell ⟨w.heap.size, 1, none⟩ (.int .i64 s.b)).setCell ⟨w.heap.size, 2, none⟩ (.int .i64 s.c)) w.heap.size e s := by
  have hb : RBx w7 w.heap.size e noT := (RBx.new w.drew e noT).keep hm
  have hw : Mod (fun _ => False) w w7 := ((Mod.refl (fun _ => False) w).drew.alloc _).trans hm (fun _ _ h => h)
  exact ⟨heap_set (heap_set (heap_set hb 0 _) 1 _) 2 _, ((hw.mono (G := fun k => w.heap.size ≤ k) (fun _ _ h => h.elim)).trans (Mod.three w.heap.size 0 1 2 _ _ _) (fun k _ e => by show w.heap.size ≤ k; omega)).mono (fun k hk e => by omega), Nat.le_refl _⟩

set_option maxRecDepth 100000 in
set_option maxHeartbeats 3200000 in
theorem gain_ok (w : World) (x : TV) (h : x.At w) (hn : x.n ≤ 1000) (hm : x.m ≤ 1000) (g : Int) :
    Calls Try.prog 16 #[.agg #[.slice x.P x.n x.c, .slice x.S x.m x.d, .int .i64 x.t.sl, .int .i64 x.t.nw], .int .i64 g] w fun e w' => e = .returned (.tuple #[.int .i64 (gaN x.t g), .int .i64 (gaD x.t g), .bool (gnB x.t g)]) ∧ Mod (fun _ => False) w w' := by
  obtain ⟨w1, hw1⟩ : ∃ w1, w.alloc (.cells #[.slice x.P x.n x.c, .slice x.S x.m x.d, .int .i64 x.t.sl, .int .i64 x.t.nw] 27) = w1 := ⟨_, rfl⟩
  have hm1 : Mod (fun _ => False) w w1 := by rw [← hw1]; exact (Mod.refl _ w).alloc _
  have hbx : TBx w1 w.heap.size x := by rw [← hw1]; exact TBx.new w x
  obtain ⟨c0, c1, c2, c3⟩ := hbx.cells
  have HB := Lib.hid hbx
  have HM := Lib.hid hm1
  have HX := Lib.hid (h.keep hm1)
  have HX0 := Lib.hid h
  have Hm := Lib.hid (tmay_ok w1 x HX.out hn hm)
  have Hsl : Hid (x.t.sg.length = x.m) := h.sg.len
  clear hbx hm1 h
  cases hy : mayB x.t with
  | false =>
    have hg : gnB x.t g = false := by unfold gnB; rw [hy]; rfl
    rw [(ga_no hg).1, (ga_no hg).2, hg]
    rw [hy] at Hm
    clear hy hg
    go_enter Try.func16, Try.ntmps16
    go_wp2_with fail
    refine Hm.out.mono ?_
    rintro e w2 ⟨rfl, hm2⟩
    have HB2 := Lib.hid (HB.out.keep hm2)
    have HX2 := Lib.hid (HX.out.keep hm2)
    have HM2 := Lib.hid (HM.out.trans hm2 (fun _ _ h => h))
    clear hm2 hw1 c0 c1 c2 c3
    obtain ⟨c0, c1, c2, c3⟩ := HB2.out.cells
    go_wp2
    refine bodyPost_ret (v := .tuple #[.int .i64 0, .int .i64 0, .bool false]) (by simp [results, Try.results16, go_sem]) rfl ?_
    exact ⟨rfl, HM2.out⟩
  | true =>
  rw [hy] at Hm
  have HMAY := Lib.hid (mayB_iff.1 hy)
  clear hy
  by_cases hr : 0 ≤ g ∧ g < (x.m : Int)
  rotate_left
  · have hg : gnB x.t g = false := by
      cases h : gnB x.t g with
      | false => rfl
      | true => have := (gnB_iff.1 h).2.1; rw [Hsl.out] at this; exact absurd this hr
    rw [(ga_no hg).1, (ga_no hg).2, hg]
    clear hg
    by_cases h0 : g < 0
    · have hd : decide (g < 0) = true := by simpa using h0
      clear h0 hr
      go_enter Try.func16, Try.ntmps16
      go_wp2_with fail
      refine Hm.out.mono ?_
      rintro e w2 ⟨rfl, hm2⟩
      have HB2 := Lib.hid (HB.out.keep hm2)
      have HX2 := Lib.hid (HX.out.keep hm2)
      have HM2 := Lib.hid (HM.out.trans hm2 (fun _ _ h => h))
      clear hm2 hw1 c0 c1 c2 c3
      obtain ⟨c0, c1, c2, c3⟩ := HB2.out.cells
      go_wp2
      refine bodyPost_ret (v := .tuple #[.int .i64 0, .int .i64 0, .bool false]) (by simp [results, Try.results16, go_sem]) rfl ?_
      exact ⟨rfl, HM2.out⟩
    · have hd : decide (g < 0) = false := by simpa using h0
      have hd2 : decide ((x.m : Int) ≤ g) = true := by rw [decide_eq_true_eq]; omega
      clear h0 hr
      go_enter Try.func16, Try.ntmps16
      go_wp2_with fail
      refine Hm.out.mono ?_
      rintro e w2 ⟨rfl, hm2⟩
      have HB2 := Lib.hid (HB.out.keep hm2)
      have HX2 := Lib.hid (HX.out.keep hm2)
      have HM2 := Lib.hid (HM.out.trans hm2 (fun _ _ h => h))
      clear hm2 hw1 c0 c1 c2 c3
      obtain ⟨c0, c1, c2, c3⟩ := HB2.out.cells
      go_wp2
      refine bodyPost_ret (v := .tuple #[.int .i64 0, .int .i64 0, .bool false]) (by simp [results, Try.results16, go_sem]) rfl ?_
      exact ⟨rfl, HM2.out⟩
  obtain ⟨g0, g1⟩ := hr
  have hd : decide (g < 0) = false := by rw [decide_eq_false_iff_not]; omega
  have hd2 : decide ((x.m : Int) ≤ g) = false := by rw [decide_eq_false_iff_not]; omega
  obtain ⟨k, rfl⟩ : ∃ k : Nat, g = (k : Int) := ⟨g.toNat, by omega⟩
  have hkm : k < x.m := by omega
  have hlive : liveI x.t (k : Int) = lvN x.t (k : Int) := liveI_in HMAY.out (by rw [Hsl.out]; exact hkm)
  have hl0 := lvN_nn x.t (k : Int)
  have hl1 := lvN_le HMAY.out k
  have k1 := HMAY.out.k1
  have k2 := HMAY.out.k2
  have n1 := HMAY.out.n1
  have n2 := HMAY.out.n2
  have hseg := HMAY.out.segs (i := k) (by rw [Hsl.out]; exact hkm)
  have Hcs : Hid (∃ b o, x.S = some ⟨b, o, none⟩ ∧ ∀ w', Mod (fun _ => False) w w' → At3 w' b (o + k * 3) (atS x.t.sg k)) := by
    obtain ⟨b, o, hS, hc⟩ := HX0.out.sg.cells (by omega)
    exact ⟨b, o, hS, fun w' hm' => (hc k hkm).keep (hm'.block b (hc k hkm).lt id)⟩
  have Hg : Hid (gnB x.t (k : Int) = (decide ((atS x.t.sg k).a = 2) && decide (lvN x.t (k : Int) < x.t.sl))) := by
    unfold gnB
    rw [mayB_iff.2 HMAY.out, inB_iff.2 (by rw [Hsl.out]; omega), Int.toNat_natCast]
    exact Lib.hid (by simp)
  have Hgn : Hid (gnB x.t (k : Int) = true → gaN x.t (k : Int) = (x.t.sl - lvN x.t (k : Int)) * (x.t.nw - (atS x.t.sg k).c + 1) ∧ gaD x.t (k : Int) = x.t.sl + lvN x.t (k : Int)) := fun h => by
    unfold gaN gaD
    rw [if_pos h, if_pos h, Int.toNat_natCast]
    exact ⟨rfl, rfl⟩
  have Hlive := Lib.hid hlive
  clear hlive
  generalize atS x.t.sg k = s at *
  generalize lvN x.t (k : Int) = lv at *
  obtain ⟨b, o, hS, hcs⟩ := Hcs.out
  have HcsS := Lib.hid hcs
  have HS := Lib.hid hS
  clear hcs Hcs hS
  by_cases h2 : s.a = 2
  rotate_left
  · have hg : gnB x.t (k : Int) = false := by rw [Hg.out, decide_eq_false h2]; rfl
    rw [(ga_no hg).1, (ga_no hg).2, hg]
    have hs2 : (s.a != 2) = true := by simpa using h2
    clear hg h2 hseg
    go_enter Try.func16, Try.ntmps16
    go_wp2_with fail
    refine Hm.out.mono ?_
    rintro e w2 ⟨rfl, hm2⟩
    have HB2 := Lib.hid (HB.out.keep hm2)
    have HX2 := Lib.hid (HX.out.keep hm2)
    have HM2 := Lib.hid (HM.out.trans hm2 (fun _ _ h => h))
    clear hm2 hw1 c0 c1 c2 c3
    obtain ⟨c0, c1, c2, c3⟩ := HB2.out.cells
    rw [HS.out] at c1
    obtain ⟨s0, s1, s2⟩ := HcsS.out w2 HM2.out
    have HI : Hid (∀ V, Mod (fun _ => False) w2 V → (fun w' => (w'.cell? ⟨w.heap.size, 0, none⟩ = some (.slice x.P x.n x.c) ∧ w'.cell? ⟨w.heap.size, 1, none⟩ = some (.slice (some ⟨b, o, none⟩) x.m x.d) ∧ w'.cell? ⟨w.heap.size, 2, none⟩ = some (.int .i64 x.t.sl) ∧ w'.cell? ⟨w.heap.size, 3, none⟩ = some (.int .i64 x.t.nw)) ∧ w'.cell? ⟨b, o + k * 3, none⟩ = some (.int .i64 s.a) ∧ w'.cell? ⟨b, o + k * 3 + 1, none⟩ = some (.int .i64 s.b) ∧ w'.cell? ⟨b, o + k * 3 + 2, none⟩ = some (.int .i64 s.c)) V) := fun V hV => ⟨by have := (HB2.out.keep hV).cells; rw [HS.out] at this; exact this, HcsS.out V (HM2.out.trans hV (fun _ _ h => h))⟩
    have HD : Hid (∀ V, Mod (fun _ => False) w2 V → Calls Try.prog 21 #[.agg #[.slice x.P x.n x.c, .slice (some ⟨b, o, none⟩) x.m x.d, .int .i64 x.t.sl, .int .i64 x.t.nw], .int .i64 (k : Int)] V fun e w' => e = .returned (.int .i64 lv) ∧ Mod (fun _ => False) V w') := fun V hV => by
      have := live_ok V x (HX2.out.keep hV) hn hm (k : Int)
      rw [Hlive.out, HS.out] at this
      exact this
    have Hea : Hid (∀ (R : Prop) (w7 : World), Mod (fun _ => False) (w2.drew.alloc (.cells #[.int .i64 0, .int .i64 0, .int .i64 0] 45)) w7 → (w7.cell? ⟨w2.heap.size, 0, none⟩ = some (.int .i64 0) → w7.cell? ⟨w2.heap.size, 1, none⟩ = some (.int .i64 0) → w7.cell? ⟨w2.heap.size, 2, none⟩ = some (.int .i64 0) → w7.frozen? ⟨w2.heap.size, 0, none⟩ = false → w7.frozen? ⟨w2.heap.size, 1, none⟩ = false → w7.frozen? ⟨w2.heap.size, 2, none⟩ = false → R) → R) := fun R w7 hm h => by
      have hb : RBx w7 w2.heap.size 45 noT := (RBx.new w2.drew 45 noT).keep hm
      exact h hb.cells.1 hb.cells.2.1 hb.cells.2.2 (hb.frozen 0) (hb.frozen 1) (hb.frozen 2)
    go_upto_region 3 with fail
    go_cut [7, 8] (fun p e wx => ∃ bx, p = .pointer (some ⟨bx, 0, none⟩) ∧ e = .int .i64 lv ∧ RIn w2 wx bx 45 s)
    case first =>
      go_region_held3 (fun w' => (w'.cell? ⟨w.heap.size, 0, none⟩ = some (.slice x.P x.n x.c) ∧ w'.cell? ⟨w.heap.size, 1, none⟩ = some (.slice (some ⟨b, o, none⟩) x.m x.d) ∧ w'.cell? ⟨w.heap.size, 2, none⟩ = some (.int .i64 x.t.sl) ∧ w'.cell? ⟨w.heap.size, 3, none⟩ = some (.int .i64 x.t.nw)) ∧ w'.cell? ⟨b, o + k * 3, none⟩ = some (.int .i64 s.a) ∧ w'.cell? ⟨b, o + k * 3 + 1, none⟩ = some (.int .i64 s.b) ∧ w'.cell? ⟨b, o + k * 3 + 2, none⟩ = some (.int .i64 s.c)) (first | exact HI.out _ (Mod.refl (fun _ => False) w2).drew | exact HI.out _ ((Mod.refl (fun _ => False) w2).drew.alloc _) | exact HI.out _ ((Mod.refl (fun _ => False) w2).drew.trans hm4 (fun _ _ h => h)) | exact HI.out _ (((Mod.refl (fun _ => False) w2).drew.trans hm4 (fun _ _ h => h)).alloc _) | exact HI.out _ (((Mod.refl (fun _ => False) w2).drew.alloc _).trans hm4 (fun _ _ h => h)) | exact HI.out _ (RIn.early hm4 s).mod) ((go_at_call 21; refine (HD.out _ (by first | exact (Mod.refl (fun _ => False) w2).drew | exact (Mod.refl (fun _ => False) w2).drew.alloc _)).mono ?_; rintro e w4 ⟨rfl, hm4⟩; first | (refine Hea.out _ _ hm4 ?_; intro y0 y1 y2 y3 y4 y5) | skip))
      all_goals
        go_wp2_with fail
        go_meet
        first
          | exact ⟨_, rfl, rfl, RIn.late ((Mod.refl (fun _ => False) w2).drew.trans hm4 (fun _ _ h => h)) s⟩
          | exact ⟨_, rfl, rfl, RIn.early hm4 s⟩
    case rest =>
    clear HI Hea HD c0 c1 c2 c3 s0 s1 s2
    obtain ⟨b7, rfl, rfl, hin⟩ := hcut
    have HM4 := Lib.hid (HM2.out.trans hin.mod (fun _ _ h => h))
    obtain ⟨c0, c1, c2, c3⟩ := (HB2.out.keep hin.mod).cells
    obtain ⟨r0, r1, r2⟩ := hin.box.cells
    clear hin
    go_wp2
    refine bodyPost_ret (v := .tuple #[.int .i64 0, .int .i64 0, .bool false]) (by simp [results, Try.results16, go_sem]) rfl ?_
    exact ⟨rfl, HM4.out⟩
  have hs2 : (s.a != 2) = false := by simpa using h2
  have hw1' : wrap64 (x.t.sl - lv) = x.t.sl - lv := by unfold wrap64; omega
  by_cases hd0 : x.t.sl - lv = 0
  · have hg : gnB x.t (k : Int) = false := by rw [Hg.out, decide_eq_false (p := lv < x.t.sl) (by omega)]; simp
    rw [(ga_no hg).1, (ga_no hg).2, hg]
    have hdd : (x.t.sl - lv == 0) = true := by simpa using hd0
    clear hg h2 hseg hd0
    go_enter Try.func16, Try.ntmps16
    go_wp2_with fail
    refine Hm.out.mono ?_
    rintro e w2 ⟨rfl, hm2⟩
    have HB2 := Lib.hid (HB.out.keep hm2)
    have HX2 := Lib.hid (HX.out.keep hm2)
    have HM2 := Lib.hid (HM.out.trans hm2 (fun _ _ h => h))
    clear hm2 hw1 c0 c1 c2 c3
    obtain ⟨c0, c1, c2, c3⟩ := HB2.out.cells
    rw [HS.out] at c1
    obtain ⟨s0, s1, s2⟩ := HcsS.out w2 HM2.out
    have HI : Hid (∀ V, Mod (fun _ => False) w2 V → (fun w' => (w'.cell? ⟨w.heap.size, 0, none⟩ = some (.slice x.P x.n x.c) ∧ w'.cell? ⟨w.heap.size, 1, none⟩ = some (.slice (some ⟨b, o, none⟩) x.m x.d) ∧ w'.cell? ⟨w.heap.size, 2, none⟩ = some (.int .i64 x.t.sl) ∧ w'.cell? ⟨w.heap.size, 3, none⟩ = some (.int .i64 x.t.nw)) ∧ w'.cell? ⟨b, o + k * 3, none⟩ = some (.int .i64 s.a) ∧ w'.cell? ⟨b, o + k * 3 + 1, none⟩ = some (.int .i64 s.b) ∧ w'.cell? ⟨b, o + k * 3 + 2, none⟩ = some (.int .i64 s.c)) V) := fun V hV => ⟨by have := (HB2.out.keep hV).cells; rw [HS.out] at this; exact this, HcsS.out V (HM2.out.trans hV (fun _ _ h => h))⟩
    have HD : Hid (∀ V, Mod (fun _ => False) w2 V → Calls Try.prog 21 #[.agg #[.slice x.P x.n x.c, .slice (some ⟨b, o, none⟩) x.m x.d, .int .i64 x.t.sl, .int .i64 x.t.nw], .int .i64 (k : Int)] V fun e w' => e = .returned (.int .i64 lv) ∧ Mod (fun _ => False) V w') := fun V hV => by
      have := live_ok V x (HX2.out.keep hV) hn hm (k : Int)
      rw [Hlive.out, HS.out] at this
      exact this
    have Hea : Hid (∀ (R : Prop) (w7 : World), Mod (fun _ => False) (w2.drew.alloc (.cells #[.int .i64 0, .int .i64 0, .int .i64 0] 45)) w7 → (w7.cell? ⟨w2.heap.size, 0, none⟩ = some (.int .i64 0) → w7.cell? ⟨w2.heap.size, 1, none⟩ = some (.int .i64 0) → w7.cell? ⟨w2.heap.size, 2, none⟩ = some (.int .i64 0) → w7.frozen? ⟨w2.heap.size, 0, none⟩ = false → w7.frozen? ⟨w2.heap.size, 1, none⟩ = false → w7.frozen? ⟨w2.heap.size, 2, none⟩ = false → R) → R) := fun R w7 hm h => by
      have hb : RBx w7 w2.heap.size 45 noT := (RBx.new w2.drew 45 noT).keep hm
      exact h hb.cells.1 hb.cells.2.1 hb.cells.2.2 (hb.frozen 0) (hb.frozen 1) (hb.frozen 2)
    go_upto_region 3 with fail
    go_cut [7, 8] (fun p e wx => ∃ bx, p = .pointer (some ⟨bx, 0, none⟩) ∧ e = .int .i64 lv ∧ RIn w2 wx bx 45 s)
    case first =>
      go_region_held3 (fun w' => (w'.cell? ⟨w.heap.size, 0, none⟩ = some (.slice x.P x.n x.c) ∧ w'.cell? ⟨w.heap.size, 1, none⟩ = some (.slice (some ⟨b, o, none⟩) x.m x.d) ∧ w'.cell? ⟨w.heap.size, 2, none⟩ = some (.int .i64 x.t.sl) ∧ w'.cell? ⟨w.heap.size, 3, none⟩ = some (.int .i64 x.t.nw)) ∧ w'.cell? ⟨b, o + k * 3, none⟩ = some (.int .i64 s.a) ∧ w'.cell? ⟨b, o + k * 3 + 1, none⟩ = some (.int .i64 s.b) ∧ w'.cell? ⟨b, o + k * 3 + 2, none⟩ = some (.int .i64 s.c)) (first | exact HI.out _ (Mod.refl (fun _ => False) w2).drew | exact HI.out _ ((Mod.refl (fun _ => False) w2).drew.alloc _) | exact HI.out _ ((Mod.refl (fun _ => False) w2).drew.trans hm4 (fun _ _ h => h)) | exact HI.out _ (((Mod.refl (fun _ => False) w2).drew.trans hm4 (fun _ _ h => h)).alloc _) | exact HI.out _ (((Mod.refl (fun _ => False) w2).drew.alloc _).trans hm4 (fun _ _ h => h)) | exact HI.out _ (RIn.early hm4 s).mod) ((go_at_call 21; refine (HD.out _ (by first | exact (Mod.refl (fun _ => False) w2).drew | exact (Mod.refl (fun _ => False) w2).drew.alloc _)).mono ?_; rintro e w4 ⟨rfl, hm4⟩; first | (refine Hea.out _ _ hm4 ?_; intro y0 y1 y2 y3 y4 y5) | skip))
      all_goals
        go_wp2_with fail
        go_meet
        first
          | exact ⟨_, rfl, rfl, RIn.late ((Mod.refl (fun _ => False) w2).drew.trans hm4 (fun _ _ h => h)) s⟩
          | exact ⟨_, rfl, rfl, RIn.early hm4 s⟩
    case rest =>
    clear HI Hea HD c0 c1 c2 c3 s0 s1 s2
    obtain ⟨b7, rfl, rfl, hin⟩ := hcut
    have HM4 := Lib.hid (HM2.out.trans hin.mod (fun _ _ h => h))
    obtain ⟨c0, c1, c2, c3⟩ := (HB2.out.keep hin.mod).cells
    obtain ⟨r0, r1, r2⟩ := hin.box.cells
    clear hin
    go_wp2
    refine bodyPost_ret (v := .tuple #[.int .i64 0, .int .i64 0, .bool false]) (by simp [results, Try.results16, go_sem]) rfl ?_
    exact ⟨rfl, HM4.out⟩
  have hg : gnB x.t (k : Int) = true := by rw [Hg.out, decide_eq_true h2, decide_eq_true (p := lv < x.t.sl) (by omega)]; rfl
  have hG := Hgn.out hg
  rw [hG.1, hG.2, hg]
  have hdd : (x.t.sl - lv == 0) = false := by simpa using hd0
  have hsc : 0 ≤ s.c ∧ s.c ≤ x.t.nw := by
    rcases hseg with e | e | e
    · rw [e] at h2; exact absurd h2 (by decide)
    · omega
    · omega
  have hy0 : 1 ≤ x.t.nw - s.c + 1 ∧ x.t.nw - s.c + 1 ≤ 1099511627777 := by omega
  have hwm : wrap64 ((x.t.sl - lv) * (x.t.nw - s.c + 1)) = (x.t.sl - lv) * (x.t.nw - s.c + 1) := by
    have b1 : 1 ≤ x.t.sl - lv ∧ x.t.sl - lv ≤ 16 := by omega
    generalize x.t.sl - lv = u at *
    generalize x.t.nw - s.c + 1 = y at *
    have q1 : 0 ≤ u * y := Int.mul_nonneg (by omega) (by omega)
    have q2 : u * y ≤ 16 * 1099511627777 := Int.mul_le_mul b1.2 hy0.2 (by omega) (by omega)
    generalize u * y = z at *
    unfold wrap64
    omega
  have Hwm := Lib.hid hwm
  clear hg hG h2 hseg hd0 hwm
  go_enter Try.func16, Try.ntmps16
  go_wp2_with fail
  refine Hm.out.mono ?_
  rintro e w2 ⟨rfl, hm2⟩
  have HB2 := Lib.hid (HB.out.keep hm2)
  have HX2 := Lib.hid (HX.out.keep hm2)
  have HM2 := Lib.hid (HM.out.trans hm2 (fun _ _ h => h))
  clear hm2 hw1 c0 c1 c2 c3
  obtain ⟨c0, c1, c2, c3⟩ := HB2.out.cells
  rw [HS.out] at c1
  obtain ⟨s0, s1, s2⟩ := HcsS.out w2 HM2.out
  have HI : Hid (∀ V, Mod (fun _ => False) w2 V → (fun w' => (w'.cell? ⟨w.heap.size, 0, none⟩ = some (.slice x.P x.n x.c) ∧ w'.cell? ⟨w.heap.size, 1, none⟩ = some (.slice (some ⟨b, o, none⟩) x.m x.d) ∧ w'.cell? ⟨w.heap.size, 2, none⟩ = some (.int .i64 x.t.sl) ∧ w'.cell? ⟨w.heap.size, 3, none⟩ = some (.int .i64 x.t.nw)) ∧ w'.cell? ⟨b, o + k * 3, none⟩ = some (.int .i64 s.a) ∧ w'.cell? ⟨b, o + k * 3 + 1, none⟩ = some (.int .i64 s.b) ∧ w'.cell? ⟨b, o + k * 3 + 2, none⟩ = some (.int .i64 s.c)) V) := fun V hV => ⟨by have := (HB2.out.keep hV).cells; rw [HS.out] at this; exact this, HcsS.out V (HM2.out.trans hV (fun _ _ h => h))⟩
  have HD : Hid (∀ V, Mod (fun _ => False) w2 V → Calls Try.prog 21 #[.agg #[.slice x.P x.n x.c, .slice (some ⟨b, o, none⟩) x.m x.d, .int .i64 x.t.sl, .int .i64 x.t.nw], .int .i64 (k : Int)] V fun e w' => e = .returned (.int .i64 lv) ∧ Mod (fun _ => False) V w') := fun V hV => by
    have := live_ok V x (HX2.out.keep hV) hn hm (k : Int)
    rw [Hlive.out, HS.out] at this
    exact this
  have Hea : Hid (∀ (R : Prop) (w7 : World), Mod (fun _ => False) (w2.drew.alloc (.cells #[.int .i64 0, .int .i64 0, .int .i64 0] 45)) w7 → (w7.cell? ⟨w2.heap.size, 0, none⟩ = some (.int .i64 0) → w7.cell? ⟨w2.heap.size, 1, none⟩ = some (.int .i64 0) → w7.cell? ⟨w2.heap.size, 2, none⟩ = some (.int .i64 0) → w7.frozen? ⟨w2.heap.size, 0, none⟩ = false → w7.frozen? ⟨w2.heap.size, 1, none⟩ = false → w7.frozen? ⟨w2.heap.size, 2, none⟩ = false → R) → R) := fun R w7 hm h => by
    have hb : RBx w7 w2.heap.size 45 noT := (RBx.new w2.drew 45 noT).keep hm
    exact h hb.cells.1 hb.cells.2.1 hb.cells.2.2 (hb.frozen 0) (hb.frozen 1) (hb.frozen 2)
  go_upto_region 3 with fail
  go_cut [7, 8] (fun p e wx => ∃ bx, p = .pointer (some ⟨bx, 0, none⟩) ∧ e = .int .i64 lv ∧ RIn w2 wx bx 45 s)
  case first =>
    go_region_held3 (fun w' => (w'.cell? ⟨w.heap.size, 0, none⟩ = some (.slice x.P x.n x.c) ∧ w'.cell? ⟨w.heap.size, 1, none⟩ = some (.slice (some ⟨b, o, none⟩) x.m x.d) ∧ w'.cell? ⟨w.heap.size, 2, none⟩ = some (.int .i64 x.t.sl) ∧ w'.cell? ⟨w.heap.size, 3, none⟩ = some (.int .i64 x.t.nw)) ∧ w'.cell? ⟨b, o + k * 3, none⟩ = some (.int .i64 s.a) ∧ w'.cell? ⟨b, o + k * 3 + 1, none⟩ = some (.int .i64 s.b) ∧ w'.cell? ⟨b, o + k * 3 + 2, none⟩ = some (.int .i64 s.c)) (first | exact HI.out _ (Mod.refl (fun _ => False) w2).drew | exact HI.out _ ((Mod.refl (fun _ => False) w2).drew.alloc _) | exact HI.out _ ((Mod.refl (fun _ => False) w2).drew.trans hm4 (fun _ _ h => h)) | exact HI.out _ (((Mod.refl (fun _ => False) w2).drew.trans hm4 (fun _ _ h => h)).alloc _) | exact HI.out _ (((Mod.refl (fun _ => False) w2).drew.alloc _).trans hm4 (fun _ _ h => h)) | exact HI.out _ (RIn.early hm4 s).mod) ((go_at_call 21; refine (HD.out _ (by first | exact (Mod.refl (fun _ => False) w2).drew | exact (Mod.refl (fun _ => False) w2).drew.alloc _)).mono ?_; rintro e w4 ⟨rfl, hm4⟩; first | (refine Hea.out _ _ hm4 ?_; intro y0 y1 y2 y3 y4 y5) | skip))
    all_goals
      go_wp2_with fail
      go_meet
      first
        | exact ⟨_, rfl, rfl, RIn.late ((Mod.refl (fun _ => False) w2).drew.trans hm4 (fun _ _ h => h)) s⟩
        | exact ⟨_, rfl, rfl, RIn.early hm4 s⟩
  case rest =>
  clear HI Hea HD c0 c1 c2 c3 s0 s1 s2
  obtain ⟨b7, rfl, rfl, hin⟩ := hcut
  have HM4 := Lib.hid (HM2.out.trans hin.mod (fun _ _ h => h))
  obtain ⟨c0, c1, c2, c3⟩ := (HB2.out.keep hin.mod).cells
  obtain ⟨r0, r1, r2⟩ := hin.box.cells
  clear hin
  go_wp2_with fail
  go_quiet (fail)
  go_wp2
  refine bodyPost_ret (v := .tuple #[.int .i64 ((x.t.sl - lv) * (x.t.nw - s.c + 1)), .int .i64 (x.t.sl + lv), .bool true]) (by simp [results, Try.results16, go_sem, Hwm.out]) rfl ?_
  exact ⟨rfl, HM4.out.drewN _⟩
end Go.Proofs.Ythbcgbbcoanbdaa
