/-
  DiskDies: an armed device does as many writes and syncs as it was told, and then nothing more.
-/
import Derived.Test.YtfgngmoeedegiaaRun
namespace Go.Proofs.Ytfgngmoeedegiaa
open Go Go.RowKit

/-- Armed to do n calls, of which k are done. -/
structure Dk.Told (d : Dk) (n k : Int) : Prop where
  armed : d.armed = true
  len : d.dur.length = 20
  live : d.dead = false → d.left = n - k ∧ 0 ≤ d.left
  dead : d.dead = true → k = n
def dieD (d : Dk) (y : OpD) : Dk := if y.kind = 1 then d.sync else d.write y.at_ (fill y.b)
def dieE (d : Dk) (y : OpD) : Int := if y.kind = 1 then d.syncE else d.writeE y.at_ 256

theorem step_told {d : Dk} {n k : Int} (h : d.Told n k) (hd : d.dead = false) : (d.stepE = 0 ∧ d.stepD.dead = false ∧ k + 1 ≤ n ∧ d.stepD.left = n - (k + 1) ∧ 0 ≤ d.stepD.left ∧ d.stepD.armed = true) ∨ (d.stepE = 30 ∧ d.stepD.dead = true ∧ k = n ∧ d.stepD.armed = true) := by
  have hl := h.live hd
  unfold Dk.stepE Dk.stepD
  rw [if_pos h.armed]
  by_cases h0 : d.left = 0
  · right
    rw [if_pos ⟨h.armed, h0⟩, if_pos h0]
    exact ⟨rfl, rfl, by omega, h.armed⟩
  · left
    rw [if_neg (fun q => h0 q.2), if_neg h0]
    exact ⟨rfl, hd, by omega, by simp only; omega, by simp only; omega, h.armed⟩

theorem die_step {d : Dk} {n k : Int} (h : d.Told n k) (y : OpD) :
    (dieE d y = 0 ∧ (dieD d y).Told n (k + 1) ∧ (dieD d y).dead = false ∧ k + 1 ≤ n) ∨ (dieE d y = 30 ∧ (dieD d y).Told n k ∧ (dieD d y).dead = true ∧ k = n) ∨ (dieE d y = 3 ∧ (dieD d y).Told n k ∧ (dieD d y).dead = false ∧ k ≤ n) := by
  cases hd : d.dead with
  | true =>
    right; left
    have hr : ∀ i, d.reach i = 30 := fun i => by unfold Dk.reach; rw [if_pos hd]
    have e1 : d.sync = d := by unfold Dk.sync; rw [if_pos hd]
    have e2 : ∀ ys, d.write y.at_ ys = d := fun ys => by unfold Dk.write; rw [if_neg (fun q => by rw [hr] at q; cases q.1)]
    have e3 : d.syncE = 30 := by unfold Dk.syncE; rw [if_pos hd]
    have e4 : d.writeE y.at_ 256 = 30 := by unfold Dk.writeE; rw [if_neg (by rw [hr]; decide), hr]
    unfold dieE dieD
    split
    · rw [e1, e3]; exact ⟨rfl, h, hd, h.dead hd⟩
    · rw [e2, e4]; exact ⟨rfl, h, hd, h.dead hd⟩
  | false =>
    have hst := step_told h hd
    by_cases hk : y.kind = 1
    · unfold dieE dieD
      rw [if_pos hk, if_pos hk]
      have e3 : d.syncE = d.stepE := by unfold Dk.syncE; rw [if_neg (by simp [hd])]
      rw [e3]
      have e1 : d.sync = if d.stepE = 0 then { d.stepD with dur := d.now, pend := [] } else d.stepD := by unfold Dk.sync; rw [if_neg (by simp [hd])]
      rw [e1]
      rcases hst with ⟨s1, s2, s3, s4, s5, s6⟩ | ⟨s1, s2, s3, s4⟩
      · left
        rw [if_pos s1]
        exact ⟨s1, ⟨s6, by show d.now.length = 20; rw [d.now_len]; exact h.len, fun _ => ⟨s4, s5⟩, fun q => by rw [show d.stepD.dead = true from q] at s2; cases s2⟩, s2, s3⟩
      · right; left
        rw [if_neg (by rw [s1]; decide)]
        exact ⟨s1, ⟨s4, by rw [Dk.stepD_dur]; exact h.len, fun q => (by rw [q] at s2; cases s2), fun _ => s3⟩, s2, s3⟩
    · unfold dieE dieD
      rw [if_neg hk, if_neg hk]
      by_cases hr : d.reach y.at_ = 0
      · have e4 : d.writeE y.at_ 256 = d.stepE := by unfold Dk.writeE; rw [if_pos hr, if_pos rfl]
        have e2 : d.write y.at_ (fill y.b) = if d.stepE = 0 then { d.stepD with pend := d.pend ++ [(y.at_.toNat, fill y.b)] } else d.stepD := by unfold Dk.write; rw [if_pos ⟨hr, fill_len _⟩]
        rw [e4, e2]
        rcases hst with ⟨s1, s2, s3, s4, s5, s6⟩ | ⟨s1, s2, s3, s4⟩
        · left
          rw [if_pos s1]
          exact ⟨s1, ⟨s6, by show d.stepD.dur.length = 20; rw [Dk.stepD_dur]; exact h.len, fun _ => ⟨s4, s5⟩, fun q => by rw [show d.stepD.dead = true from q] at s2; cases s2⟩, s2, s3⟩
        · right; left
          rw [if_neg (by rw [s1]; decide)]
          exact ⟨s1, ⟨s4, by rw [Dk.stepD_dur]; exact h.len, fun q => (by rw [q] at s2; cases s2), fun _ => s3⟩, s2, s3⟩
      · right; right
        have e3 : d.reach y.at_ = 3 := by
          unfold Dk.reach at hr ⊢
          rw [if_neg (by simp [hd])] at hr ⊢
          split at hr
          · exact absurd rfl hr
          · rename_i q; rw [if_neg q]
        have e4 : d.writeE y.at_ 256 = 3 := by unfold Dk.writeE; rw [if_neg hr, e3]
        have e2 : d.write y.at_ (fill y.b) = d := by unfold Dk.write; rw [if_neg (fun q => hr q.1)]
        rw [e4, e2]
        have := h.live hd
        exact ⟨rfl, h, hd, by omega⟩
theorem die_pend (d : Dk) (y : OpD) : (dieD d y).pend.length ≤ d.pend.length + 1 := by
  unfold dieD
  split
  · have := Dk.sync_pend d; omega
  · exact Dk.write_pend _ _ _
theorem reach_dead {d : Dk} (h : d.dead = true) (i : Int) : d.reach i = 30 := by unfold Dk.reach; rw [if_pos h]

set_option maxRecDepth 100000 in
set_option maxHeartbeats 4000000 in
theorem dies_not (a : Int) (A : Option Addr) (n c : Nat) (w : World) (v1 v2 v3 : Bool) (e1 : decide (a < 0) = v1) (e2 : decide (100 < a) = v2) (e3 : decide ((60 : Int) < n) = v3) (h : (v1 || v2 || v3) = true) :
    Calls Try.prog 5 #[.int .i64 a, .slice A n c] w fun e w' => e = .returned (.bool true) ∧ Below w.heap.size w w' := by
  go_enter Try.func5, Try.ntmps5
  go_wp2_with fail
  refine (awake_ok _).mono ?_
  rintro e w1 ⟨rfl, hm1⟩
  cases v1 <;> cases v2 <;> cases v3 <;> first | (exact absurd h (by decide)) | skip
  all_goals
    clear h
    go_wp2
    go_ret
    exact ⟨rfl, hm1.below (Nat.le_refl _) (fun _ _ => id)⟩

set_option maxRecDepth 100000 in
set_option maxHeartbeats 8000000 in
theorem dies_walk (a : Int) (A : Option Addr) (n c : Nat) (l : List OpD) (w : World) (hl : OpsAt w A n c l) :
    Calls Try.prog 5 #[.int .i64 a, .slice A n c] w fun e w' => e = .returned (.bool true) ∧ Below w.heap.size w w' := by
  by_cases hnm : a < 0 ∨ 100 < a ∨ 60 < n
  · refine dies_not a A n c w _ _ _ rfl rfl rfl ?_
    rw [Bool.or_eq_true, Bool.or_eq_true, decide_eq_true_eq, decide_eq_true_eq, decide_eq_true_eq]
    omega
  have hn1 : decide (a < 0) = false := by simp; omega
  have hn2 : decide (100 < a) = false := by simp; omega
  have hn3 : decide ((60 : Int) < n) = false := by simp; omega
  have hn60 : n ≤ 60 := by omega
  have ha0 : 0 ≤ a := by omega
  have ha1 : a ≤ 100 := by omega
  have Hl := Lib.hid hl
  clear hl hnm
  go_enter Try.func5, Try.ntmps5
  go_wp2_with fail
  refine (awake_ok _).mono ?_
  rintro e w1 ⟨rfl, hm1⟩
  have Hm1 := Lib.hid hm1
  clear hm1
  go_wp2_with fail
  refine (dev_new w w1 Hm1.out 20 (by omega) (by omega)).mono ?_
  rintro e w2 ⟨x0, rfl, h0⟩
  have Hc := Lib.hid (dev_arm w w2 x0 _ h0 a (by omega))
  clear h0 Hm1
  go_wp2_with fail
  refine Hc.out.mono ?_
  rintro e w3 ⟨⟨v, rfl⟩, x1, hp1, h1, _⟩
  rw [← hp1]
  have ht : ((Dk.fresh (List.replicate (Int.toNat 20) (fill 0))).arm a).Told a 0 := by
    refine ⟨by simp [Dk.arm, ha0], List.length_replicate, fun _ => ?_, fun q => by cases q⟩
    show max a 0 = a - 0 ∧ 0 ≤ max a 0
    omega
  have hp0 : ((Dk.fresh (List.replicate (Int.toNat 20) (fill 0))).arm a).pend.length ≤ 0 := Nat.le_refl _
  have H1 := Lib.hid h1
  have Ht := Lib.hid ht
  have Hp0 := Lib.hid hp0
  generalize (Dk.fresh (List.replicate (Int.toNat 20) (fill 0))).arm a = d1 at *
  clear h1 ht hp0 Hc hp1
  go_wp2_with fail
  go_loopw [8, 9] (fun q i wr => ∃ (j : Nat) (k : Int) (x : DV) (d : Dk), j ≤ n ∧ i = .int .i64 j ∧ q = .int .i64 k ∧ 0 ≤ k ∧ x.p = x1.p ∧ Dev w wr x d ∧ d.Told a k ∧ d.pend.length ≤ j) (fun _ i _ => n - (intOf i).toNat)
  case atStart => exact ⟨0, 0, x1, d1, by omega, rfl, rfl, by omega, rfl, H1.out, Ht.out, Hp0.out⟩
  case round =>
    obtain ⟨j, k, x, d, hj, rfl, rfl, hk0, hxp, hd, htold, hpl⟩ := hrel
    have Hd := Lib.hid hd
    have Htold := Lib.hid htold
    clear hd htold
    by_cases hlt : j < n
    · obtain ⟨y, hy⟩ : ∃ y, l[j]? = some y := ⟨_, List.getElem?_eq_getElem (by rw [Hl.out.len]; exact hlt)⟩
      have Hk : Hid (∃ b o, A = some ⟨b, o, none⟩ ∧ ∀ w', Mod (fun _ => False) w w' → y.Cells w' b (o + j * 8)) := by
        obtain ⟨b, o, hA, hc⟩ := Hl.out.cells (by omega)
        refine ⟨b, o, hA, fun w' hm' => ?_⟩
        obtain ⟨b', o', hA', hc'⟩ := (Hl.out.keep hm').cells (by omega)
        rw [hA] at hA'
        injection hA' with hA'
        injection hA' with e1 e2
        subst e1; subst e2
        exact hc' j y hy
      obtain ⟨b, o, hA, hcs⟩ := Hk.out
      subst hA
      have Hcs := Lib.hid hcs
      obtain ⟨c0, c1, c2, c3, c4, c5, c6, c7⟩ := hcs wr Hd.out.old
      have Hstep := Lib.hid (die_step Htold.out y)
      have hpe := die_pend d y
      clear hcs Hk hy c2 c4 c5 c6 c7 Htold
      by_cases hk1 : y.kind = 1
      · have e1 : dieD d y = d.sync := by unfold dieD; rw [if_pos hk1]
        have e2 : dieE d y = d.syncE := by unfold dieE; rw [if_pos hk1]
        rw [hk1] at c0
        have hs := dev_sync w wr x d Hd.out (by omega)
        rw [← e1, ← e2, hxp] at hs
        have Hs := Lib.hid hs
        generalize dieD d y = d' at *
        generalize dieE d y = ee at *
        clear Hd hxp hs e1 e2
        rcases Hstep.out with ⟨rfl, ht', hdd, hkn⟩ | ⟨rfl, ht', hdd, hkn⟩ | ⟨rfl, ht', hdd, hkn⟩
        · have Ht' := Lib.hid ht'
          have Hdd := Lib.hid hdd
          clear ht' hdd Hstep
          go_wp2_with fail
          refine Hs.out.mono ?_
          rintro e w5 ⟨rfl, x2, hp2, hd2, _⟩
          clear Hs
          have hr := dev_read w w5 x2 d' hd2 0
          have hrz : d'.reach 0 = 0 := by have ht' := Ht'.out; have hdd := Hdd.out; exact Dk.reach_live hdd (i := 0) (by rw [ht'.len]; omega)
          rw [hrz, hp2] at hr
          have Hr := Lib.hid hr
          have Hd2 := Lib.hid hd2
          have Hp2 := Lib.hid hp2
          clear hr hrz hd2 hp2
          go_wp2_with fail
          refine Hr.out.mono ?_
          rintro e w6 ⟨A6, n6, c6, rfl, hf6⟩
          have Hd6 := Lib.hid (Hd2.out.keep hf6.2)
          have hde := dev_dead w w6 x2 d' Hd6.out
          rw [Hp2.out, Hdd.out] at hde
          have Hde := Lib.hid hde
          clear hde hf6 Hd2 Hr
          have hkn' : (decide (a < k + 1)) = false := by simp; omega
          go_wp2_with fail
          refine Hde.out.mono ?_
          rintro e w7 ⟨rfl, hw7⟩
          subst hw7
          go_wp2
          go_roundw
          case rel => exact ⟨j + 1, k + 1, x2, d', by omega, by go_num, by go_num, by omega, Hp2.out, Hd6.out, Ht'.out, by omega⟩
          case measure => simp [intOf]; omega
        · have Ht' := Lib.hid ht'
          have Hdd := Lib.hid hdd
          clear ht' hdd Hstep
          go_wp2_with fail
          refine Hs.out.mono ?_
          rintro e w5 ⟨rfl, x2, hp2, hd2, _⟩
          clear Hs
          have hr := dev_read w w5 x2 d' hd2 0
          have hrz : d'.reach 0 = 30 := by have ht' := Ht'.out; have hdd := Hdd.out; exact reach_dead hdd 0
          rw [hrz, hp2] at hr
          have Hr := Lib.hid hr
          have Hd2 := Lib.hid hd2
          have Hp2 := Lib.hid hp2
          clear hr hrz hd2 hp2
          go_wp2_with fail
          refine Hr.out.mono ?_
          rintro e w6 ⟨A6, n6, c6, rfl, hf6⟩
          have Hd6 := Lib.hid (Hd2.out.keep hf6.2)
          have hde := dev_dead w w6 x2 d' Hd6.out
          rw [Hp2.out, Hdd.out] at hde
          have Hde := Lib.hid hde
          clear hde hf6 Hd2 Hr
          have hkn' : (decide (a < k)) = false := by simp; omega
          have hkn2 : (k != a) = false := by simpa using hkn
          go_wp2_with fail
          refine Hde.out.mono ?_
          rintro e w7 ⟨rfl, hw7⟩
          subst hw7
          go_wp2_with fail
          refine Hde.out.mono ?_
          rintro e w8 ⟨rfl, hw8⟩
          subst hw8
          go_wp2
          go_roundw
          case rel => exact ⟨j + 1, k, x2, d', by omega, by go_num, by go_num, by omega, Hp2.out, Hd6.out, Ht'.out, by omega⟩
          case measure => simp [intOf]; omega
        · have Ht' := Lib.hid ht'
          have Hdd := Lib.hid hdd
          clear ht' hdd Hstep
          go_wp2_with fail
          refine Hs.out.mono ?_
          rintro e w5 ⟨rfl, x2, hp2, hd2, _⟩
          clear Hs
          have hr := dev_read w w5 x2 d' hd2 0
          have hrz : d'.reach 0 = 0 := by have ht' := Ht'.out; have hdd := Hdd.out; exact Dk.reach_live hdd (i := 0) (by rw [ht'.len]; omega)
          rw [hrz, hp2] at hr
          have Hr := Lib.hid hr
          have Hd2 := Lib.hid hd2
          have Hp2 := Lib.hid hp2
          clear hr hrz hd2 hp2
          go_wp2_with fail
          refine Hr.out.mono ?_
          rintro e w6 ⟨A6, n6, c6, rfl, hf6⟩
          have Hd6 := Lib.hid (Hd2.out.keep hf6.2)
          have hde := dev_dead w w6 x2 d' Hd6.out
          rw [Hp2.out, Hdd.out] at hde
          have Hde := Lib.hid hde
          clear hde hf6 Hd2 Hr
          have hkn' : (decide (a < k)) = false := by simp; omega
          go_wp2_with fail
          refine Hde.out.mono ?_
          rintro e w7 ⟨rfl, hw7⟩
          subst hw7
          go_wp2
          go_roundw
          case rel => exact ⟨j + 1, k, x2, d', by omega, by go_num, by go_num, by omega, Hp2.out, Hd6.out, Ht'.out, by omega⟩
          case measure => simp [intOf]; omega
      · have e1 : dieD d y = d.write y.at_ (fill y.b) := by unfold dieD; rw [if_neg hk1]
        have e2 : dieE d y = d.writeE y.at_ 256 := by unfold dieE; rw [if_neg hk1]
        have hb1 : (y.kind == 1) = false := by simpa using hk1
        have Hw : Hid (∀ (w2 : World) (g : Nat), FreshR wr.drew w2 (some ⟨g, 0, none⟩) 256 256 (fill y.b) → Calls Try.prog 13 #[.pointer (some ⟨x1.p, 0, none⟩), .int .i64 y.at_, .slice (some ⟨g, 0, none⟩) 256 256] w2 fun e w' =>
            e = .returned (.int .i64 (dieE d y)) ∧ ∃ x', x'.p = x1.p ∧ Dev w w' x' (dieD d y)) := by
          intro w2 g hf
          have := dev_writeS w wr.drew w2 x d (Hd.out.keep (Mod.refl _ wr).drew) y.at_ g y.b hf (by omega)
          rw [hxp, ← e1, ← e2] at this
          refine this.mono ?_
          rintro e w' ⟨he, x', h1, h2, _⟩
          exact ⟨he, x', h1, h2⟩
        have HS : Hid (∀ w', Mod (fun _ => False) w w' → w'.cell? ⟨b, o + j * 8 + 1, none⟩ = some (.int .i64 y.at_) ∧ w'.cell? ⟨b, o + j * 8 + 3, none⟩ = some (bv y.b)) := fun w' hm' => ⟨(Hcs.out w' hm').2.1, (Hcs.out w' hm').2.2.2.1⟩
        have Hold := Lib.hid Hd.out.old.drew
        generalize dieD d y = d' at *
        generalize dieE d y = ee at *
        clear Hd hxp e1 e2
        rcases Hstep.out with ⟨rfl, ht', hdd, hkn⟩ | ⟨rfl, ht', hdd, hkn⟩ | ⟨rfl, ht', hdd, hkn⟩
        · have Ht' := Lib.hid ht'
          have Hdd := Lib.hid hdd
          clear ht' hdd Hstep
          go_wp2_with fail
          go_region_held3 (fun w' => w'.cell? ⟨b, o + j * 8 + 1, none⟩ = some (.int .i64 y.at_) ∧ w'.cell? ⟨b, o + j * 8 + 3, none⟩ = some (bv y.b)) (first | exact HS.out _ hd2.old | exact HS.out _ (Hold.out.trans hf.2 (fun _ _ h => h)) | exact HS.out _ Hold.out) (first | (go_at_call 12; refine (sector_ok _ y.b).mono ?_; rintro e w4 ⟨g, rfl, hf⟩) | (go_at_call 13; refine (Hw.out _ _ hf).mono ?_; rintro e w5 ⟨rfl, x2, hp2, hd2⟩))
          all_goals
            have hr := dev_read w w5 x2 d' hd2 0
            have hrz : d'.reach 0 = 0 := by have ht' := Ht'.out; have hdd := Hdd.out; exact Dk.reach_live hdd (i := 0) (by rw [ht'.len]; omega)
            rw [hrz, hp2] at hr
            have Hr := Lib.hid hr
            have Hd2 := Lib.hid hd2
            have Hp2 := Lib.hid hp2
            clear hr hrz hd2 hp2
            go_wp2_with fail
            refine Hr.out.mono ?_
            rintro e w6 ⟨A6, n6, c6, rfl, hf6⟩
            have Hd6 := Lib.hid (Hd2.out.keep hf6.2)
            have hde := dev_dead w w6 x2 d' Hd6.out
            rw [Hp2.out, Hdd.out] at hde
            have Hde := Lib.hid hde
            clear hde hf6 Hd2 Hr
            have hkn' : (decide (a < k + 1)) = false := by simp; omega
            go_wp2_with fail
            refine Hde.out.mono ?_
            rintro e w7 ⟨rfl, hw7⟩
            subst hw7
            go_wp2
            go_roundw
            case rel => exact ⟨j + 1, k + 1, x2, d', by omega, by go_num, by go_num, by omega, Hp2.out, Hd6.out, Ht'.out, by omega⟩
            case measure => simp [intOf]; omega
        · have Ht' := Lib.hid ht'
          have Hdd := Lib.hid hdd
          clear ht' hdd Hstep
          go_wp2_with fail
          go_region_held3 (fun w' => w'.cell? ⟨b, o + j * 8 + 1, none⟩ = some (.int .i64 y.at_) ∧ w'.cell? ⟨b, o + j * 8 + 3, none⟩ = some (bv y.b)) (first | exact HS.out _ hd2.old | exact HS.out _ (Hold.out.trans hf.2 (fun _ _ h => h)) | exact HS.out _ Hold.out) (first | (go_at_call 12; refine (sector_ok _ y.b).mono ?_; rintro e w4 ⟨g, rfl, hf⟩) | (go_at_call 13; refine (Hw.out _ _ hf).mono ?_; rintro e w5 ⟨rfl, x2, hp2, hd2⟩))
          all_goals
            have hr := dev_read w w5 x2 d' hd2 0
            have hrz : d'.reach 0 = 30 := by have ht' := Ht'.out; have hdd := Hdd.out; exact reach_dead hdd 0
            rw [hrz, hp2] at hr
            have Hr := Lib.hid hr
            have Hd2 := Lib.hid hd2
            have Hp2 := Lib.hid hp2
            clear hr hrz hd2 hp2
            go_wp2_with fail
            refine Hr.out.mono ?_
            rintro e w6 ⟨A6, n6, c6, rfl, hf6⟩
            have Hd6 := Lib.hid (Hd2.out.keep hf6.2)
            have hde := dev_dead w w6 x2 d' Hd6.out
            rw [Hp2.out, Hdd.out] at hde
            have Hde := Lib.hid hde
            clear hde hf6 Hd2 Hr
            have hkn' : (decide (a < k)) = false := by simp; omega
            have hkn2 : (k != a) = false := by simpa using hkn
            go_wp2_with fail
            refine Hde.out.mono ?_
            rintro e w7 ⟨rfl, hw7⟩
            subst hw7
            go_wp2_with fail
            refine Hde.out.mono ?_
            rintro e w8 ⟨rfl, hw8⟩
            subst hw8
            go_wp2
            go_roundw
            case rel => exact ⟨j + 1, k, x2, d', by omega, by go_num, by go_num, by omega, Hp2.out, Hd6.out, Ht'.out, by omega⟩
            case measure => simp [intOf]; omega
        · have Ht' := Lib.hid ht'
          have Hdd := Lib.hid hdd
          clear ht' hdd Hstep
          go_wp2_with fail
          go_region_held3 (fun w' => w'.cell? ⟨b, o + j * 8 + 1, none⟩ = some (.int .i64 y.at_) ∧ w'.cell? ⟨b, o + j * 8 + 3, none⟩ = some (bv y.b)) (first | exact HS.out _ hd2.old | exact HS.out _ (Hold.out.trans hf.2 (fun _ _ h => h)) | exact HS.out _ Hold.out) (first | (go_at_call 12; refine (sector_ok _ y.b).mono ?_; rintro e w4 ⟨g, rfl, hf⟩) | (go_at_call 13; refine (Hw.out _ _ hf).mono ?_; rintro e w5 ⟨rfl, x2, hp2, hd2⟩))
          all_goals
            have hr := dev_read w w5 x2 d' hd2 0
            have hrz : d'.reach 0 = 0 := by have ht' := Ht'.out; have hdd := Hdd.out; exact Dk.reach_live hdd (i := 0) (by rw [ht'.len]; omega)
            rw [hrz, hp2] at hr
            have Hr := Lib.hid hr
            have Hd2 := Lib.hid hd2
            have Hp2 := Lib.hid hp2
            clear hr hrz hd2 hp2
            go_wp2_with fail
            refine Hr.out.mono ?_
            rintro e w6 ⟨A6, n6, c6, rfl, hf6⟩
            have Hd6 := Lib.hid (Hd2.out.keep hf6.2)
            have hde := dev_dead w w6 x2 d' Hd6.out
            rw [Hp2.out, Hdd.out] at hde
            have Hde := Lib.hid hde
            clear hde hf6 Hd2 Hr
            have hkn' : (decide (a < k)) = false := by simp; omega
            go_wp2_with fail
            refine Hde.out.mono ?_
            rintro e w7 ⟨rfl, hw7⟩
            subst hw7
            go_wp2
            go_roundw
            case rel => exact ⟨j + 1, k, x2, d', by omega, by go_num, by go_num, by omega, Hp2.out, Hd6.out, Ht'.out, by omega⟩
            case measure => simp [intOf]; omega
    · obtain rfl : j = n := by omega
      go_wp2
      go_ret
      exact ⟨rfl, Hd.out.old.below (Nat.le_refl _) (fun _ _ => id)⟩
end Go.Proofs.Ytfgngmoeedegiaa
