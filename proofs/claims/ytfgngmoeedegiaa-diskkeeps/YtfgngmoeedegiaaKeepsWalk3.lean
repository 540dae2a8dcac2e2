/-
  DiskKeeps: what was synced is there behind every crash, if nothing was written over it since.
-/
import Derived.Test.YtfgngmoeedegiaaEndsWalk
namespace Go.Proofs.Ytfgngmoeedegiaa
open Go Go.RowKit

/-- The sector 'at' is durable, and nothing that is pending goes over it. -/
structure Dk.Holds (d : Dk) (at_ : Nat) (s : List UInt8) : Prop where
  len : d.dur.length = 20
  dur : d.dur[at_]? = some s
  pend : ∀ y ∈ d.pend, y.1 ≠ at_
theorem lay_other {α : Type} (at_ : Nat) (W : List (Nat × α)) : ∀ D : List α, (∀ y ∈ W, y.1 ≠ at_) → (lay D W)[at_]? = D[at_]? := by
  induction W with
  | nil => intro D _; rfl
  | cons y W ih =>
    intro D h
    show (lay (D.set y.1 y.2) W)[at_]? = _
    rw [ih _ (fun z hz => h z (List.mem_cons_of_mem _ hz)), List.getElem?_set_ne (h y (List.mem_cons_self ..))]
theorem crashGo_other (at_ : Nat) (f : Nat → Nat) (W : List (Nat × List UInt8)) : ∀ (i : Nat) (D : List (List UInt8)), (∀ y ∈ W, y.1 ≠ at_) → (crashGo f i W D)[at_]? = D[at_]? := by
  induction W with
  | nil => intro i D _; rfl
  | cons y W ih =>
    intro i D h
    show (crashGo f (i + 1) W (D.set y.1 _))[at_]? = _
    rw [ih _ _ (fun z hz => h z (List.mem_cons_of_mem _ hz)), List.getElem?_set_ne (h y (List.mem_cons_self ..))]
section
variable {d : Dk} {at_ : Nat} {s : List UInt8}
theorem Dk.Holds.now (h : d.Holds at_ s) : d.now[at_]? = some s := by unfold Dk.now; rw [lay_other at_ _ _ h.pend]; exact h.dur
theorem Dk.Holds.stepD (h : d.Holds at_ s) : d.stepD.Holds at_ s := by
  refine ⟨by rw [Dk.stepD_dur]; exact h.len, by rw [Dk.stepD_dur]; exact h.dur, by rw [Dk.stepD_pend]; exact h.pend⟩
theorem Dk.Holds.write (h : d.Holds at_ s) (i : Int) (ys : List UInt8) (hi : i ≠ at_) : (d.write i ys).Holds at_ s := by
  unfold Dk.write
  split
  · rename_i hr
    split
    · have hs := h.stepD
      refine ⟨hs.len, hs.dur, fun y hy => ?_⟩
      rcases List.mem_append.1 hy with hy | hy
      · exact h.pend y hy
      · simp at hy
        subst hy
        have := Dk.reach_zero hr.1
        simp only
        omega
    · exact h.stepD
  · exact h
theorem Dk.Holds.sync (h : d.Holds at_ s) : d.sync.Holds at_ s := by
  unfold Dk.sync
  split
  · exact h
  · split
    · exact ⟨by show d.now.length = 20; rw [d.now_len]; exact h.len, h.now, by simp⟩
    · exact h.stepD
theorem Dk.Holds.arm (h : d.Holds at_ s) (n : Int) : (d.arm n).Holds at_ s := ⟨h.len, h.dur, h.pend⟩
theorem Dk.Holds.crash (h : d.Holds at_ s) (f : Nat → Nat) : (d.crash f).Holds at_ s :=
  ⟨by show (crashGo f 0 d.pend d.dur).length = 20; rw [crashGo_len]; exact h.len, by show (crashGo f 0 d.pend d.dur)[at_]? = _; rw [crashGo_other at_ f _ _ _ h.pend]; exact h.dur, by simp [Dk.crash]⟩
end
def kp0 : Dk := Dk.fresh (List.replicate 20 (fill 0))
theorem kp_write (i : Int) (h0 : 0 ≤ i) (h1 : i ≤ 19) (b : UInt8) : kp0.write i (fill b) = { kp0 with pend := [(i.toNat, fill b)] } ∧ kp0.writeE i 256 = 0 := by
  have hr : kp0.reach i = 0 := by
    unfold Dk.reach
    rw [if_neg (by simp [kp0, Dk.fresh]), if_pos ⟨h0, by show i < ((List.replicate 20 (fill 0)).length : Int); rw [List.length_replicate]; omega⟩]
  have hs : kp0.stepE = 0 := by simp [kp0, Dk.fresh, Dk.stepE]
  have hd : kp0.stepD = kp0 := by simp [kp0, Dk.fresh, Dk.stepD]
  constructor
  · unfold Dk.write
    rw [if_pos ⟨hr, fill_len b⟩, if_pos hs, hd]
    rfl
  · unfold Dk.writeE
    rw [if_pos hr, if_pos rfl, hs]
theorem kp_sync (i : Nat) (h1 : i ≤ 19) (b : UInt8) : ({ kp0 with pend := [(i, fill b)] } : Dk).syncE = 0 ∧ ({ kp0 with pend := [(i, fill b)] } : Dk).sync.Holds i (fill b) ∧ ({ kp0 with pend := [(i, fill b)] } : Dk).sync.pend.length ≤ 0 := by
  have hc : ({ kp0 with pend := [(i, fill b)] } : Dk).Calm 20 := ⟨rfl, rfl, List.length_replicate⟩
  have e := hc.sync_eq
  refine ⟨?_, ?_, ?_⟩
  · unfold Dk.syncE
    rw [if_neg (by rw [hc.dead]; decide), hc.stepE]
  · rw [e]
    refine ⟨?_, ?_, by simp⟩
    · show (lay (List.replicate 20 (fill 0)) _).length = 20
      rw [lay_len, List.length_replicate]
    · show ((List.replicate 20 (fill 0)).set i (fill b))[i]? = _
      rw [List.getElem?_set_self (by rw [List.length_replicate]; omega)]
  · rw [e]; exact Nat.le_refl _

set_option maxRecDepth 100000 in
set_option maxHeartbeats 4000000 in
theorem keeps_not (a : Int) (b : UInt8) (A : Option Addr) (n c : Nat) (x : CrD) (w : World) (v1 v2 v3 : Bool) (e1 : decide (a < 0) = v1) (e2 : decide (19 < a) = v2) (e3 : decide ((60 : Int) < n) = v3) (h : (v1 || v2 || v3) = true) :
    Calls Try.prog 4 #[.int .i64 a, bv b, .slice A n c, x.v] w fun e w' => e = .returned (.bool true) ∧ Below w.heap.size w w' := by
  unfold CrD.v
  go_enter Try.func4, Try.ntmps4
  go_wp2_with fail
  refine (awake_ok _).mono ?_
  rintro e w1 ⟨rfl, hm1⟩
  have Hm1 : Hid (Mod (fun _ => False) w w1) := ((Mod.refl _ w).alloc _).trans hm1 (fun _ _ h => h)
  clear hm1
  cases v1 <;> cases v2 <;> cases v3 <;> first | (exact absurd h (by decide)) | skip
  all_goals
    clear h
    go_wp2
    go_ret
    exact ⟨rfl, Hm1.out.below (Nat.le_refl _) (fun _ _ => id)⟩

/-- The law's own copy of a call. -/
def OpD.row (y : OpD) : Array Value := #[.int .i64 y.kind, .int .i64 y.at_, .int .i64 y.n, bv y.b, .bool y.short, .slice y.cr.A y.cr.n y.cr.c, .int .i64 y.cr.torn, .int .i64 y.cr.k]
theorem row_cells {w : World} {g : Nat} {y : OpD} (h : w.heap[g]? = some (.cells y.row 38 (0, 0))) : y.Cells w g 0 := by
  refine ⟨?_, ?_, ?_, ?_, ?_, ?_, ?_, ?_⟩ <;> (rw [cell_of_row _ _ _ _ _ _ h]; rfl)

set_option maxRecDepth 100000 in
set_option maxHeartbeats 8000000 in
theorem keeps_walk (a : Int) (b : UInt8) (A : Option Addr) (n c : Nat) (l : List OpD) (x : CrD) (w : World) (hl : OpsAt w A n c l) (hx : x.At w) :
    Calls Try.prog 4 #[.int .i64 a, bv b, .slice A n c, x.v] w fun e w' => e = .returned (.bool true) ∧ Below w.heap.size w w' := by
  by_cases hnm : a < 0 ∨ 19 < a ∨ 60 < n
  · refine keeps_not a b A n c x w _ _ _ rfl rfl rfl ?_
    rw [Bool.or_eq_true, Bool.or_eq_true, decide_eq_true_eq, decide_eq_true_eq, decide_eq_true_eq]
    omega
  have hn1 : decide (a < 0) = false := by simp; omega
  have hn2 : decide (19 < a) = false := by simp; omega
  have hn3 : decide ((60 : Int) < n) = false := by simp; omega
  have hn60 : n ≤ 60 := by omega
  have ha0 : 0 ≤ a := by omega
  have ha1 : a ≤ 19 := by omega
  unfold CrD.v
  obtain ⟨w0, hw0⟩ : ∃ w0, w0 = w.alloc (.cells #[.slice x.A x.n x.c, .int .i64 x.torn, .int .i64 x.k] 36) := ⟨_, rfl⟩
  have hm0 : Mod (fun _ => False) w w0 := by rw [hw0]; exact (Mod.refl _ _).alloc _
  have hb0 : w0.heap[w.heap.size]? = some (.cells #[.slice x.A x.n x.c, .int .i64 x.torn, .int .i64 x.k] 36 (0, 0)) := by rw [hw0]; exact heap_alloc_new w _
  have hbx : ∀ w', Mod (fun _ => False) w0 w' → w'.cell? ⟨w.heap.size, 0, none⟩ = some (.slice x.A x.n x.c) ∧ w'.cell? ⟨w.heap.size, 1, none⟩ = some (.int .i64 x.torn) ∧ w'.cell? ⟨w.heap.size, 2, none⟩ = some (.int .i64 x.k) := by
    intro w' hm'
    have hb' := (hm'.block _ (Array.getElem?_eq_some_iff.1 hb0).1 id).trans hb0
    refine ⟨?_, ?_, ?_⟩ <;> (rw [cell_of_row _ _ _ _ _ _ hb']; rfl)
  have Hbx := Lib.hid hbx
  have Hl := Lib.hid (hl.keep hm0)
  have Hx := Lib.hid (hx.keep hm0)
  have Hm0 := Lib.hid hm0
  have Hw0 := Lib.hid hw0
  clear hl hx hbx hb0 hnm hm0 hw0
  go_enter Try.func4, Try.ntmps4
  go_wp2_with fail
  rw [← Hw0.out]
  refine (awake_ok _).mono ?_
  rintro e w1 ⟨rfl, hm1⟩
  have Hm1 := Lib.hid hm1
  clear hm1
  go_wp2_with fail
  refine (dev_new w0 w1 Hm1.out 20 (by omega) (by omega)).mono ?_
  rintro e w2 ⟨x0, rfl, h0⟩
  have H0 : Hid (Dev w0 w2 x0 kp0) := h0
  clear h0 Hm1
  go_wp2_with fail
  refine (sector_ok _ b).mono ?_
  rintro e w3 ⟨g3, rfl, hf3⟩
  have hw := dev_writeS w0 w2 w3 x0 kp0 H0.out a g3 b hf3 (by simp [kp0, Dk.fresh])
  rw [(kp_write a ha0 ha1 b).1, (kp_write a ha0 ha1 b).2] at hw
  have Hw := Lib.hid hw
  clear hw hf3 H0
  go_wp2_with fail
  refine Hw.out.mono ?_
  rintro e w4 ⟨rfl, x1, hp1, h1, _⟩
  rw [← hp1]
  have hs := dev_sync w0 w4 x1 _ h1 (by simp)
  rw [(kp_sync a.toNat (by omega) b).1] at hs
  have Hs := Lib.hid hs
  have Hhold := Lib.hid (kp_sync a.toNat (by omega) b).2
  clear hs h1 hp1 Hw
  go_wp2_with fail
  refine Hs.out.mono ?_
  rintro e w5 ⟨rfl, x2, hp2, h2, _⟩
  rw [← hp2]
  have H2 := Lib.hid h2
  generalize ({ kp0 with pend := [(a.toNat, fill b)] } : Dk).sync = d2 at *
  clear h2 hp2 Hs
  go_wp2_with fail
  go_loopw [10, 14] (fun p i wr => ∃ (j : Nat) (x : DV) (d : Dk), j ≤ n ∧ i = .int .i64 j ∧ p = .pointer (some ⟨x.p, 0, none⟩) ∧ Dev w0 wr x d ∧ d.Holds a.toNat (fill b) ∧ d.pend.length ≤ j) (fun _ i _ => n - (intOf i).toNat)
  case atStart => exact ⟨0, x2, d2, by omega, rfl, rfl, H2.out, Hhold.out.1, Hhold.out.2⟩
  case round =>
    obtain ⟨j, xd, d, hj, rfl, rfl, hd, hho, hpl⟩ := hrel
    have Hd := Lib.hid hd
    have Hho := Lib.hid hho
    clear hd hho
    by_cases hlt : j < n
    · obtain ⟨y, hy⟩ : ∃ y, l[j]? = some y := ⟨_, List.getElem?_eq_getElem (by rw [Hl.out.len]; exact hlt)⟩
      obtain ⟨gb, go, hA, hcs⟩ := (Hl.out.keep Hd.out.old).cells (by omega)
      subst hA
      obtain ⟨c0, c1, c2, c3, c4, c5, c6, c7⟩ := hcs j y hy
      have Hcr := Lib.hid (Hl.out.crs y (List.mem_of_getElem? hy))
      have hnum := Hl.out.num y (List.mem_of_getElem? hy)
      clear hcs hy
      -- the law's own copy
      obtain ⟨wb, hwb⟩ : ∃ wb, wb = wr.alloc (.cells y.row 38) := ⟨_, rfl⟩
      have hmb : Mod (fun _ => False) wr wb := by rw [hwb]; exact (Mod.refl _ _).alloc _
      have hrow : wb.heap[wr.heap.size]? = some (.cells y.row 38 (0, 0)) := by rw [hwb]; exact heap_alloc_new wr _
      have hcell : ∀ w', w'.heap[wr.heap.size]? = wb.heap[wr.heap.size]? → y.Cells w' wr.heap.size 0 := fun w' e => row_cells (e.trans hrow)
      have hnM : ¬ xd.M wr.heap.size := Hd.out.apart (Nat.le_refl _)
      have Hb := Lib.hid (Hd.out.keep hmb)
      have Hcell := Lib.hid hcell
      have HnM := Lib.hid hnM
      have Hbs : Hid (wr.heap.size < wb.heap.size) := by show _ < _; rw [hwb, World.size_alloc]; omega
      obtain ⟨r0, r1, r2, r3, r4, r5, r6, r7⟩ := hcell wb rfl
      have Hwb := Lib.hid hwb
      simp only [Nat.zero_add] at r1 r2 r3 r4 r5 r6 r7
      clear hwb hmb hrow hcell hnM Hd
      by_cases hk0 : y.kind = 0
      · by_cases hat : y.at_ = a
        · have hne : (y.at_ != a) = false := by simpa using hat
          clear hat
          have ho := Hwb.out
          unfold OpD.row at ho
          rw [ho] at r0 r1 r2 r3 r4 r5 r6 r7
          clear ho
          rw [hk0] at c0 r0 r1 r2 r3 r4 r5 r6 r7
          have HB : Hid (Dev w0 (wr.alloc (.cells #[.int .i64 0, .int .i64 y.at_, .int .i64 y.n, bv y.b, .bool y.short, .slice y.cr.A y.cr.n y.cr.c, .int .i64 y.cr.torn, .int .i64 y.cr.k] 38)) xd d) := by
            have q := Hb.out
            rw [Hwb.out] at q
            unfold OpD.row at q
            rw [hk0] at q
            exact q
          clear Hb
          go_wp2_with fail
          go_roundw
          case rel => exact ⟨j + 1, xd, d, by omega, by go_num, rfl, HB.out, Hho.out, by omega⟩
          case measure => simp [intOf]; omega
        · have hne : (y.at_ != a) = true := by simpa using hat
          have hai : y.at_ ≠ (a.toNat : Int) := by omega
          have ho := Hwb.out
          unfold OpD.row at ho
          rw [ho] at r0 r1 r2 r3 r4 r5 r6 r7
          clear ho
          rw [hk0] at c0 r0 r1 r2 r3 r4 r5 r6 r7
          go_wp2_with fail
          have ho := Hwb.out
          unfold OpD.row at ho
          rw [hk0] at ho
          rw [← ho]
          clear ho
          have Hw : Hid (∀ (w6 : World) (g : Nat), FreshR wb.drew w6 (some ⟨g, 0, none⟩) 256 256 (fill y.b) → Calls Try.prog 13 #[.pointer (some ⟨xd.p, 0, none⟩), .int .i64 y.at_, .slice (some ⟨g, 0, none⟩) 256 256] w6 fun e w' =>
              e = .returned (.int .i64 (d.writeE y.at_ 256)) ∧ ∃ x', (x'.p = xd.p ∧ Dev w0 w' x' (d.write y.at_ (fill y.b))) ∧ Mod xd.M wb.drew w') := by
            intro w6 g hf
            refine (dev_writeS w0 wb.drew w6 xd d (Hb.out.keep (Mod.refl _ wb).drew) y.at_ g y.b hf (by omega)).mono ?_
            rintro e w' ⟨he, x', h1, h2, h3⟩
            exact ⟨he, x', ⟨h1, h2⟩, (hf.2.mono (fun _ _ h => h.elim)).trans h3 (fun _ _ e => e)⟩
          have HS : Hid (∀ w', Mod (fun _ => False) wb.drew w' → w'.cell? ⟨wr.heap.size, 1, none⟩ = some (.int .i64 y.at_) ∧ w'.cell? ⟨wr.heap.size, 3, none⟩ = some (bv y.b)) := by
            intro w' hm'
            have q := Hcell.out w' (hm'.block _ Hbs.out id)
            simp only [OpD.Cells, Nat.zero_add] at q
            exact ⟨q.2.1, q.2.2.2.1⟩
          have HSw : Hid (∀ w', Mod xd.M wb.drew w' → w'.cell? ⟨wr.heap.size, 1, none⟩ = some (.int .i64 y.at_) ∧ w'.cell? ⟨wr.heap.size, 3, none⟩ = some (bv y.b)) := by
            intro w' hm'
            have q := Hcell.out w' (hm'.block _ Hbs.out HnM.out)
            simp only [OpD.Cells, Nat.zero_add] at q
            exact ⟨q.2.1, q.2.2.2.1⟩
          have Hho2 := Lib.hid (Hho.out.write y.at_ (fill y.b) hai)
          have hpe := Dk.write_pend d y.at_ (fill y.b)
          generalize d.write y.at_ (fill y.b) = d' at *
          clear Hb Hho r0 r1 r2 r3 r4 r5 r6 r7
          go_region_held3 (fun w' => w'.cell? ⟨wr.heap.size, 1, none⟩ = some (.int .i64 y.at_) ∧ w'.cell? ⟨wr.heap.size, 3, none⟩ = some (bv y.b)) (first | exact HSw.out _ hmM | exact HS.out _ hf.2 | exact HS.out _ (Mod.refl _ _)) (first | (go_at_call 12; refine (sector_ok _ y.b).mono ?_; rintro e w6 ⟨g, rfl, hf⟩) | (go_at_call 13; refine (Hw.out _ _ hf).mono ?_; rintro e w7 ⟨rfl, x3, h3, hmM⟩))
          all_goals
            have hblk : w7.heap[wr.heap.size]? = wb.heap[wr.heap.size]? := hmM.block _ Hbs.out HnM.out
            obtain ⟨s0, s1, s2, s3, s4, s5, s6, s7⟩ := Hcell.out w7 hblk
            rw [hk0] at s0
            clear s1 s2 s3 s4 s5 s6 s7
            have H3 := Lib.hid h3.2
            have hp3 := h3.1
            clear hf h3 hmM hblk
            go_wp2
            go_roundw
            case rel => exact ⟨j + 1, x3, d', by omega, by go_num, by rw [hp3], H3.out, Hho2.out, by omega⟩
            case measure => simp [intOf]; omega
      · have hb0 : (y.kind == 0) = false := by simpa using hk0
        by_cases hk1 : y.kind = 1
        · have ho := Hwb.out
          unfold OpD.row at ho
          rw [ho] at r0 r1 r2 r3 r4 r5 r6 r7
          clear ho
          rw [hk1] at c0 r0 r1 r2 r3 r4 r5 r6 r7
          have Hc := Lib.hid (dev_sync w0 wb xd d Hb.out (by omega))
          have Hho2 := Lib.hid Hho.out.sync
          have hpe := Dk.sync_pend d
          generalize d.sync = d' at *
          clear Hb Hho
          go_wp2_with fail
          have ho := Hwb.out
          unfold OpD.row at ho
          rw [hk1] at ho
          rw [← ho]
          clear ho
          refine Hc.out.mono ?_
          rintro e w7 ⟨rfl, x3, hp3, h3, hmM⟩
          have hblk : w7.heap[wr.heap.size]? = wb.heap[wr.heap.size]? := hmM.block _ Hbs.out HnM.out
          obtain ⟨s0, s1, s2, s3, s4, s5, s6, s7⟩ := Hcell.out w7 hblk
          rw [hk1] at s0
          clear s1 s2 s3 s4 s5 s6 s7
          have H3 := Lib.hid h3
          clear h3 hmM hblk Hc r0 r1 r2 r3 r4 r5 r6 r7
          go_wp2
          go_roundw
          case rel => exact ⟨j + 1, x3, d', by omega, by go_num, by rw [hp3], H3.out, Hho2.out, by omega⟩
          case measure => simp [intOf]; omega
        · have hb1 : (y.kind == 1) = false := by simpa using hk1
          by_cases hk2 : y.kind = 2
          · have ho := Hwb.out
            unfold OpD.row at ho
            rw [ho] at r0 r1 r2 r3 r4 r5 r6 r7
            clear ho
            rw [hk2] at c0 r0 r1 r2 r3 r4 r5 r6 r7
            have Hc := Lib.hid (dev_arm w0 wb xd d Hb.out y.n hnum)
            have Hho2 := Lib.hid (Hho.out.arm y.n)
            have hpe : (d.arm y.n).pend.length ≤ d.pend.length := Nat.le_refl _
            generalize d.arm y.n = d' at *
            clear Hb Hho
            go_wp2_with fail
            have ho := Hwb.out
            unfold OpD.row at ho
            rw [hk2] at ho
            rw [← ho]
            clear ho
            refine Hc.out.mono ?_
            rintro e w7 ⟨⟨v, rfl⟩, x3, hp3, h3, hmM⟩
            have hblk : w7.heap[wr.heap.size]? = wb.heap[wr.heap.size]? := hmM.block _ Hbs.out HnM.out
            obtain ⟨s0, s1, s2, s3, s4, s5, s6, s7⟩ := Hcell.out w7 hblk
            rw [hk2] at s0
            clear s1 s2 s3 s4 s5 s6 s7
            have H3 := Lib.hid h3
            clear h3 hmM hblk Hc r0 r1 r2 r3 r4 r5 r6 r7
            go_wp2
            go_roundw
            case rel => exact ⟨j + 1, x3, d', by omega, by go_num, by rw [hp3], H3.out, Hho2.out, by omega⟩
            case measure => simp [intOf]; omega
          · have hb2 : (y.kind == 2) = false := by simpa using hk2
            by_cases hk3 : y.kind = 3
            · have ho := Hwb.out
              unfold OpD.row at ho
              rw [ho] at r0 r1 r2 r3 r4 r5 r6 r7
              clear ho
              rw [hk3] at c0 r0 r1 r2 r3 r4 r5 r6 r7
              have Hc := Lib.hid (dev_crash w0 wb xd d Hb.out (by omega) y.cr.A y.cr.n y.cr.c y.cr.ks y.cr.torn y.cr.k (Hcr.out.keep Hb.out.old).1 Hcr.out.2)
              have Hho2 := Lib.hid (Hho.out.crash (keptN y.cr.ks y.cr.torn y.cr.k))
              have hpe : (d.crash (keptN y.cr.ks y.cr.torn y.cr.k)).pend.length ≤ 0 := Nat.le_refl _
              generalize d.crash (keptN y.cr.ks y.cr.torn y.cr.k) = d' at *
              clear Hb Hho
              go_wp2_with fail
              have ho := Hwb.out
              unfold OpD.row at ho
              rw [hk3] at ho
              rw [← ho]
              clear ho
              refine Hc.out.mono ?_
              rintro e w7 ⟨x3, rfl, h3, hmM⟩
              have H3 := Lib.hid h3
              clear h3 hmM Hc r0 r1 r2 r3 r4 r5 r6 r7
              go_wp2
              go_roundw
              case rel => exact ⟨j + 1, x3, d', by omega, by go_num, rfl, H3.out, Hho2.out, by omega⟩
              case measure => simp [intOf]; omega
            · have hb3 : (y.kind == 3) = false := by simpa using hk3
              have ho := Hwb.out
              unfold OpD.row at ho
              rw [ho] at r0 r1 r2 r3 r4 r5 r6 r7
              clear ho
              have HB : Hid (Dev w0 (wr.alloc (.cells #[.int .i64 y.kind, .int .i64 y.at_, .int .i64 y.n, bv y.b, .bool y.short, .slice y.cr.A y.cr.n y.cr.c, .int .i64 y.cr.torn, .int .i64 y.cr.k] 38)) xd d) := by
                have q := Hb.out
                rw [Hwb.out] at q
                unfold OpD.row at q
                exact q
              clear Hb
              go_wp2_with fail
              go_roundw
              case rel => exact ⟨j + 1, xd, d, by omega, by go_num, rfl, HB.out, Hho.out, by omega⟩
              case measure => simp [intOf]; omega
    · obtain rfl : j = n := by omega
      have hc := dev_crash w0 wr xd d Hd.out (by omega) x.A x.n x.c x.ks x.torn x.k (Hx.out.keep Hd.out.old).1 Hx.out.2
      have Hc := Lib.hid hc
      obtain ⟨q0, q1, q2⟩ := Hbx.out wr Hd.out.old
      have Hho2 := Lib.hid (Hho.out.crash (keptN x.ks x.torn x.k))
      have Hdead : Hid ((d.crash (keptN x.ks x.torn x.k)).dead = false) := rfl
      have Hpe : Hid ((d.crash (keptN x.ks x.torn x.k)).pend.length = 0) := rfl
      clear hc Hho
      go_wp2_with fail
      refine Hc.out.mono ?_
      rintro e w6 ⟨x6, rfl, h6, _⟩
      generalize d.crash (keptN x.ks x.torn x.k) = dc at *
      have hr := dev_read w0 w6 x6 dc h6 a
      have hrz : dc.reach a = 0 ∧ dc.read a = fill b := by
        have hi : a.toNat < dc.dur.length := by rw [Hho2.out.len]; omega
        have e : ((a.toNat : Nat) : Int) = a := by omega
        have h1 := Dk.reach_live Hdead.out hi
        have h2 := Dk.read_live Hdead.out hi
        rw [e] at h1 h2
        refine ⟨h1, ?_⟩
        rw [h2, List.getD_eq_getElem?_getD, Hho2.out.now]
        rfl
      rw [hrz.1, hrz.2] at hr
      have Hr := Lib.hid hr
      have H6 := Lib.hid h6
      clear hr hrz h6 Hc q0 q1 q2 Hho2 Hd
      go_wp2_with fail
      refine Hr.out.mono ?_
      rintro e w7 ⟨A7, n7, c7, rfl, hf7⟩
      obtain rfl := fill_n hf7.sl
      have Hs7 := Lib.hid hf7.sl
      have H7 := Lib.hid (H6.out.keep hf7.2)
      clear hf7 Hr H6
      go_wp2_with fail
      refine (sector_ok _ b).mono ?_
      rintro e w8 ⟨g8, rfl, hf8⟩
      have Hs8 := Lib.hid (Hs7.out.mod hf8.2 (fun _ _ _ => id))
      have Ht8 := Lib.hid hf8.sl
      have H8 := Lib.hid (H7.out.keep hf8.2)
      clear hf8 Hs7 H7
      go_wp2_with fail
      refine (same_ok _ _ _ _ _ _ _ _ _ Hs8.out Ht8.out (by omega) (by omega)).mono ?_
      rintro e w9 ⟨rfl, q, rfl⟩
      rw [eqB_self]
      have H9 := Lib.hid (H8.out.keep ((Mod.refl _ w8).drewN q))
      generalize w8.drewN q = w9 at *
      have hde := dev_dead w0 w9 x6 dc H9.out
      have hwt := dev_waits w0 w9 x6 dc H9.out
      rw [Hdead.out] at hde
      rw [Hpe.out] at hwt
      have Hde := Lib.hid hde
      have Hwt := Lib.hid hwt
      clear Hs8 Ht8 H8 hde hwt
      go_wp2_with fail
      refine Hde.out.mono ?_
      rintro e w10 ⟨rfl, hw10⟩
      subst hw10
      go_wp2_with fail
      refine Hwt.out.mono ?_
      rintro e w11 ⟨rfl, hw11⟩
      subst hw11
      have HF := Lib.hid ((Hm0.out.trans H9.out.old (fun _ _ h => h)).below (Nat.le_refl _) (fun _ _ => id))
      clear Hde Hwt H9
      go_wp2
      go_ret
      exact ⟨rfl, HF.out⟩

theorem keeps_law (a z : Int) (hz : (Lit.int .u8 z).wf = true) (A : Option Addr) (n c : Nat) (l : List OpD) (x : CrD) (w : World) (hl : OpsAt w A n c l) (hx : x.At w) :
    Calls Try.prog 4 #[.int .i64 a, .int .u8 z, .slice A n c, x.v] w fun e w' => e = .returned (.bool true) ∧ Below w.heap.size w w' := by
  rw [byte_arg hz]
  exact keeps_walk a _ A n c l x w hl hx
end Go.Proofs.Ytfgngmoeedegiaa
