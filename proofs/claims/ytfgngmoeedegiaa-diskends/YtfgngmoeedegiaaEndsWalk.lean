/-
  DiskEnds: a crash that keeps all; a crash behind a crash; a crash behind a Sync.
-/
import Derived.Test.YtfgngmoeedegiaaRun
namespace Go.Proofs.Ytfgngmoeedegiaa
open Go Go.RowKit

/-- Not armed, not dead, of n sectors. -/
structure Dk.Calm (d : Dk) (n : Nat) : Prop where
  armed : d.armed = false
  dead : d.dead = false
  len : d.dur.length = n
theorem Dk.Calm.stepE {d : Dk} {n : Nat} (h : d.Calm n) : d.stepE = 0 := by unfold Dk.stepE; rw [if_neg (by simp [h.armed])]
theorem Dk.Calm.stepD {d : Dk} {n : Nat} (h : d.Calm n) : d.stepD = d := by unfold Dk.stepD; rw [if_neg (by simp [h.armed])]
theorem Dk.Calm.sync_eq {d : Dk} {n : Nat} (h : d.Calm n) : d.sync = { d with dur := d.now, pend := [] } := by
  unfold Dk.sync
  rw [if_neg (by simp [h.dead]), if_pos h.stepE, h.stepD]
theorem Dk.Calm.write {d : Dk} {n : Nat} (h : d.Calm n) (i : Int) (ys : List UInt8) : (d.write i ys).Calm n := by
  unfold Dk.write
  rw [h.stepE, h.stepD]
  split
  · exact ⟨h.armed, h.dead, h.len⟩
  · exact h
theorem Dk.Calm.sync {d : Dk} {n : Nat} (h : d.Calm n) : d.sync.Calm n := by
  rw [h.sync_eq]
  exact ⟨h.armed, h.dead, by show d.now.length = n; rw [d.now_len]; exact h.len⟩
theorem Dk.Calm.opRun {d : Dk} {n : Nat} (h : d.Calm n) (x : OpD) : (opRun d x).Calm n := by
  unfold Go.Proofs.Ytfgngmoeedegiaa.opRun
  split
  · exact h.write _ _
  · split
    · exact h.sync
    · exact h
theorem foldl_calm {n : Nat} (l : List OpD) : ∀ d : Dk, d.Calm n → (l.foldl opRun d).Calm n := by
  induction l with
  | nil => intro d h; exact h
  | cons x l ih => intro d h; exact ih _ (h.opRun x)
theorem runD_calm (n : Nat) (l : List OpD) : (runD n l).Calm n := foldl_calm l _ ⟨rfl, rfl, by simp [Dk.fresh]⟩

theorem crash_calm {d : Dk} (f : Nat → Nat) : (d.crash f).Calm d.dur.length := ⟨rfl, rfl, crashGo_len _ _ _ _⟩
theorem crash_now {d : Dk} (f : Nat → Nat) : (d.crash f).now = crashGo f 0 d.pend d.dur := rfl
/-- A crash with nothing pending. -/
theorem crash_still {d : Dk} (f : Nat → Nat) (h : d.pend = []) : (d.crash f).now = d.now := by
  rw [crash_now, h]
  show d.dur = lay d.dur d.pend
  rw [h]
  rfl
theorem getD_len {D : List (List UInt8)} {i : Nat} (hD : ∀ s ∈ D, s.length = 256) (hi : i < D.length) : (D.getD i []).length = 256 := by
  rw [List.getD_eq_getElem?_getD, List.getElem?_eq_getElem hi]
  exact hD _ (List.getElem_mem hi)
theorem crashGo_all (f : Nat → Nat) (hf : ∀ i, f i = 256) (W : List (Nat × List UInt8)) : ∀ (i : Nat) (D : List (List UInt8)), (∀ s ∈ D, s.length = 256) → (∀ y ∈ W, y.1 < D.length ∧ y.2.length = 256) → crashGo f i W D = lay D W := by
  induction W with
  | nil => intro i D _ _; rfl
  | cons y W ih =>
    intro i D hD hW
    have hy := hW y (List.mem_cons_self ..)
    show crashGo f (i + 1) W (D.set y.1 (partOf (D.getD y.1 []) y.2 (f i))) = lay (D.set y.1 y.2) W
    rw [hf i, part_all _ _ (getD_len hD hy.1) hy.2]
    refine ih _ _ (fun s hs => ?_) (fun z hz => by rw [List.length_set]; exact hW z (List.mem_cons_of_mem _ hz))
    rcases List.mem_or_eq_of_mem_set hs with h1 | h1
    · exact hD s h1
    · rw [h1]; exact hy.2
theorem keptN_all (i : Nat) : keptN [true] (-1) 0 i = 256 := by
  unfold keptN
  rw [if_neg (by omega), List.length_singleton, Nat.mod_one]
  rfl
theorem crash_all {d : Dk} (h : d.Good) : (d.crash (keptN [true] (-1) 0)).now = d.now := by
  rw [crash_now, crashGo_all _ keptN_all _ _ _ h.dur h.pend]
  rfl

set_option maxRecDepth 100000 in
set_option maxHeartbeats 4000000 in
theorem ends_long (A : Option Addr) (n c : Nat) (x : CrD) (w : World) (hn : 60 < n) :
    Calls Try.prog 7 #[.slice A n c, x.v] w fun e w' => e = .returned (.bool true) ∧ Below w.heap.size w w' := by
  have hn' : decide ((60 : Int) < n) = true := by simp; omega
  unfold CrD.v
  go_enter Try.func7, Try.ntmps7
  go_wp2_with fail
  refine (awake_ok _).mono ?_
  rintro e w1 ⟨rfl, hm1⟩
  have Hm1 : Hid (Mod (fun _ => False) w w1) := ((Mod.refl _ w).alloc _).trans hm1 (fun _ _ h => h)
  clear hm1
  go_wp2
  go_ret
  exact ⟨rfl, Hm1.out.below (Nat.le_refl _) (fun _ _ => id)⟩

set_option maxRecDepth 100000 in
set_option maxHeartbeats 4000000 in
theorem ends_walk (A : Option Addr) (n c : Nat) (l : List OpD) (x : CrD) (w : World) (hl : OpsAt w A n c l) (hx : x.At w) :
    Calls Try.prog 7 #[.slice A n c, x.v] w fun e w' => e = .returned (.bool true) ∧ Below w.heap.size w w' := by
  by_cases hn : 60 < n
  · exact ends_long A n c x w hn
  have hn' : decide ((60 : Int) < n) = false := by simp; omega
  have hn60 : n ≤ 60 := by omega
  unfold CrD.v
  obtain ⟨w0, hw0⟩ : ∃ w0, w0 = w.alloc (.cells #[.slice x.A x.n x.c, .int .i64 x.torn, .int .i64 x.k] 36) := ⟨_, rfl⟩
  have hm0 : Mod (fun _ => False) w w0 := by rw [hw0]; exact (Mod.refl _ _).alloc _
  have hb0 : w0.heap[w.heap.size]? = some (.cells #[.slice x.A x.n x.c, .int .i64 x.torn, .int .i64 x.k] 36 (0, 0)) := by rw [hw0]; exact heap_alloc_new w _
  have hbx : ∀ w', Mod (fun _ => False) w0 w' → w'.cell? ⟨w.heap.size, 0, none⟩ = some (.slice x.A x.n x.c) ∧ w'.cell? ⟨w.heap.size, 1, none⟩ = some (.int .i64 x.torn) ∧ w'.cell? ⟨w.heap.size, 2, none⟩ = some (.int .i64 x.k) := by
    intro w' hm'
    have hb' := (hm'.block _ (Array.getElem?_eq_some_iff.1 hb0).1 id).trans hb0
    refine ⟨?_, ?_, ?_⟩ <;> (rw [cell_of_row _ _ _ _ _ _ hb']; rfl)
  have Hbx := Lib.hid hbx
  have Hl := Lib.hid (hl.keep hm0)
  have Hx := Lib.hid (hx.keep hm0)
  have Hm0 := Lib.hid hm0
  have hpl : (runD 20 l).pend.length ≤ 60 := by
    have := runD_pend 20 l n
    rw [List.take_of_length_le (by rw [hl.len]; omega)] at this
    omega
  have Hpl := Lib.hid hpl
  obtain ⟨B3, hB3⟩ : ∃ B3, B3 = w.heap.size := ⟨_, rfl⟩
  clear hl hx hbx hb0 hn hm0 hpl hB3
  have Hw0 := Lib.hid hw0
  clear hw0
  go_enter Try.func7, Try.ntmps7
  go_wp2_with fail
  rw [← Hw0.out]
  refine (awake_ok _).mono ?_
  rintro e w1 ⟨rfl, hm1⟩
  have Hm1 := Lib.hid hm1
  clear hm1
  go_wp2_with fail
  refine (run_ok w0 w1 Hm1.out A n c l Hl.out hn60).mono ?_
  rintro e w2 ⟨xa, rfl, ha⟩
  have Ha := Lib.hid ha
  have hcalm := runD_calm 20 l
  obtain ⟨d, hd⟩ : ∃ d, d = runD 20 l := ⟨_, rfl⟩
  rw [← hd] at Ha Hpl hcalm
  have Hcalm := Lib.hid hcalm
  clear ha Hm1 hd hcalm
  -- a crash that keeps all
  have Hc := Lib.hid (dev_crash w0 _ xa d (Ha.out.keep ((Mod.refl _ w2).alloc (.cells #[.bool true] 4))) (by have := Hpl.out; omega) _ 1 1 [true] (-1) 0 (Bl.lit w2 true 4) (by omega))
  go_wp2_with fail
  refine Hc.out.mono ?_
  rintro e w3 ⟨x1, rfl, h1, hm1⟩
  have Ha3 := Lib.hid ((Ha.out.keep ((Mod.refl _ w2).alloc (.cells #[.bool true] 4))).keep hm1)
  have H1 := Lib.hid h1
  clear h1 hm1 Hc
  have hlk := alike_ok w0 w3 x1 xa _ d H1.out Ha3.out (crash_calm (d := d) _).len rfl Hcalm.out.dead (crash_all Ha.out.good) (by rw [(crash_calm (d := d) _).len, Hcalm.out.len]; omega)
  have Hlk := Lib.hid hlk
  clear hlk Ha H1
  go_wp2_with fail
  refine Hlk.out.mono ?_
  rintro e w4 ⟨rfl, hm4⟩
  have Ha4 := Lib.hid (Ha3.out.keep hm4)
  have Hc4 := Lib.hid (Hbx.out w4 Ha4.out.old)
  clear hm4 Hlk Ha3
  -- a second crash behind a crash
  have Hc := Lib.hid (dev_crash w0 w4 xa d Ha4.out (by have := Hpl.out; omega) x.A x.n x.c x.ks x.torn x.k (Hx.out.keep Ha4.out.old).1 Hx.out.2)
  obtain ⟨q0, q1, q2⟩ := Hc4.out
  clear Hc4
  go_wp2_with fail
  refine Hc.out.mono ?_
  rintro e w5 ⟨x2, rfl, h2, hm5⟩
  have Ha5 := Lib.hid (Ha4.out.keep hm5)
  have H2 := Lib.hid h2
  obtain ⟨q0', q1', q2'⟩ := Hbx.out w5 Ha5.out.old
  clear h2 hm5 Hc Ha4 q0 q1 q2
  have Hc := Lib.hid (dev_crash w0 w5 x2 _ H2.out (by show 0 ≤ 1000; omega) x.A x.n x.c x.ks x.torn x.k (Hx.out.keep Ha5.out.old).1 Hx.out.2)
  go_wp2_with fail
  refine Hc.out.mono ?_
  rintro e w6 ⟨x3, rfl, h3, hm6⟩
  have Ha6 := Lib.hid (Ha5.out.keep hm6)
  have H2' := Lib.hid (H2.out.keep hm6)
  have hlk := alike_ok w0 w6 x3 x2 _ _ h3 H2'.out (crash_calm _).len rfl rfl (crash_still _ rfl) (by rw [(crash_calm _).len, (crash_calm (d := d) _).len, Hcalm.out.len]; omega)
  have Hlk := Lib.hid hlk
  clear h3 hm6 Hc Ha5 H2 hlk H2' q0' q1' q2'
  go_wp2_with fail
  refine Hlk.out.mono ?_
  rintro e w7 ⟨rfl, hm7⟩
  have Ha7 := Lib.hid (Ha6.out.keep hm7)
  clear hm7 Hlk Ha6
  -- a crash behind a Sync
  have hs := dev_sync w0 w7 xa d Ha7.out (by have := Hpl.out; omega)
  have Hs := Lib.hid hs
  clear hs
  go_wp2_with fail
  refine Hs.out.mono ?_
  rintro e w8 ⟨rfl, xs, hp8, h8, _⟩
  rw [← hp8]
  have Hcs := Lib.hid Hcalm.out.sync
  have Hse := Lib.hid Hcalm.out.sync_eq
  have H8 := Lib.hid h8
  obtain ⟨q0, q1, q2⟩ := Hbx.out w8 H8.out.old
  obtain ⟨ds, hds⟩ : ∃ ds, ds = d.sync := ⟨_, rfl⟩
  rw [← hds] at H8 Hcs Hse
  have hpe : ds.pend = [] := by rw [Hse.out]
  have Hpe := Lib.hid hpe
  clear h8 hp8 Hs Ha7 Hse hds hpe
  have Hc := Lib.hid (dev_crash w0 w8 xs ds H8.out (by rw [Hpe.out]; exact Nat.zero_le _) x.A x.n x.c x.ks x.torn x.k (Hx.out.keep H8.out.old).1 Hx.out.2)
  go_wp2_with fail
  refine Hc.out.mono ?_
  rintro e w9 ⟨x4, rfl, h4, hm9⟩
  have H9 := Lib.hid (H8.out.keep hm9)
  have hlk := alike_ok w0 w9 x4 xs _ ds h4 H9.out (crash_calm _).len rfl Hcs.out.dead (crash_still _ Hpe.out) (by rw [(crash_calm _).len, Hcs.out.len]; omega)
  have Hlk := Lib.hid hlk
  clear hlk h4 hm9 Hc H8 q0 q1 q2
  go_wp2_with fail
  refine Hlk.out.mono ?_
  rintro e w10 ⟨rfl, hm10⟩
  have H10 := Lib.hid (H9.out.keep hm10)
  have hwt := dev_waits w0 w10 xs ds H10.out
  rw [Hpe.out] at hwt
  have Hwt := Lib.hid hwt
  clear hwt hm10 Hlk H9
  go_wp2_with fail
  refine Hwt.out.mono ?_
  rintro e w11 ⟨rfl, hw11⟩
  subst hw11
  have HF := Lib.hid ((Hm0.out.trans H10.out.old (fun _ _ h => h)).below (Nat.le_refl _) (fun _ _ => id))
  clear Hwt H10
  go_wp2
  go_ret
  exact ⟨rfl, HF.out⟩
end Go.Proofs.Ytfgngmoeedegiaa
