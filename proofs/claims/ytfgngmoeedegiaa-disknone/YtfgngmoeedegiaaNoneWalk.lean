/-
  DiskNone: a nil device; what is handed in, and answered, stays.
-/
import Derived.Test.YtfgngmoeedegiaaAwake3
import Derived.Test.YtfgngmoeedegiaaDOps
namespace Go.Proofs.Ytfgngmoeedegiaa
open Go Go.RowKit

set_option maxRecDepth 100000 in
theorem nil_dead (w : World) : Calls Try.prog 24 #[.pointer none] w fun e w' => e = .returned (.bool true) ∧ w' = w := by
  go_enter Try.func24, Try.ntmps24
  go_wp2
  go_ret
  exact ⟨rfl, rfl⟩
set_option maxRecDepth 100000 in
theorem nil_len (w : World) : Calls Try.prog 26 #[.pointer none] w fun e w' => e = .returned (.int .i64 0) ∧ w' = w := by
  go_enter Try.func26, Try.ntmps26
  go_wp2
  go_ret
  exact ⟨rfl, rfl⟩
set_option maxRecDepth 100000 in
theorem nil_waits (w : World) : Calls Try.prog 25 #[.pointer none] w fun e w' => e = .returned (.int .i64 0) ∧ w' = w := by
  go_enter Try.func25, Try.ntmps25
  go_wp2
  go_ret
  exact ⟨rfl, rfl⟩
set_option maxRecDepth 100000 in
theorem nil_reach (w : World) (i : Int) : Calls Try.prog 31 #[.pointer none, .int .i64 i] w fun e w' => e = .returned (.int .i64 30) ∧ w' = w := by
  go_enter Try.func31, Try.ntmps31
  go_wp2_with fail
  refine (nil_dead _).mono ?_
  rintro e w' ⟨rfl, rfl⟩
  go_wp2
  go_ret
  exact ⟨rfl, rfl⟩
set_option maxRecDepth 100000 in
theorem nil_read (w : World) (i : Int) : Calls Try.prog 22 #[.pointer none, .int .i64 i] w fun e w' => e = .returned (.tuple #[.slice none 0 0, .int .i64 30]) ∧ w' = w := by
  go_enter Try.func22, Try.ntmps22
  go_wp2_with fail
  refine (nil_reach _ _).mono ?_
  rintro e w' ⟨rfl, rfl⟩
  go_wp2
  go_ret2
  exact ⟨rfl, rfl⟩
set_option maxRecDepth 100000 in
theorem nil_write (w : World) (i : Int) (s : Value) : Calls Try.prog 13 #[.pointer none, .int .i64 i, s] w fun e w' => e = .returned (.int .i64 30) ∧ w' = w := by
  go_enter Try.func13, Try.ntmps13
  go_wp2_with fail
  refine (nil_reach _ _).mono ?_
  rintro e w' ⟨rfl, rfl⟩
  go_wp2
  go_ret
  exact ⟨rfl, rfl⟩
set_option maxRecDepth 100000 in
theorem nil_sync (w : World) : Calls Try.prog 15 #[.pointer none] w fun e w' => e = .returned (.int .i64 30) ∧ w' = w := by
  go_enter Try.func15, Try.ntmps15
  go_wp2_with fail
  refine (nil_dead _).mono ?_
  rintro e w' ⟨rfl, rfl⟩
  go_wp2
  go_ret
  exact ⟨rfl, rfl⟩
set_option maxRecDepth 100000 in
theorem nil_arm (w : World) (i : Int) : Calls Try.prog 17 #[.pointer none, .int .i64 i] w fun e w' => (∃ v, e = .returned v) ∧ w' = w := by
  go_enter Try.func17, Try.ntmps17
  go_wp2
  refine bodyPost_ret (results_none rfl _ _ _) rfl ?_
  exact ⟨⟨_, rfl⟩, rfl⟩
set_option maxRecDepth 100000 in
theorem nil_crash (w : World) (kA : Option Addr) (kn kc : Nat) (torn kk : Int) : Calls Try.prog 19 #[.pointer none, .agg #[.slice kA kn kc, .int .i64 torn, .int .i64 kk]] w fun e w' => e = .returned (.pointer none) ∧ Mod (fun _ => False) w w' := by
  refine (callsIn_wide (n := 8)).1 ?_
  refine callsIn_of_wp_marks Try.func19 rfl trivial ?_ rfl
  simp only [Try.ntmps19, List.size_toArray, List.length_cons, List.length_nil, Nat.reduceAdd, Nat.reduceSub, Array.replicate_succ, Array.replicate_zero, List.push_toArray, List.append_toArray, List.nil_append, List.cons_append]
  gi_wp2
  exact ⟨_, results_tmp rfl _ _ _, rfl, (Mod.refl _ w).alloc _⟩

/-- New memory's stores leave a device. -/
theorem Dev.away {w0 w w' : World} {x : DV} {d : Dk} (h : Dev w0 w x d) {g : Nat} (hm : Mod (fun k => k = g) w w') (hM : ¬ x.M g) (hA : x.Avoid (fun k => k = g)) (hg : w0.heap.size ≤ g) : Dev w0 w' x d := by
  have hs : ∀ s : Sct, s.At w x.M → (∀ k, blkOf s.A = some k → ¬ k = g) → s.At w' x.M := fun s hs hk => ⟨hs.1.mod hm (fun k e _ => hk k e), hs.2⟩
  refine ⟨?_, h.dk, h.old.trans hm (fun i hi e => by omega)⟩
  have a := h.at_
  exact {
    obj := (hm.block _ (a.M_lt (.inl rfl)).2 (fun e => hM (by rw [← e]; exact .inl rfl))).trans a.obj
    dur := a.dur.mod hm (fun k hk e => hM (by simp [blkOf] at hk; rw [← e, ← hk]; exact .inr (.inl rfl)))
    now := a.now.mod hm (fun k hk e => hM (by simp [blkOf] at hk; rw [← e, ← hk]; exact .inr (.inr (.inl rfl))))
    pend := a.pend.mod hm (fun k hk e => hM (by rw [← e]; exact .inr (.inr (.inr hk))))
    secs := fun s q => hs s (a.secs s q) (hA.1 s q)
    wsecs := fun y q => ⟨(a.wsecs y q).1, hs _ (a.wsecs y q).2 (hA.2 y q)⟩
    pb := a.pb
    d1 := a.d1
    d2 := a.d2
    d3 := a.d3
    d4 := a.d4
    pos := a.pos
    few := a.few
    lft := a.lft }
theorem Dev.avoid {w0 w : World} {x : DV} {d : Dk} (h : Dev w0 w x d) {g : Nat} (hg : w.heap.size ≤ g) : x.Avoid (fun k => k = g) := by
  have hs : ∀ s : Sct, s.At w x.M → ∀ k, blkOf s.A = some k → ¬ k = g := by
    intro s hs k hk e
    obtain ⟨b, o, hA, hb⟩ := hs.1.lt (by omega)
    rw [hA] at hk
    simp [blkOf] at hk
    omega
  exact ⟨fun s q => hs s (h.at_.secs s q), fun y q => hs _ (h.at_.wsecs y q).2⟩

def nn0 : Dk := Dk.fresh (List.replicate 3 (fill 0))
def nn1 (b : UInt8) : Dk := ⟨[fill 0, fill 0, fill 0], [(1, fill b)], false, 0, false⟩
theorem nn1_eq (b : UInt8) : nn0.write 1 (fill b) = nn1 b := by simp [nn0, nn1, Dk.write, Dk.fresh, Dk.reach, Dk.stepE, Dk.stepD, fill_len]
theorem nnR (b : UInt8) : (nn1 b).read 1 = fill b ∧ (nn1 b).reach 1 = 0 := by simp [nn1, Dk.read, Dk.reach, Dk.now, lay]

set_option maxRecDepth 100000 in
set_option maxHeartbeats 4000000 in
theorem none_walk (at_ : Int) (b : UInt8) (w : World) : Calls Try.prog 6 #[.int .i64 at_, bv b] w fun e w' => e = .returned (.bool true) ∧ Below w.heap.size w w' := by
  go_enter Try.func6, Try.ntmps6
  go_wp2_with fail
  refine (awake_ok _).mono ?_
  rintro e w1 ⟨rfl, hm1⟩
  have Hm1 := Lib.hid hm1
  clear hm1
  go_wp2_with fail
  refine (nil_read _ _).mono ?_
  rintro e w' ⟨rfl, rfl⟩
  go_wp2_with fail
  refine (sector_ok _ b).mono ?_
  rintro e w2 ⟨g2, rfl, hf2⟩
  have Hm2 := Lib.hid (Hm1.out.trans hf2.2 (fun _ _ h => h))
  clear hf2 Hm1
  go_wp2_with fail
  refine (nil_write _ _ _).mono ?_
  rintro e w' ⟨rfl, rfl⟩
  go_wp2_with fail
  refine (nil_sync _).mono ?_
  rintro e w' ⟨rfl, rfl⟩
  go_wp2_with fail
  refine (nil_arm _ _).mono ?_
  rintro e w' ⟨⟨v, rfl⟩, rfl⟩
  go_wp2_with fail
  refine (dev_new w _ Hm2.out 3 (by omega) (by omega)).mono ?_
  rintro e w3 ⟨x0, rfl, h0⟩
  have H0 : Hid (Dev w w3 x0 nn0) := h0
  clear h0 Hm2
  go_wp2_with fail
  refine (sector_ok _ b).mono ?_
  rintro e w4 ⟨g4, rfl, hf4⟩
  have hg4 := hf4.new (k := g4) rfl
  have hw4 := dev_write w w4 x0 nn0 (H0.out.keep hf4.2) 1 _ 256 256 (fill b) hf4.sl (fun _ hk => H0.out.apart (hf4.new hk)) (by simp [nn0, Dk.fresh])
  rw [nn1_eq] at hw4
  have Hw4 := Lib.hid hw4
  have Hf4 := Lib.hid hf4
  have Hg4 := Lib.hid hg4
  clear hw4 hf4 hg4
  go_wp2_with fail
  refine Hw4.out.mono ?_
  rintro e w5 ⟨rfl, x1, hp1, h1, hM1, hav, hgr⟩
  rw [← hp1]
  -- what was handed in turns; the device does not
  have hv1 : x1.Avoid (fun k => k = g4) := hav _ (fun k hk => by rw [hk]; exact (Hf4.out.1.lt g4 rfl).2) (H0.out.avoid Hg4.out)
  have ho5 : OwV w5 w3.heap.size 5 (some ⟨g4, 0, none⟩) 256 256 ((fill b).map bv) := Hf4.out.1.mod hM1 (fun k hk hMk => by
    simp [blkOf] at hk
    have := (H0.out.at_.M_lt hMk).2
    have := Hg4.out
    omega)
  have hx1g : ¬ x1.M g4 := by
    intro hMk
    have h2 := (Hf4.out.1.lt g4 rfl).2
    rcases hgr g4 hMk with h3 | h3
    · have := (H0.out.at_.M_lt h3).2
      have := Hg4.out
      omega
    · omega
  obtain ⟨⟨u, cu, hu⟩, fu⟩ := ho5.spot 0 (by omega)
  have hw0 : w.heap.size ≤ g4 := by have := H0.out.old.size; have := Hg4.out; omega
  have cu5 : w5.cell? ⟨g4, 0, none⟩ = some (bv b) := by
    rw [List.getElem?_map] at hu
    rw [cu, ← hu]
    have : (fill b)[0]? = some b := by unfold fill; rw [List.getElem?_replicate, if_pos (by omega)]
    rw [this]; rfl
  have Haway : Hid (∀ v, Dev w (w5.setCell ⟨g4, 0, none⟩ v) x1 (nn1 b)) := fun v => h1.away ((Mod.refl _ w5).one _ _) hx1g hv1 hw0
  clear hM1 hav hgr hv1 ho5 hx1g cu hu h1 hp1 Hw4 Hf4 Hg4 H0 hw0
  have hr := fun v => dev_read w _ x1 (nn1 b) (Haway.out v) 1
  simp only [(nnR b).1, (nnR b).2] at hr
  have Hr := Lib.hid hr
  clear hr
  go_wp2_with fail
  refine (Hr.out _).mono ?_
  rintro e w7 ⟨A7, n7, c7, rfl, hf7⟩
  obtain rfl := fill_n hf7.sl
  obtain ⟨g7, hA7, _⟩ := hf7.1.cells (by omega)
  subst hA7
  have hd7 := Haway.out _ |>.keep hf7.2
  have hap := (Haway.out _).apart (hf7.new (k := g7) rfl)
  have hav := (Haway.out _).avoid (hf7.new (k := g7) rfl)
  have hw0 : w.heap.size ≤ g7 := by have := hf7.new (k := g7) rfl; have := (Haway.out (.int .u8 (IntKind.u8.wrap (b.toNat + 1)))).old.size; simp [World.setCell] at this; simp [World.setCell] at *; omega
  have H7 := Lib.hid hd7
  have Hap := Lib.hid hap
  have Hav := Lib.hid hav
  have Hw0 := Lib.hid hw0
  have Ho7 := Lib.hid hf7.1
  clear hf7 hd7 hap hav hw0 Haway Hr cu5 fu
  generalize (w5.setCell _ _).heap.size = base7 at Ho7
  go_wp2_with fail
  refine (sector_ok _ b).mono ?_
  rintro e w8 ⟨g8, rfl, hf8⟩
  have Ho8 := Lib.hid (Ho7.out.mod hf8.2 (fun _ _ => id))
  have H8 := Lib.hid (H7.out.keep hf8.2)
  have Hs8 := Lib.hid hf8.sl
  clear hf8 Ho7 H7
  go_wp2_with fail
  refine (same_ok _ _ _ _ _ _ _ _ _ Ho8.out.sl Hs8.out (by omega) (by omega)).mono ?_
  rintro e w9 ⟨rfl, q, rfl⟩
  rw [eqB_self]
  have Ho9 := Lib.hid (Ho8.out.drewN q)
  have H9 := Lib.hid (H8.out.keep ((Mod.refl _ w8).drewN q))
  generalize w8.drewN q = w9 at *
  clear Ho8 H8 Hs8
  obtain ⟨⟨u, cu, hu⟩, fu⟩ := Ho9.out.spot 5 (by omega)
  have cu9 : w9.cell? ⟨g7, 5, none⟩ = some (bv b) := by
    rw [List.getElem?_map] at hu
    rw [cu, ← hu]
    have : (fill b)[5]? = some b := by unfold fill; rw [List.getElem?_replicate, if_pos (by omega)]
    rw [this]; rfl
  have Haway : Hid (∀ v, Dev w (w9.setCell ⟨g7, 5, none⟩ v) x1 (nn1 b)) := fun v => H9.out.away ((Mod.refl _ w9).one _ _) Hap.out Hav.out Hw0.out
  have hr := fun v => dev_read w _ x1 (nn1 b) (Haway.out v) 1
  simp only [(nnR b).1, (nnR b).2] at hr
  have Hr := Lib.hid hr
  clear hr cu hu Ho9 H9 Hap Hav Hw0
  go_wp2_with fail
  refine (Hr.out _).mono ?_
  rintro e w10 ⟨A10, n10, c10, rfl, hf10⟩
  obtain rfl := fill_n hf10.sl
  have H10 := Lib.hid ((Haway.out _).keep hf10.2)
  have Hs10 := Lib.hid hf10.sl
  clear hf10 Haway Hr cu9 fu
  go_wp2_with fail
  refine (sector_ok _ b).mono ?_
  rintro e w11 ⟨g11, rfl, hf11⟩
  have Hs11 := Lib.hid (Hs10.out.mod hf11.2 (fun _ _ _ => id))
  have Ht11 := Lib.hid hf11.sl
  have Hold := Lib.hid (H10.out.old.trans hf11.2 (fun _ _ h => h))
  clear hf11 Hs10 H10
  go_wp2_with fail
  refine (same_ok _ _ _ _ _ _ _ _ _ Hs11.out Ht11.out (by omega) (by omega)).mono ?_
  rintro e w12 ⟨rfl, q, rfl⟩
  rw [eqB_self]
  have Hold12 := Lib.hid (Hold.out.drewN q)
  generalize w11.drewN q = w12 at *
  clear Hold Hs11 Ht11
  go_wp2_with fail
  refine (nil_dead _).mono ?_
  rintro e w' ⟨rfl, rfl⟩
  go_wp2_with fail
  refine (nil_len _).mono ?_
  rintro e w' ⟨rfl, rfl⟩
  go_wp2_with fail
  refine (nil_waits _).mono ?_
  rintro e w' ⟨rfl, rfl⟩
  go_wp2_with fail
  refine (nil_crash _ _ _ _ _ _).mono ?_
  rintro e w13 ⟨rfl, hm13⟩
  have HF := Lib.hid ((Hold12.out.trans hm13 (fun _ _ h => h)).below (Nat.le_refl _) (fun _ _ => id))
  clear hm13 Hold12
  go_wp2
  go_ret
  exact ⟨rfl, HF.out⟩

theorem none_law (at_ z : Int) (hz : (Lit.int .u8 z).wf = true) (w : World) : Calls Try.prog 6 #[.int .i64 at_, .int .u8 z] w fun e w' => e = .returned (.bool true) ∧ Below w.heap.size w w' := by
  rw [byte_arg hz]
  exact none_walk at_ _ w
end Go.Proofs.Ytfgngmoeedegiaa
