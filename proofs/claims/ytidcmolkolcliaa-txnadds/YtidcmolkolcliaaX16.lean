/-
  The law: awake.
-/
import Derived.Test.YtidcmolkolcliaaX15
namespace Go.Proofs.Ytidcmolkolcliaa
open Go Go.RowKit

def zs2 : Vp := (true, [0, 0])
def zs10 : Vp := (true, [0, 0, 0, 0, 0, 0, 0, 0, 0, 0])
def kC1 : Cp := ⟨5, 0, 1, noV, zs2⟩
def kC2 : Cp := ⟨6, 0, 2, zs10, noV⟩
def kC3 : Cp := ⟨9, 0, 3, noV, noV⟩
def kT1 : Tp := newT 1
def kT2 : Tp := ⟨1, 1, 5, 5, [kC1], []⟩
def kT3 : Tp := ⟨1, 1, 5, 5, [kC1], [1]⟩
def kT4 : Tp := ⟨1, 1, 5, 6, [kC1, kC2], [1]⟩
def kT5 : Tp := ⟨1, 1, 5, 9, [kC1, kC2, kC3], [1]⟩
def kT6 : Tp := ⟨1, 1, 5, 9, [kC1, kC2], [1]⟩
theorem k1 : newE 1 = 0 := by decide
theorem k2 : noteE kT1 kC1 = 0 ∧ noteT kT1 kC1 = kT2 := ⟨by decide, rfl⟩
theorem k3 : saveE kT2 = 0 ∧ saveT kT2 = kT3 := ⟨by decide, rfl⟩
theorem k4 : noteE kT3 kC2 = 0 ∧ noteT kT3 kC2 = kT4 := ⟨by decide, rfl⟩
theorem k5 : noteE kT4 kC3 = 0 ∧ noteT kT4 kC3 = kT5 := ⟨by decide, rfl⟩
theorem k6 : aboveE kT5 0 = 0 ∧ aboveI kT5 0 = 2 := ⟨by decide, by decide⟩
theorem k7 : kept 0 [kT5] = 14 := by decide
theorem k8 : undoE kT5 = 0 ∧ undoT kT5 = kT6 ∧ undoC kT5 = kC3 := ⟨by decide, rfl, rfl⟩
theorem k9 : aboveE kT6 0 = 0 ∧ aboveI kT6 0 = 1 := ⟨by decide, by decide⟩
set_option maxRecDepth 100000 in
set_option maxHeartbeats 3200000 in
theorem awake_ok (w : World) : Calls Try.prog 10 #[] w fun e w' => e = .returned (.bool true) ∧ Mod (fun _ => False) w w' := by
  have HM0 := Lib.hid (Mod.refl (fun _ => False) w)
  have hz0 : w.heap.size ≤ w.heap.size := Nat.le_refl _
  go_enter Try.func10, Try.ntmps10
  go_wp2_with fail
  refine ((new_ok w 1).mono (fun e w' h => (NwAns.rn (b0 := w.heap.size) h).at 0 k1)).mono ?_
  rintro e w1 ⟨t1, rfl, hk, hp, hm⟩
  have HM1 := Lib.hid (HM0.out.trans hm (fun _ _ h => h))
  have hz1 := hm.size
  clear hm
  have Kt11 := Lib.hid hk
  rw [if_pos rfl] at hp
  have Pt1 : Hid (t1.p = kT1) := hp
  have Nt1 : Hid (t1.n = 0 ∧ t1.m = 0) := ⟨by have := hk.at_.nL; rw [hp] at this; exact this.symm, by have := hk.at_.nS; rw [hp] at this; exact this.symm⟩
  clear hk hp
  obtain ⟨w2, hw2⟩ : ∃ w2, w1.alloc (.cells #[.int .i64 t1.id, .int .i64 t1.st, .int .i64 t1.f, .int .i64 t1.l, .slice t1.A t1.n t1.c, .slice t1.B t1.m t1.d] 25) = w2 := ⟨_, rfl⟩
  have ha2 : Mod (fun _ => False) w1 w2 := by rw [← hw2]; exact (Mod.refl _ w1).alloc _
  have hz2 : w1.heap.size + 1 ≤ w2.heap.size := by rw [← hw2]; simp
  have HB2 : Hid ((t1 : TxD).In w2 w1.heap.size) := by rw [← hw2]; exact TxD.In.new w1 t1
  have HM2 := Lib.hid (HM1.out.trans ha2 (fun _ _ h => h))
  have Kt12 := Lib.hid (Kt11.out.keep ha2)
  clear ha2
  obtain ⟨c0, c1, c2, c3, c4, c5⟩ : w2.cell? ⟨w1.heap.size, 0, none⟩ = some (.int .i64 t1.id) ∧ w2.cell? ⟨w1.heap.size, 1, none⟩ = some (.int .i64 t1.st) ∧ w2.cell? ⟨w1.heap.size, 2, none⟩ = some (.int .i64 t1.f) ∧ w2.cell? ⟨w1.heap.size, 3, none⟩ = some (.int .i64 t1.l) ∧ w2.cell? ⟨w1.heap.size, 4, none⟩ = some (.slice t1.A t1.n t1.c) ∧ w2.cell? ⟨w1.heap.size, 5, none⟩ = some (.slice t1.B t1.m t1.d) := HB2.out.cells
  have HD : Hid (Mod (fun _ => False) w2 w2.drew) := (Mod.refl _ w2).drew
  go_wp2_with fail
  clear hw2 c0 c1 c2 c3 c4 c5
  refine wp_region_late (S := (fun W : World => W.cell? ⟨w1.heap.size, 0, none⟩ = some (.int .i64 t1.id) ∧ W.cell? ⟨w1.heap.size, 1, none⟩ = some (.int .i64 t1.st) ∧ W.cell? ⟨w1.heap.size, 2, none⟩ = some (.int .i64 t1.f) ∧ W.cell? ⟨w1.heap.size, 3, none⟩ = some (.int .i64 t1.l) ∧ W.cell? ⟨w1.heap.size, 4, none⟩ = some (.slice t1.A t1.n t1.c) ∧ W.cell? ⟨w1.heap.size, 5, none⟩ = some (.slice t1.B t1.m t1.d))) (z := 7) (by kernel_rfl) ?_
  have hI := (show (fun W : World => W.cell? ⟨w1.heap.size, 0, none⟩ = some (.int .i64 t1.id) ∧ W.cell? ⟨w1.heap.size, 1, none⟩ = some (.int .i64 t1.st) ∧ W.cell? ⟨w1.heap.size, 2, none⟩ = some (.int .i64 t1.f) ∧ W.cell? ⟨w1.heap.size, 3, none⟩ = some (.int .i64 t1.l) ∧ W.cell? ⟨w1.heap.size, 4, none⟩ = some (.slice t1.A t1.n t1.c) ∧ W.cell? ⟨w1.heap.size, 5, none⟩ = some (.slice t1.B t1.m t1.d)) _ from (HB2.out.keep HD.out).cells)
  refine lg_take (n := 8) (v := ?_) 0 (some 21) rfl rfl (by kernel_rfl) (by kernel_rfl) (by kernel_rfl) (by kernel_rfl) (by kernel_rfl) (fun _ _ _ h => h) (by rfl) hI ?_ ?_
  rotate_left
  · ((intro w hSw; (try dsimp only at hSw); go_simp); (try with_reducible rfl))
  try simp only [Act.put, List.setIfInBounds_toArray, List.set_cons_zero, List.set_cons_succ]
  refine lg_one (n := 7) 1 rfl (by kernel_rfl) (by rfl) ?_
  go_simp
  go_at_call 30
  refine (lval2_ok _).mono ?_
  rintro e w3 ⟨v, rfl, hv, hvs, hm⟩
  have hmv := HD.out.trans hm (fun _ _ h => h)
  have HM3 := Lib.hid (HM2.out.trans hmv (fun _ _ h => h))
  have hz3 := hmv.size
  have HB3 := Lib.hid (HB2.out.keep hmv)
  have Kt13 := Lib.hid (Kt12.out.keep hmv)
  have AV3 := Lib.hid hv
  have HVs := Lib.hid hvs
  clear hm hmv hv hvs
  clear hI
  have hI := (show (fun W : World => W.cell? ⟨w1.heap.size, 0, none⟩ = some (.int .i64 t1.id) ∧ W.cell? ⟨w1.heap.size, 1, none⟩ = some (.int .i64 t1.st) ∧ W.cell? ⟨w1.heap.size, 2, none⟩ = some (.int .i64 t1.f) ∧ W.cell? ⟨w1.heap.size, 3, none⟩ = some (.int .i64 t1.l) ∧ W.cell? ⟨w1.heap.size, 4, none⟩ = some (.slice t1.A t1.n t1.c) ∧ W.cell? ⟨w1.heap.size, 5, none⟩ = some (.slice t1.B t1.m t1.d)) _ from HB3.out.cells)
  refine ⟨Held.yes hI, ?_⟩
  try simp only [Act.put, List.setIfInBounds_toArray, List.set_cons_zero, List.set_cons_succ]
  refine lg_take (n := 6) (v := ?_) 2 (some 23) rfl rfl (by kernel_rfl) (by kernel_rfl) (by kernel_rfl) (by kernel_rfl) (by kernel_rfl) (fun _ _ _ h => h) (by rfl) hI ?_ ?_
  rotate_left
  · ((intro w hSw; (try dsimp only at hSw); go_simp); (try with_reducible rfl))
  try simp only [Act.put, List.setIfInBounds_toArray, List.set_cons_zero, List.set_cons_succ]
  refine lg_one (n := 5) 3 rfl (by kernel_rfl) (by rfl) ?_
  go_simp
  go_at_call 12
  refine ((note_ok w3 t1 (⟨5, 0, 1, ⟨false, none, 0, 0, []⟩, ⟨true, v.B, v.m, v.d, v.vs⟩⟩ : ChD) Kt13.out.at_ ⟨VlD.none_at _, AV3.out⟩ (by rw [Nt1.out.1]; omega) (by rw [Nt1.out.2]; omega)).mono (fun e w' h => (NwAns.rn (b0 := w.heap.size) h).at 0 (by rw [Pt1.out, (show (⟨5, 0, 1, ⟨false, none, 0, 0, []⟩, ⟨true, v.B, v.m, v.d, v.vs⟩⟩ : ChD).p = kC1 by unfold ChD.p VlD.p kC1 zs2 noV; rw [HVs.out])]; exact k2.1))).mono ?_
  rintro e w4 ⟨t2, rfl, hk, hp, hm⟩
  have HM4 := Lib.hid (HM3.out.trans hm (fun _ _ h => h))
  have hz4 := hm.size
  have HB4 := Lib.hid (HB3.out.keep hm)
  have Kt14 := Lib.hid (Kt13.out.keep hm)
  clear hm
  have Kt24 := Lib.hid hk
  rw [if_pos rfl, Pt1.out, (show (⟨5, 0, 1, ⟨false, none, 0, 0, []⟩, ⟨true, v.B, v.m, v.d, v.vs⟩⟩ : ChD).p = kC1 by unfold ChD.p VlD.p kC1 zs2 noV; rw [HVs.out]), k2.2] at hp
  have Pt2 : Hid (t2.p = kT2) := hp
  have Nt2 : Hid (t2.n = 1 ∧ t2.m = 0) := ⟨by have := hk.at_.nL; rw [hp] at this; exact this.symm, by have := hk.at_.nS; rw [hp] at this; exact this.symm⟩
  clear hk hp
  clear hI
  have hI := (show (fun W : World => W.cell? ⟨w1.heap.size, 0, none⟩ = some (.int .i64 t1.id) ∧ W.cell? ⟨w1.heap.size, 1, none⟩ = some (.int .i64 t1.st) ∧ W.cell? ⟨w1.heap.size, 2, none⟩ = some (.int .i64 t1.f) ∧ W.cell? ⟨w1.heap.size, 3, none⟩ = some (.int .i64 t1.l) ∧ W.cell? ⟨w1.heap.size, 4, none⟩ = some (.slice t1.A t1.n t1.c) ∧ W.cell? ⟨w1.heap.size, 5, none⟩ = some (.slice t1.B t1.m t1.d)) _ from HB4.out.cells)
  refine ⟨Held.yes hI, ?_⟩
  try simp only [Act.put, List.setIfInBounds_toArray, List.set_cons_zero, List.set_cons_succ]
  refine lg_take (n := 4) (v := ?_) 4 (some 20) rfl rfl (by kernel_rfl) (by kernel_rfl) (by kernel_rfl) (by kernel_rfl) (by kernel_rfl) (fun _ _ _ h => h) (by rfl) hI ?_ ?_
  rotate_left
  · ((intro w hSw; (try dsimp only at hSw); go_simp); (try with_reducible rfl))
  try simp only [Act.put, List.setIfInBounds_toArray, List.set_cons_zero, List.set_cons_succ]
  refine lg_take (n := 3) (v := ?_) 5 (some 25) rfl rfl (by kernel_rfl) (by kernel_rfl) (by kernel_rfl) (by kernel_rfl) (by kernel_rfl) (fun _ _ _ h => h) (by rfl) hI ?_ ?_
  rotate_left
  · ((intro w hSw; (try dsimp only at hSw); go_simp); (try with_reducible rfl))
  try simp only [Act.put, List.setIfInBounds_toArray, List.set_cons_zero, List.set_cons_succ]
  refine lg_pure (n := 2) (v := ?_) 6 (some 26) rfl rfl (by kernel_rfl) (by kernel_rfl) (by kernel_rfl) (by kernel_rfl) (fun _ _ _ h => h) (by rfl) hI ?_ ?_
  rotate_left
  · ((intro w; go_simp); (try with_reducible rfl))
  try simp only [Act.put, List.setIfInBounds_toArray, List.set_cons_zero, List.set_cons_succ]
  have f0 := HB4.out.fz 0
  have f1 := HB4.out.fz 1
  have f2 := HB4.out.fz 2
  have f3 := HB4.out.fz 3
  have f4 := HB4.out.fz 4
  have f5 := HB4.out.fz 5
  obtain ⟨c0, c1, c2, c3, c4, c5⟩ : w4.cell? ⟨w1.heap.size, 0, none⟩ = some (.int .i64 t1.id) ∧ w4.cell? ⟨w1.heap.size, 1, none⟩ = some (.int .i64 t1.st) ∧ w4.cell? ⟨w1.heap.size, 2, none⟩ = some (.int .i64 t1.f) ∧ w4.cell? ⟨w1.heap.size, 3, none⟩ = some (.int .i64 t1.l) ∧ w4.cell? ⟨w1.heap.size, 4, none⟩ = some (.slice t1.A t1.n t1.c) ∧ w4.cell? ⟨w1.heap.size, 5, none⟩ = some (.slice t1.B t1.m t1.d) := HB4.out.cells
  obtain ⟨w5, hw5⟩ : ∃ w5, (((((w4.setCell ⟨w1.heap.size, 0, none⟩ (.int .i64 t2.id)).setCell ⟨w1.heap.size, 1, none⟩ (.int .i64 t2.st)).setCell ⟨w1.heap.size, 2, none⟩ (.int .i64 t2.f)).setCell ⟨w1.heap.size, 3, none⟩ (.int .i64 t2.l)).setCell ⟨w1.heap.size, 4, none⟩ (.slice t2.A t2.n t2.c)).setCell ⟨w1.heap.size, 5, none⟩ (.slice t2.B t2.m t2.d) = w5 := ⟨_, rfl⟩
  have hq5 : stT w4 (w1.heap.size) t2 = w5 := hw5
  have hs5 : Mod (fun k => k = w1.heap.size) w4 w5 := by rw [← hq5]; exact stT_mod w4 (w1.heap.size) t2
  have HM5 : Hid (Mod (fun _ => False) w w5) := HM4.out.trans hs5 (fun k _ e => by omega)
  have hz5 := hs5.size
  have Kt15 := Lib.hid (Kt14.out.box HB4.out (by omega) hs5)
  have Kt25 := Lib.hid (Kt24.out.box HB4.out (by omega) hs5)
  have HB5 : Hid ((t2 : TxD).In w5 (w1.heap.size)) := by rw [← hq5]; exact HB4.out.set t2
  clear hq5 hs5
  refine lg_one (n := 1) 7 rfl (by kernel_rfl) (by rfl) ?_
  go_simp
  clear hI
  refine ⟨Held.no (by kernel_rfl), ?_⟩
  try simp only [Act.put]
  refine lg_one (n := 0) 8 rfl (by kernel_rfl) (by rfl) ?_
  go_simp
  refine ⟨Held.no (by kernel_rfl), ?_⟩
  try simp only [Act.put, List.setIfInBounds_toArray, List.set_cons_zero, List.set_cons_succ]
  refine wpLate_done (by kernel_rfl) ?_ _
  clear HVs AV3 HD f0 f1 f2 f3 f4 f5 c0 c1 c2 c3 c4 c5
  obtain ⟨c0, c1, c2, c3, c4, c5⟩ : w5.cell? ⟨w1.heap.size, 0, none⟩ = some (.int .i64 t2.id) ∧ w5.cell? ⟨w1.heap.size, 1, none⟩ = some (.int .i64 t2.st) ∧ w5.cell? ⟨w1.heap.size, 2, none⟩ = some (.int .i64 t2.f) ∧ w5.cell? ⟨w1.heap.size, 3, none⟩ = some (.int .i64 t2.l) ∧ w5.cell? ⟨w1.heap.size, 4, none⟩ = some (.slice t2.A t2.n t2.c) ∧ w5.cell? ⟨w1.heap.size, 5, none⟩ = some (.slice t2.B t2.m t2.d) := HB5.out.cells
  go_wp2_with fail
  refine ((save_ok w5 t2 Kt25.out.at_ (by rw [Nt2.out.1]; omega) (by rw [Nt2.out.2]; omega)).mono (fun e w' h => (SvAns.rs (b0 := w.heap.size) h).at 0 0 (by rw [Pt2.out]; exact k3.1) (by rw [if_pos rfl, Nt2.out.2]; rfl))).mono ?_
  rintro e w6 ⟨t3, rfl, hk, hp, hm⟩
  have HM6 := Lib.hid (HM5.out.trans hm (fun _ _ h => h))
  have hz6 := hm.size
  have HB6 := Lib.hid (HB5.out.keep hm)
  have Kt16 := Lib.hid (Kt15.out.keep hm)
  have Kt26 := Lib.hid (Kt25.out.keep hm)
  clear hm
  have Kt36 := Lib.hid hk
  rw [if_pos rfl, Pt2.out, k3.2] at hp
  have Pt3 : Hid (t3.p = kT3) := hp
  have Nt3 : Hid (t3.n = 1 ∧ t3.m = 1) := ⟨by have := hk.at_.nL; rw [hp] at this; exact this.symm, by have := hk.at_.nS; rw [hp] at this; exact this.symm⟩
  clear hk hp
  clear hw5 c0 c1 c2 c3 c4 c5
  have f0 := HB6.out.fz 0
  have f1 := HB6.out.fz 1
  have f2 := HB6.out.fz 2
  have f3 := HB6.out.fz 3
  have f4 := HB6.out.fz 4
  have f5 := HB6.out.fz 5
  obtain ⟨c0, c1, c2, c3, c4, c5⟩ : w6.cell? ⟨w1.heap.size, 0, none⟩ = some (.int .i64 t2.id) ∧ w6.cell? ⟨w1.heap.size, 1, none⟩ = some (.int .i64 t2.st) ∧ w6.cell? ⟨w1.heap.size, 2, none⟩ = some (.int .i64 t2.f) ∧ w6.cell? ⟨w1.heap.size, 3, none⟩ = some (.int .i64 t2.l) ∧ w6.cell? ⟨w1.heap.size, 4, none⟩ = some (.slice t2.A t2.n t2.c) ∧ w6.cell? ⟨w1.heap.size, 5, none⟩ = some (.slice t2.B t2.m t2.d) := HB6.out.cells
  obtain ⟨w7, hw7⟩ : ∃ w7, (((((w6.setCell ⟨w1.heap.size, 0, none⟩ (.int .i64 t3.id)).setCell ⟨w1.heap.size, 1, none⟩ (.int .i64 t3.st)).setCell ⟨w1.heap.size, 2, none⟩ (.int .i64 t3.f)).setCell ⟨w1.heap.size, 3, none⟩ (.int .i64 t3.l)).setCell ⟨w1.heap.size, 4, none⟩ (.slice t3.A t3.n t3.c)).setCell ⟨w1.heap.size, 5, none⟩ (.slice t3.B t3.m t3.d) = w7 := ⟨_, rfl⟩
  have hq7 : stT w6 (w1.heap.size) t3 = w7 := hw7
  have hs7 : Mod (fun k => k = w1.heap.size) w6 w7 := by rw [← hq7]; exact stT_mod w6 (w1.heap.size) t3
  have HM7 : Hid (Mod (fun _ => False) w w7) := HM6.out.trans hs7 (fun k _ e => by omega)
  have hz7 := hs7.size
  have Kt17 := Lib.hid (Kt16.out.box HB6.out (by omega) hs7)
  have Kt27 := Lib.hid (Kt26.out.box HB6.out (by omega) hs7)
  have Kt37 := Lib.hid (Kt36.out.box HB6.out (by omega) hs7)
  have HB7 : Hid ((t3 : TxD).In w7 (w1.heap.size)) := by rw [← hq7]; exact HB6.out.set t3
  clear hq7 hs7
  obtain ⟨d0, d1, d2, d3, d4, d5⟩ : w7.cell? ⟨w1.heap.size, 0, none⟩ = some (.int .i64 t3.id) ∧ w7.cell? ⟨w1.heap.size, 1, none⟩ = some (.int .i64 t3.st) ∧ w7.cell? ⟨w1.heap.size, 2, none⟩ = some (.int .i64 t3.f) ∧ w7.cell? ⟨w1.heap.size, 3, none⟩ = some (.int .i64 t3.l) ∧ w7.cell? ⟨w1.heap.size, 4, none⟩ = some (.slice t3.A t3.n t3.c) ∧ w7.cell? ⟨w1.heap.size, 5, none⟩ = some (.slice t3.B t3.m t3.d) := HB7.out.cells
  go_upto_region 4 with fail
  clear hw7 f0 f1 f2 f3 f4 f5 c0 c1 c2 c3 c4 c5
  have c0 := d0
  have c1 := d1
  have c2 := d2
  have c3 := d3
  have c4 := d4
  have c5 := d5
  clear d0 d1 d2 d3 d4 d5
  have HD : Hid (Mod (fun _ => False) w7 w7.drew) := (Mod.refl _ w7).drew
  clear c0 c1 c2 c3 c4 c5
  refine wp_region_late (S := (fun W : World => W.cell? ⟨w1.heap.size, 0, none⟩ = some (.int .i64 t3.id) ∧ W.cell? ⟨w1.heap.size, 1, none⟩ = some (.int .i64 t3.st) ∧ W.cell? ⟨w1.heap.size, 2, none⟩ = some (.int .i64 t3.f) ∧ W.cell? ⟨w1.heap.size, 3, none⟩ = some (.int .i64 t3.l) ∧ W.cell? ⟨w1.heap.size, 4, none⟩ = some (.slice t3.A t3.n t3.c) ∧ W.cell? ⟨w1.heap.size, 5, none⟩ = some (.slice t3.B t3.m t3.d))) (z := 7) (by kernel_rfl) ?_
  have hI := (show (fun W : World => W.cell? ⟨w1.heap.size, 0, none⟩ = some (.int .i64 t3.id) ∧ W.cell? ⟨w1.heap.size, 1, none⟩ = some (.int .i64 t3.st) ∧ W.cell? ⟨w1.heap.size, 2, none⟩ = some (.int .i64 t3.f) ∧ W.cell? ⟨w1.heap.size, 3, none⟩ = some (.int .i64 t3.l) ∧ W.cell? ⟨w1.heap.size, 4, none⟩ = some (.slice t3.A t3.n t3.c) ∧ W.cell? ⟨w1.heap.size, 5, none⟩ = some (.slice t3.B t3.m t3.d)) _ from (HB7.out.keep HD.out).cells)
  refine lg_take (n := 8) (v := ?_) 0 (some 34) rfl rfl (by kernel_rfl) (by kernel_rfl) (by kernel_rfl) (by kernel_rfl) (by kernel_rfl) (fun _ _ _ h => h) (by rfl) hI ?_ ?_
  rotate_left
  · ((intro w hSw; (try dsimp only at hSw); go_simp); (try with_reducible rfl))
  try simp only [Act.put, List.setIfInBounds_toArray, List.set_cons_zero, List.set_cons_succ]
  refine lg_one (n := 7) 1 rfl (by kernel_rfl) (by rfl) ?_
  go_simp
  go_at_call 30
  refine (lval10_ok _).mono ?_
  rintro e w8 ⟨v, rfl, hv, hvs, hm⟩
  have hmv := HD.out.trans hm (fun _ _ h => h)
  have HM8 := Lib.hid (HM7.out.trans hmv (fun _ _ h => h))
  have hz8 := hmv.size
  have HB8 := Lib.hid (HB7.out.keep hmv)
  have Kt18 := Lib.hid (Kt17.out.keep hmv)
  have Kt28 := Lib.hid (Kt27.out.keep hmv)
  have Kt38 := Lib.hid (Kt37.out.keep hmv)
  have AV8 := Lib.hid hv
  have HVs := Lib.hid hvs
  clear hm hmv hv hvs
  clear hI
  have hI := (show (fun W : World => W.cell? ⟨w1.heap.size, 0, none⟩ = some (.int .i64 t3.id) ∧ W.cell? ⟨w1.heap.size, 1, none⟩ = some (.int .i64 t3.st) ∧ W.cell? ⟨w1.heap.size, 2, none⟩ = some (.int .i64 t3.f) ∧ W.cell? ⟨w1.heap.size, 3, none⟩ = some (.int .i64 t3.l) ∧ W.cell? ⟨w1.heap.size, 4, none⟩ = some (.slice t3.A t3.n t3.c) ∧ W.cell? ⟨w1.heap.size, 5, none⟩ = some (.slice t3.B t3.m t3.d)) _ from HB8.out.cells)
  refine ⟨Held.yes hI, ?_⟩
  try simp only [Act.put, List.setIfInBounds_toArray, List.set_cons_zero, List.set_cons_succ]
  refine lg_take (n := 6) (v := ?_) 2 (some 36) rfl rfl (by kernel_rfl) (by kernel_rfl) (by kernel_rfl) (by kernel_rfl) (by kernel_rfl) (fun _ _ _ h => h) (by rfl) hI ?_ ?_
  rotate_left
  · ((intro w hSw; (try dsimp only at hSw); go_simp); (try with_reducible rfl))
  try simp only [Act.put, List.setIfInBounds_toArray, List.set_cons_zero, List.set_cons_succ]
  refine lg_one (n := 5) 3 rfl (by kernel_rfl) (by rfl) ?_
  go_simp
  go_at_call 12
  refine ((note_ok w8 t3 (⟨6, 0, 2, ⟨true, v.B, v.m, v.d, v.vs⟩, ⟨false, none, 0, 0, []⟩⟩ : ChD) Kt38.out.at_ ⟨AV8.out, VlD.none_at _⟩ (by rw [Nt3.out.1]; omega) (by rw [Nt3.out.2]; omega)).mono (fun e w' h => (NwAns.rn (b0 := w.heap.size) h).at 0 (by rw [Pt3.out, (show (⟨6, 0, 2, ⟨true, v.B, v.m, v.d, v.vs⟩, ⟨false, none, 0, 0, []⟩⟩ : ChD).p = kC2 by unfold ChD.p VlD.p kC2 zs10 noV; rw [HVs.out])]; exact k4.1))).mono ?_
  rintro e w9 ⟨t4, rfl, hk, hp, hm⟩
  have HM9 := Lib.hid (HM8.out.trans hm (fun _ _ h => h))
  have hz9 := hm.size
  have HB9 := Lib.hid (HB8.out.keep hm)
  have Kt19 := Lib.hid (Kt18.out.keep hm)
  have Kt29 := Lib.hid (Kt28.out.keep hm)
  have Kt39 := Lib.hid (Kt38.out.keep hm)
  clear hm
  have Kt49 := Lib.hid hk
  rw [if_pos rfl, Pt3.out, (show (⟨6, 0, 2, ⟨true, v.B, v.m, v.d, v.vs⟩, ⟨false, none, 0, 0, []⟩⟩ : ChD).p = kC2 by unfold ChD.p VlD.p kC2 zs10 noV; rw [HVs.out]), k4.2] at hp
  have Pt4 : Hid (t4.p = kT4) := hp
  have Nt4 : Hid (t4.n = 2 ∧ t4.m = 1) := ⟨by have := hk.at_.nL; rw [hp] at this; exact this.symm, by have := hk.at_.nS; rw [hp] at this; exact this.symm⟩
  clear hk hp
  clear hI
  have hI := (show (fun W : World => W.cell? ⟨w1.heap.size, 0, none⟩ = some (.int .i64 t3.id) ∧ W.cell? ⟨w1.heap.size, 1, none⟩ = some (.int .i64 t3.st) ∧ W.cell? ⟨w1.heap.size, 2, none⟩ = some (.int .i64 t3.f) ∧ W.cell? ⟨w1.heap.size, 3, none⟩ = some (.int .i64 t3.l) ∧ W.cell? ⟨w1.heap.size, 4, none⟩ = some (.slice t3.A t3.n t3.c) ∧ W.cell? ⟨w1.heap.size, 5, none⟩ = some (.slice t3.B t3.m t3.d)) _ from HB9.out.cells)
  refine ⟨Held.yes hI, ?_⟩
  try simp only [Act.put, List.setIfInBounds_toArray, List.set_cons_zero, List.set_cons_succ]
  refine lg_take (n := 4) (v := ?_) 4 (some 33) rfl rfl (by kernel_rfl) (by kernel_rfl) (by kernel_rfl) (by kernel_rfl) (by kernel_rfl) (fun _ _ _ h => h) (by rfl) hI ?_ ?_
  rotate_left
  · ((intro w hSw; (try dsimp only at hSw); go_simp); (try with_reducible rfl))
  try simp only [Act.put, List.setIfInBounds_toArray, List.set_cons_zero, List.set_cons_succ]
  refine lg_take (n := 3) (v := ?_) 5 (some 38) rfl rfl (by kernel_rfl) (by kernel_rfl) (by kernel_rfl) (by kernel_rfl) (by kernel_rfl) (fun _ _ _ h => h) (by rfl) hI ?_ ?_
  rotate_left
  · ((intro w hSw; (try dsimp only at hSw); go_simp); (try with_reducible rfl))
  try simp only [Act.put, List.setIfInBounds_toArray, List.set_cons_zero, List.set_cons_succ]
  refine lg_pure (n := 2) (v := ?_) 6 (some 39) rfl rfl (by kernel_rfl) (by kernel_rfl) (by kernel_rfl) (by kernel_rfl) (fun _ _ _ h => h) (by rfl) hI ?_ ?_
  rotate_left
  · ((intro w; go_simp); (try with_reducible rfl))
  try simp only [Act.put, List.setIfInBounds_toArray, List.set_cons_zero, List.set_cons_succ]
  have f0 := HB9.out.fz 0
  have f1 := HB9.out.fz 1
  have f2 := HB9.out.fz 2
  have f3 := HB9.out.fz 3
  have f4 := HB9.out.fz 4
  have f5 := HB9.out.fz 5
  obtain ⟨c0, c1, c2, c3, c4, c5⟩ : w9.cell? ⟨w1.heap.size, 0, none⟩ = some (.int .i64 t3.id) ∧ w9.cell? ⟨w1.heap.size, 1, none⟩ = some (.int .i64 t3.st) ∧ w9.cell? ⟨w1.heap.size, 2, none⟩ = some (.int .i64 t3.f) ∧ w9.cell? ⟨w1.heap.size, 3, none⟩ = some (.int .i64 t3.l) ∧ w9.cell? ⟨w1.heap.size, 4, none⟩ = some (.slice t3.A t3.n t3.c) ∧ w9.cell? ⟨w1.heap.size, 5, none⟩ = some (.slice t3.B t3.m t3.d) := HB9.out.cells
  obtain ⟨w10, hw10⟩ : ∃ w10, (((((w9.setCell ⟨w1.heap.size, 0, none⟩ (.int .i64 t4.id)).setCell ⟨w1.heap.size, 1, none⟩ (.int .i64 t4.st)).setCell ⟨w1.heap.size, 2, none⟩ (.int .i64 t4.f)).setCell ⟨w1.heap.size, 3, none⟩ (.int .i64 t4.l)).setCell ⟨w1.heap.size, 4, none⟩ (.slice t4.A t4.n t4.c)).setCell ⟨w1.heap.size, 5, none⟩ (.slice t4.B t4.m t4.d) = w10 := ⟨_, rfl⟩
  have hq10 : stT w9 (w1.heap.size) t4 = w10 := hw10
  have hs10 : Mod (fun k => k = w1.heap.size) w9 w10 := by rw [← hq10]; exact stT_mod w9 (w1.heap.size) t4
  have HM10 : Hid (Mod (fun _ => False) w w10) := HM9.out.trans hs10 (fun k _ e => by omega)
  have hz10 := hs10.size
  have Kt110 := Lib.hid (Kt19.out.box HB9.out (by omega) hs10)
  have Kt210 := Lib.hid (Kt29.out.box HB9.out (by omega) hs10)
  have Kt310 := Lib.hid (Kt39.out.box HB9.out (by omega) hs10)
  have Kt410 := Lib.hid (Kt49.out.box HB9.out (by omega) hs10)
  have HB10 : Hid ((t4 : TxD).In w10 (w1.heap.size)) := by rw [← hq10]; exact HB9.out.set t4
  clear hq10 hs10
  refine lg_one (n := 1) 7 rfl (by kernel_rfl) (by rfl) ?_
  go_simp
  clear hI
  refine ⟨Held.no (by kernel_rfl), ?_⟩
  try simp only [Act.put]
  refine lg_one (n := 0) 8 rfl (by kernel_rfl) (by rfl) ?_
  go_simp
  refine ⟨Held.no (by kernel_rfl), ?_⟩
  try simp only [Act.put, List.setIfInBounds_toArray, List.set_cons_zero, List.set_cons_succ]
  refine wpLate_done (by kernel_rfl) ?_ _
  clear HVs AV8 HD f0 f1 f2 f3 f4 f5 c0 c1 c2 c3 c4 c5
  obtain ⟨c0, c1, c2, c3, c4, c5⟩ : w10.cell? ⟨w1.heap.size, 0, none⟩ = some (.int .i64 t4.id) ∧ w10.cell? ⟨w1.heap.size, 1, none⟩ = some (.int .i64 t4.st) ∧ w10.cell? ⟨w1.heap.size, 2, none⟩ = some (.int .i64 t4.f) ∧ w10.cell? ⟨w1.heap.size, 3, none⟩ = some (.int .i64 t4.l) ∧ w10.cell? ⟨w1.heap.size, 4, none⟩ = some (.slice t4.A t4.n t4.c) ∧ w10.cell? ⟨w1.heap.size, 5, none⟩ = some (.slice t4.B t4.m t4.d) := HB10.out.cells
  have hpc : (⟨9, 0, 3, VlD.none, VlD.none⟩ : ChD).p = kC3 := rfl
  go_wp2_with fail
  refine ((note_ok w10 t4 ⟨9, 0, 3, VlD.none, VlD.none⟩ Kt410.out.at_ ⟨VlD.none_at _, VlD.none_at _⟩ (by rw [Nt4.out.1]; omega) (by rw [Nt4.out.2]; omega)).mono (fun e w' h => (NwAns.rn (b0 := w.heap.size) h).at 0 (by rw [Pt4.out, hpc]; exact k5.1))).mono ?_
  rintro e w11 ⟨t5, rfl, hk, hp, hm⟩
  have HM11 := Lib.hid (HM10.out.trans hm (fun _ _ h => h))
  have hz11 := hm.size
  have HB11 := Lib.hid (HB10.out.keep hm)
  have Kt111 := Lib.hid (Kt110.out.keep hm)
  have Kt211 := Lib.hid (Kt210.out.keep hm)
  have Kt311 := Lib.hid (Kt310.out.keep hm)
  have Kt411 := Lib.hid (Kt410.out.keep hm)
  clear hm
  have Kt511 := Lib.hid hk
  rw [if_pos rfl, Pt4.out, hpc, k5.2] at hp
  have Pt5 : Hid (t5.p = kT5) := hp
  have Nt5 : Hid (t5.n = 3 ∧ t5.m = 1) := ⟨by have := hk.at_.nL; rw [hp] at this; exact this.symm, by have := hk.at_.nS; rw [hp] at this; exact this.symm⟩
  clear hk hp
  clear hpc hw10 c0 c1 c2 c3 c4 c5
  have f0 := HB11.out.fz 0
  have f1 := HB11.out.fz 1
  have f2 := HB11.out.fz 2
  have f3 := HB11.out.fz 3
  have f4 := HB11.out.fz 4
  have f5 := HB11.out.fz 5
  obtain ⟨c0, c1, c2, c3, c4, c5⟩ : w11.cell? ⟨w1.heap.size, 0, none⟩ = some (.int .i64 t4.id) ∧ w11.cell? ⟨w1.heap.size, 1, none⟩ = some (.int .i64 t4.st) ∧ w11.cell? ⟨w1.heap.size, 2, none⟩ = some (.int .i64 t4.f) ∧ w11.cell? ⟨w1.heap.size, 3, none⟩ = some (.int .i64 t4.l) ∧ w11.cell? ⟨w1.heap.size, 4, none⟩ = some (.slice t4.A t4.n t4.c) ∧ w11.cell? ⟨w1.heap.size, 5, none⟩ = some (.slice t4.B t4.m t4.d) := HB11.out.cells
  obtain ⟨w12, hw12⟩ : ∃ w12, (((((w11.setCell ⟨w1.heap.size, 0, none⟩ (.int .i64 t5.id)).setCell ⟨w1.heap.size, 1, none⟩ (.int .i64 t5.st)).setCell ⟨w1.heap.size, 2, none⟩ (.int .i64 t5.f)).setCell ⟨w1.heap.size, 3, none⟩ (.int .i64 t5.l)).setCell ⟨w1.heap.size, 4, none⟩ (.slice t5.A t5.n t5.c)).setCell ⟨w1.heap.size, 5, none⟩ (.slice t5.B t5.m t5.d) = w12 := ⟨_, rfl⟩
  have hq12 : stT w11 (w1.heap.size) t5 = w12 := hw12
  have hs12 : Mod (fun k => k = w1.heap.size) w11 w12 := by rw [← hq12]; exact stT_mod w11 (w1.heap.size) t5
  have HM12 : Hid (Mod (fun _ => False) w w12) := HM11.out.trans hs12 (fun k _ e => by omega)
  have hz12 := hs12.size
  have Kt112 := Lib.hid (Kt111.out.box HB11.out (by omega) hs12)
  have Kt212 := Lib.hid (Kt211.out.box HB11.out (by omega) hs12)
  have Kt312 := Lib.hid (Kt311.out.box HB11.out (by omega) hs12)
  have Kt412 := Lib.hid (Kt411.out.box HB11.out (by omega) hs12)
  have Kt512 := Lib.hid (Kt511.out.box HB11.out (by omega) hs12)
  have HB12 : Hid ((t5 : TxD).In w12 (w1.heap.size)) := by rw [← hq12]; exact HB11.out.set t5
  clear hq12 hs12
  obtain ⟨d0, d1, d2, d3, d4, d5⟩ : w12.cell? ⟨w1.heap.size, 0, none⟩ = some (.int .i64 t5.id) ∧ w12.cell? ⟨w1.heap.size, 1, none⟩ = some (.int .i64 t5.st) ∧ w12.cell? ⟨w1.heap.size, 2, none⟩ = some (.int .i64 t5.f) ∧ w12.cell? ⟨w1.heap.size, 3, none⟩ = some (.int .i64 t5.l) ∧ w12.cell? ⟨w1.heap.size, 4, none⟩ = some (.slice t5.A t5.n t5.c) ∧ w12.cell? ⟨w1.heap.size, 5, none⟩ = some (.slice t5.B t5.m t5.d) := HB12.out.cells
  go_wp2_with fail
  refine ((above_ok w12 t5 Kt512.out.at_ (by rw [Nt5.out.1]; omega) (by rw [Nt5.out.2]; omega) 0).mono (fun e w' h => h.at 0 2 (by rw [Pt5.out]; exact k6.1) (by rw [if_pos rfl, Pt5.out]; exact k6.2))).mono ?_
  rintro e w13 ⟨rfl, hm⟩
  have HM13 := Lib.hid (HM12.out.trans hm (fun _ _ h => h))
  have hz13 := hm.size
  have HB13 := Lib.hid (HB12.out.keep hm)
  have Kt113 := Lib.hid (Kt112.out.keep hm)
  have Kt213 := Lib.hid (Kt212.out.keep hm)
  have Kt313 := Lib.hid (Kt312.out.keep hm)
  have Kt413 := Lib.hid (Kt412.out.keep hm)
  have Kt513 := Lib.hid (Kt512.out.keep hm)
  clear hm hw12 f0 f1 f2 f3 f4 f5 c0 c1 c2 c3 c4 c5 d0 d1 d2 d3 d4 d5
  obtain ⟨c0, c1, c2, c3, c4, c5⟩ : w13.cell? ⟨w1.heap.size, 0, none⟩ = some (.int .i64 t5.id) ∧ w13.cell? ⟨w1.heap.size, 1, none⟩ = some (.int .i64 t5.st) ∧ w13.cell? ⟨w1.heap.size, 2, none⟩ = some (.int .i64 t5.f) ∧ w13.cell? ⟨w1.heap.size, 3, none⟩ = some (.int .i64 t5.l) ∧ w13.cell? ⟨w1.heap.size, 4, none⟩ = some (.slice t5.A t5.n t5.c) ∧ w13.cell? ⟨w1.heap.size, 5, none⟩ = some (.slice t5.B t5.m t5.d) := HB13.out.cells
  obtain ⟨w14, hw14⟩ : ∃ w14, w13.alloc (.cells #[.int .i64 t5.id, .int .i64 t5.st, .int .i64 t5.f, .int .i64 t5.l, .slice t5.A t5.n t5.c, .slice t5.B t5.m t5.d] 25) = w14 := ⟨_, rfl⟩
  have ha14 : Mod (fun _ => False) w13 w14 := by rw [← hw14]; exact (Mod.refl _ w13).alloc _
  have hz14 : w13.heap.size + 1 ≤ w14.heap.size := by rw [← hw14]; simp
  have HS14 : Hid ((t5 : TxD).In w14 w13.heap.size) := by rw [← hw14]; exact TxD.In.new w13 t5
  have HM14 := Lib.hid (HM13.out.trans ha14 (fun _ _ h => h))
  have HB14 := Lib.hid (HB13.out.keep ha14)
  have Kt114 := Lib.hid (Kt113.out.keep ha14)
  have Kt214 := Lib.hid (Kt213.out.keep ha14)
  have Kt314 := Lib.hid (Kt313.out.keep ha14)
  have Kt414 := Lib.hid (Kt413.out.keep ha14)
  have Kt514 := Lib.hid (Kt513.out.keep ha14)
  clear ha14
  go_wp2_with fail
  refine (kept_ok w14 (some ⟨w13.heap.size, 0, none⟩) 1 1 [t5] (Xs.one HS14.out Kt514.out.at_) (by omega) (fun t ht => by simp at ht; rw [ht, Pt5.out]; exact ltB_small (by decide)) 0).mono ?_
  rintro e w15 ⟨rfl, hm⟩
  have hkk : kept 0 (pt [t5]) = 14 := by show kept 0 [t5.p] = 14; rw [Pt5.out]; exact k7
  rw [hkk]
  clear hkk
  have HM15 := Lib.hid (HM14.out.trans hm (fun _ _ h => h))
  have hz15 := hm.size
  have HB15 := Lib.hid (HB14.out.keep hm)
  have HS15 := Lib.hid (HS14.out.keep hm)
  have Kt115 := Lib.hid (Kt114.out.keep hm)
  have Kt215 := Lib.hid (Kt214.out.keep hm)
  have Kt315 := Lib.hid (Kt314.out.keep hm)
  have Kt415 := Lib.hid (Kt414.out.keep hm)
  have Kt515 := Lib.hid (Kt514.out.keep hm)
  clear hm hw14 c0 c1 c2 c3 c4 c5
  obtain ⟨c0, c1, c2, c3, c4, c5⟩ : w15.cell? ⟨w1.heap.size, 0, none⟩ = some (.int .i64 t5.id) ∧ w15.cell? ⟨w1.heap.size, 1, none⟩ = some (.int .i64 t5.st) ∧ w15.cell? ⟨w1.heap.size, 2, none⟩ = some (.int .i64 t5.f) ∧ w15.cell? ⟨w1.heap.size, 3, none⟩ = some (.int .i64 t5.l) ∧ w15.cell? ⟨w1.heap.size, 4, none⟩ = some (.slice t5.A t5.n t5.c) ∧ w15.cell? ⟨w1.heap.size, 5, none⟩ = some (.slice t5.B t5.m t5.d) := HB15.out.cells
  go_wp2_with fail
  refine ((undo_ok w15 t5 Kt515.out.at_ (by rw [Nt5.out.1]; omega) (by rw [Nt5.out.2]; omega)).mono (fun e w' h => (UnAns.ru (b0 := w.heap.size) h).at 0 (by rw [Pt5.out]; exact k8.1))).mono ?_
  rintro e w16 ⟨t6, c6, rfl, hk, ha, hp, hpc, hm⟩
  have HM16 := Lib.hid (HM15.out.trans hm (fun _ _ h => h))
  have hz16 := hm.size
  have HB16 := Lib.hid (HB15.out.keep hm)
  have HS16 := Lib.hid (HS15.out.keep hm)
  have Kt116 := Lib.hid (Kt115.out.keep hm)
  have Kt216 := Lib.hid (Kt215.out.keep hm)
  have Kt316 := Lib.hid (Kt315.out.keep hm)
  have Kt416 := Lib.hid (Kt415.out.keep hm)
  have Kt516 := Lib.hid (Kt515.out.keep hm)
  clear hm
  have Kt616 := Lib.hid hk
  rw [if_pos rfl, Pt5.out, k8.2.1] at hp
  have Pt6 : Hid (t6.p = kT6) := hp
  have Nt6 : Hid (t6.n = 2 ∧ t6.m = 1) := ⟨by have := hk.at_.nL; rw [hp] at this; exact this.symm, by have := hk.at_.nS; rw [hp] at this; exact this.symm⟩
  clear hk hp
  have Ac616 := Lib.hid ha
  have HL6 : Hid (c6.lsn = 9) := by rw [if_pos rfl, Pt5.out, k8.2.2] at hpc; exact congrArg Cp.lsn hpc
  clear ha hpc c0 c1 c2 c3 c4 c5
  have ha : Mod (fun _ => False) w16 w16 := Mod.refl _ _
  have hT0 := HB16.out
  obtain ⟨w17, hw17⟩ : ∃ w17, w16.alloc (.cells #[.int .i64 0, .int .i64 0, .int .i64 0, .bool false, .slice none 0 0, .bool false, .slice none 0 0] 30) = w17 := ⟨_, rfl⟩
  have hb : Mod (fun _ => False) w16 w17 := by rw [← hw17]; exact (Mod.refl _ _).alloc _
  have hz17 : w16.heap.size + 1 ≤ w17.heap.size := by rw [← hw17]; simp
  have hC0 : ChD.zero.In w17 w16.heap.size := by rw [← hw17]; exact ChD.In.new w16 ChD.zero
  have hT1 := hT0.keep hb
  have vg0 := hT1.fz 0
  have vg1 := hT1.fz 1
  have vg2 := hT1.fz 2
  have vg3 := hT1.fz 3
  have vg4 := hT1.fz 4
  have vg5 := hT1.fz 5
  obtain ⟨vr0, vr1, vr2, vr3, vr4, vr5⟩ : w17.cell? ⟨w1.heap.size, 0, none⟩ = some (.int .i64 t5.id) ∧ w17.cell? ⟨w1.heap.size, 1, none⟩ = some (.int .i64 t5.st) ∧ w17.cell? ⟨w1.heap.size, 2, none⟩ = some (.int .i64 t5.f) ∧ w17.cell? ⟨w1.heap.size, 3, none⟩ = some (.int .i64 t5.l) ∧ w17.cell? ⟨w1.heap.size, 4, none⟩ = some (.slice t5.A t5.n t5.c) ∧ w17.cell? ⟨w1.heap.size, 5, none⟩ = some (.slice t5.B t5.m t5.d) := hT1.cells
  obtain ⟨w18, hw18⟩ : ∃ w18, (((((w17.setCell ⟨w1.heap.size, 0, none⟩ (.int .i64 t6.id)).setCell ⟨w1.heap.size, 1, none⟩ (.int .i64 t6.st)).setCell ⟨w1.heap.size, 2, none⟩ (.int .i64 t6.f)).setCell ⟨w1.heap.size, 3, none⟩ (.int .i64 t6.l)).setCell ⟨w1.heap.size, 4, none⟩ (.slice t6.A t6.n t6.c)).setCell ⟨w1.heap.size, 5, none⟩ (.slice t6.B t6.m t6.d) = w18 := ⟨_, rfl⟩
  have hq : stT w17 (w1.heap.size) t6 = w18 := hw18
  have hc : Mod (fun k => k = w1.heap.size) w17 w18 := by rw [← hq]; exact stT_mod _ _ t6
  have hz18 := hc.size
  have hT2 : (t6 : TxD).In w18 (w1.heap.size) := by rw [← hq]; exact hT1.set t6
  clear hq
  have hC1 := hC0.mod hc (fun e => by omega)
  have vk0 := hC1.fz 0
  have vk1 := hC1.fz 1
  have vk2 := hC1.fz 2
  have vk3 := hC1.fz 3
  have vk4 := hC1.fz 4
  have vk5 := hC1.fz 5
  have vk6 := hC1.fz 6
  obtain ⟨vs0, vs1, vs2, vs3, vs4, vs5, vs6⟩ : w18.cell? ⟨w16.heap.size, 0, none⟩ = some (.int .i64 0) ∧ w18.cell? ⟨w16.heap.size, 1, none⟩ = some (.int .i64 0) ∧ w18.cell? ⟨w16.heap.size, 2, none⟩ = some (.int .i64 0) ∧ w18.cell? ⟨w16.heap.size, 3, none⟩ = some (.bool false) ∧ w18.cell? ⟨w16.heap.size, 4, none⟩ = some (.slice none 0 0) ∧ w18.cell? ⟨w16.heap.size, 5, none⟩ = some (.bool false) ∧ w18.cell? ⟨w16.heap.size, 6, none⟩ = some (.slice none 0 0) := hC1.cells
  obtain ⟨w19, hw19⟩ : ∃ w19, ((((((w18.setCell ⟨w16.heap.size, 0, none⟩ (.int .i64 c6.lsn)).setCell ⟨w16.heap.size, 1, none⟩ (.int .i64 c6.page)).setCell ⟨w16.heap.size, 2, none⟩ (.int .i64 c6.key)).setCell ⟨w16.heap.size, 3, none⟩ (.bool c6.o.is)).setCell ⟨w16.heap.size, 4, none⟩ (.slice c6.o.B c6.o.m c6.o.d)).setCell ⟨w16.heap.size, 5, none⟩ (.bool c6.v.is)).setCell ⟨w16.heap.size, 6, none⟩ (.slice c6.v.B c6.v.m c6.v.d) = w19 := ⟨_, rfl⟩
  have hq : stC w18 (w16.heap.size) 0 c6 = w19 := hw19
  have hd : Mod (fun k => k = w16.heap.size) w18 w19 := by rw [← hq]; exact stC_mod _ _ 0 c6
  have hz19 := hd.size
  have HC19 : Hid ((c6 : ChD).In w19 (w16.heap.size)) := by rw [← hq]; exact hC1.set c6
  clear hq
  have HB19 : Hid ((t6 : TxD).In w19 (w1.heap.size)) := hT2.mod hd (fun e => by omega)
  have hm0 : Mod (fun k => k = w1.heap.size) w16 w19 := (((ha.trans hb (fun _ _ h => h)).mono (fun _ _ h => h.elim)).trans hc (fun k hk e => e)).trans hd (fun k hk e => by omega)
  have HM19 : Hid (Mod (fun _ => False) w w19) := HM16.out.trans hm0 (fun k _ e => by omega)
  have HS19 := Lib.hid (HS16.out.mod hm0 (fun e => by omega))
  have Kt119 := Lib.hid (Kt116.out.box HB16.out (by omega) hm0)
  have Kt219 := Lib.hid (Kt216.out.box HB16.out (by omega) hm0)
  have Kt319 := Lib.hid (Kt316.out.box HB16.out (by omega) hm0)
  have Kt419 := Lib.hid (Kt416.out.box HB16.out (by omega) hm0)
  have Kt519 := Lib.hid (Kt516.out.box HB16.out (by omega) hm0)
  have Kt619 := Lib.hid (Kt616.out.box HB16.out (by omega) hm0)
  have Ac619 := Lib.hid (Ac616.out.box HB16.out hm0)
  clear ha hb hc hd hT0 hT1 hT2 hC0 hC1 hm0
  obtain ⟨d0, d1, d2, d3, d4, d5⟩ : w19.cell? ⟨w1.heap.size, 0, none⟩ = some (.int .i64 t6.id) ∧ w19.cell? ⟨w1.heap.size, 1, none⟩ = some (.int .i64 t6.st) ∧ w19.cell? ⟨w1.heap.size, 2, none⟩ = some (.int .i64 t6.f) ∧ w19.cell? ⟨w1.heap.size, 3, none⟩ = some (.int .i64 t6.l) ∧ w19.cell? ⟨w1.heap.size, 4, none⟩ = some (.slice t6.A t6.n t6.c) ∧ w19.cell? ⟨w1.heap.size, 5, none⟩ = some (.slice t6.B t6.m t6.d) := HB19.out.cells
  go_wp2_with fail
  refine ((above_ok w19 t6 Kt619.out.at_ (by rw [Nt6.out.1]; omega) (by rw [Nt6.out.2]; omega) 0).mono (fun e w' h => h.at 0 1 (by rw [Pt6.out]; exact k9.1) (by rw [if_pos rfl, Pt6.out]; exact k9.2))).mono ?_
  rintro e w20 ⟨rfl, hm⟩
  have HM20 := Lib.hid (HM19.out.trans hm (fun _ _ h => h))
  have hz20 := hm.size
  have HB20 := Lib.hid (HB19.out.keep hm)
  have HS20 := Lib.hid (HS19.out.keep hm)
  have HC20 := Lib.hid (HC19.out.keep hm)
  have Kt120 := Lib.hid (Kt119.out.keep hm)
  have Kt220 := Lib.hid (Kt219.out.keep hm)
  have Kt320 := Lib.hid (Kt319.out.keep hm)
  have Kt420 := Lib.hid (Kt419.out.keep hm)
  have Kt520 := Lib.hid (Kt519.out.keep hm)
  have Kt620 := Lib.hid (Kt619.out.keep hm)
  have Ac620 := Lib.hid (Ac619.out.keep hm)
  clear hm vg0 vg1 vg2 vg3 vg4 vg5 vr0 vr1 vr2 vr3 vr4 vr5 vk0 vk1 vk2 vk3 vk4 vk5 vk6 vs0 vs1 vs2 vs3 vs4 vs5 vs6 hw17 hw18 hw19 d0 d1 d2 d3 d4 d5
  obtain ⟨c0, c1, c2, c3, c4, c5⟩ : w20.cell? ⟨w1.heap.size, 0, none⟩ = some (.int .i64 t6.id) ∧ w20.cell? ⟨w1.heap.size, 1, none⟩ = some (.int .i64 t6.st) ∧ w20.cell? ⟨w1.heap.size, 2, none⟩ = some (.int .i64 t6.f) ∧ w20.cell? ⟨w1.heap.size, 3, none⟩ = some (.int .i64 t6.l) ∧ w20.cell? ⟨w1.heap.size, 4, none⟩ = some (.slice t6.A t6.n t6.c) ∧ w20.cell? ⟨w1.heap.size, 5, none⟩ = some (.slice t6.B t6.m t6.d) := HB20.out.cells
  obtain ⟨d0, d1, d2, d3, d4, d5, d6⟩ : w20.cell? ⟨w16.heap.size, 0, none⟩ = some (.int .i64 c6.lsn) ∧ w20.cell? ⟨w16.heap.size, 1, none⟩ = some (.int .i64 c6.page) ∧ w20.cell? ⟨w16.heap.size, 2, none⟩ = some (.int .i64 c6.key) ∧ w20.cell? ⟨w16.heap.size, 3, none⟩ = some (.bool c6.o.is) ∧ w20.cell? ⟨w16.heap.size, 4, none⟩ = some (.slice c6.o.B c6.o.m c6.o.d) ∧ w20.cell? ⟨w16.heap.size, 5, none⟩ = some (.bool c6.v.is) ∧ w20.cell? ⟨w16.heap.size, 6, none⟩ = some (.slice c6.v.B c6.v.m c6.v.d) := HC20.out.cells
  have hf : t6.f = 5 := congrArg Tp.f Pt6.out
  have hl : t6.l = 9 := congrArg Tp.l Pt6.out
  rw [hf] at c2
  rw [hl] at c3
  rw [HL6.out] at d0
  clear hf hl
  go_wp2
  go_ret
  exact ⟨rfl, HM20.out⟩
end Go.Proofs.Ytidcmolkolcliaa
