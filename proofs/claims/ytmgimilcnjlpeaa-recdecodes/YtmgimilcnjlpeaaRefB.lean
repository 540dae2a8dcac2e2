/-
  bobbinref06: put, value, has.
-/
import Derived.Test.YtmgimilcnjlpeaaRefS
namespace Go.Proofs.Ytmgimilcnjlpeaa
open Go Go.RowKit

set_option maxRecDepth 100000 in
theorem rput_1 (w : World) (x : RcD) (n : Int) :
    Calls Try.prog 41 #[x.val, .int .u8 116, .int .i64 n] w fun e w' => e = .returned (.agg ({ x with f := upd x.f 1 n } : RcD).cells) ∧ Mod (fun _ => False) w w' := by
  have hI := RcD.In.new (w.alloc (.cells ({ x with f := upd x.f 1 n } : RcD).cells 26)) ({ x with f := upd x.f 1 n } : RcD)
  rw [World.size_alloc] at hI
  have HI := Lib.hid hI
  have HM : Hid (Mod (fun _ => False) w ((w.alloc (.cells ({ x with f := upd x.f 1 n } : RcD).cells 26)).alloc (.cells ({ x with f := upd x.f 1 n } : RcD).cells 26))) := ((Mod.refl _ w).alloc _).alloc _
  clear hI
  go_enter Try.func41, Try.ntmps41
  go_wp2
  change bodyPost _ _ _ _ _ ((w.alloc (.cells ({ x with f := upd x.f 1 n } : RcD).cells 26)).alloc (.cells ({ x with f := upd x.f 1 n } : RcD).cells 26))
  generalize (w.alloc (.cells ({ x with f := upd x.f 1 n } : RcD).cells 26)).alloc (.cells ({ x with f := upd x.f 1 n } : RcD).cells 26) = w2 at *
  have r0 := HI.out.kind
  have r1 := HI.out.num (i := 1) (by omega) (by omega)
  have r2 := HI.out.num (i := 2) (by omega) (by omega)
  have r3 := HI.out.num (i := 3) (by omega) (by omega)
  have r4 := HI.out.num (i := 4) (by omega) (by omega)
  have r5 := HI.out.num (i := 5) (by omega) (by omega)
  have r6 := HI.out.num (i := 6) (by omega) (by omega)
  have r7 := HI.out.num (i := 7) (by omega) (by omega)
  have r8 := HI.out.num (i := 8) (by omega) (by omega)
  have r9 := HI.out.num (i := 9) (by omega) (by omega)
  have r10 := HI.out.c10
  have r11 := HI.out.c11
  have r12 := HI.out.c12
  have r13 := HI.out.c13
  refine bodyPost_ret (v := .agg ({ x with f := upd x.f 1 n } : RcD).cells) (by simp [results, Try.results41, go_sem, r0, r1, r2, r3, r4, r5, r6, r7, r8, r9, r10, r11, r12, r13]) rfl ?_
  exact ⟨rfl, HM.out⟩
set_option maxRecDepth 100000 in
theorem rput_2 (w : World) (x : RcD) (n : Int) :
    Calls Try.prog 41 #[x.val, .int .u8 115, .int .i64 n] w fun e w' => e = .returned (.agg ({ x with f := upd x.f 2 n } : RcD).cells) ∧ Mod (fun _ => False) w w' := by
  have hI := RcD.In.new (w.alloc (.cells ({ x with f := upd x.f 2 n } : RcD).cells 26)) ({ x with f := upd x.f 2 n } : RcD)
  rw [World.size_alloc] at hI
  have HI := Lib.hid hI
  have HM : Hid (Mod (fun _ => False) w ((w.alloc (.cells ({ x with f := upd x.f 2 n } : RcD).cells 26)).alloc (.cells ({ x with f := upd x.f 2 n } : RcD).cells 26))) := ((Mod.refl _ w).alloc _).alloc _
  clear hI
  go_enter Try.func41, Try.ntmps41
  go_wp2
  change bodyPost _ _ _ _ _ ((w.alloc (.cells ({ x with f := upd x.f 2 n } : RcD).cells 26)).alloc (.cells ({ x with f := upd x.f 2 n } : RcD).cells 26))
  generalize (w.alloc (.cells ({ x with f := upd x.f 2 n } : RcD).cells 26)).alloc (.cells ({ x with f := upd x.f 2 n } : RcD).cells 26) = w2 at *
  have r0 := HI.out.kind
  have r1 := HI.out.num (i := 1) (by omega) (by omega)
  have r2 := HI.out.num (i := 2) (by omega) (by omega)
  have r3 := HI.out.num (i := 3) (by omega) (by omega)
  have r4 := HI.out.num (i := 4) (by omega) (by omega)
  have r5 := HI.out.num (i := 5) (by omega) (by omega)
  have r6 := HI.out.num (i := 6) (by omega) (by omega)
  have r7 := HI.out.num (i := 7) (by omega) (by omega)
  have r8 := HI.out.num (i := 8) (by omega) (by omega)
  have r9 := HI.out.num (i := 9) (by omega) (by omega)
  have r10 := HI.out.c10
  have r11 := HI.out.c11
  have r12 := HI.out.c12
  have r13 := HI.out.c13
  refine bodyPost_ret (v := .agg ({ x with f := upd x.f 2 n } : RcD).cells) (by simp [results, Try.results41, go_sem, r0, r1, r2, r3, r4, r5, r6, r7, r8, r9, r10, r11, r12, r13]) rfl ?_
  exact ⟨rfl, HM.out⟩
set_option maxRecDepth 100000 in
theorem rput_3 (w : World) (x : RcD) (n : Int) :
    Calls Try.prog 41 #[x.val, .int .u8 112, .int .i64 n] w fun e w' => e = .returned (.agg ({ x with f := upd x.f 3 n } : RcD).cells) ∧ Mod (fun _ => False) w w' := by
  have hI := RcD.In.new (w.alloc (.cells ({ x with f := upd x.f 3 n } : RcD).cells 26)) ({ x with f := upd x.f 3 n } : RcD)
  rw [World.size_alloc] at hI
  have HI := Lib.hid hI
  have HM : Hid (Mod (fun _ => False) w ((w.alloc (.cells ({ x with f := upd x.f 3 n } : RcD).cells 26)).alloc (.cells ({ x with f := upd x.f 3 n } : RcD).cells 26))) := ((Mod.refl _ w).alloc _).alloc _
  clear hI
  go_enter Try.func41, Try.ntmps41
  go_wp2
  change bodyPost _ _ _ _ _ ((w.alloc (.cells ({ x with f := upd x.f 3 n } : RcD).cells 26)).alloc (.cells ({ x with f := upd x.f 3 n } : RcD).cells 26))
  generalize (w.alloc (.cells ({ x with f := upd x.f 3 n } : RcD).cells 26)).alloc (.cells ({ x with f := upd x.f 3 n } : RcD).cells 26) = w2 at *
  have r0 := HI.out.kind
  have r1 := HI.out.num (i := 1) (by omega) (by omega)
  have r2 := HI.out.num (i := 2) (by omega) (by omega)
  have r3 := HI.out.num (i := 3) (by omega) (by omega)
  have r4 := HI.out.num (i := 4) (by omega) (by omega)
  have r5 := HI.out.num (i := 5) (by omega) (by omega)
  have r6 := HI.out.num (i := 6) (by omega) (by omega)
  have r7 := HI.out.num (i := 7) (by omega) (by omega)
  have r8 := HI.out.num (i := 8) (by omega) (by omega)
  have r9 := HI.out.num (i := 9) (by omega) (by omega)
  have r10 := HI.out.c10
  have r11 := HI.out.c11
  have r12 := HI.out.c12
  have r13 := HI.out.c13
  refine bodyPost_ret (v := .agg ({ x with f := upd x.f 3 n } : RcD).cells) (by simp [results, Try.results41, go_sem, r0, r1, r2, r3, r4, r5, r6, r7, r8, r9, r10, r11, r12, r13]) rfl ?_
  exact ⟨rfl, HM.out⟩
set_option maxRecDepth 100000 in
theorem rput_4 (w : World) (x : RcD) (n : Int) :
    Calls Try.prog 41 #[x.val, .int .u8 107, .int .i64 n] w fun e w' => e = .returned (.agg ({ x with f := upd x.f 4 n } : RcD).cells) ∧ Mod (fun _ => False) w w' := by
  have hI := RcD.In.new (w.alloc (.cells ({ x with f := upd x.f 4 n } : RcD).cells 26)) ({ x with f := upd x.f 4 n } : RcD)
  rw [World.size_alloc] at hI
  have HI := Lib.hid hI
  have HM : Hid (Mod (fun _ => False) w ((w.alloc (.cells ({ x with f := upd x.f 4 n } : RcD).cells 26)).alloc (.cells ({ x with f := upd x.f 4 n } : RcD).cells 26))) := ((Mod.refl _ w).alloc _).alloc _
  clear hI
  go_enter Try.func41, Try.ntmps41
  go_wp2
  change bodyPost _ _ _ _ _ ((w.alloc (.cells ({ x with f := upd x.f 4 n } : RcD).cells 26)).alloc (.cells ({ x with f := upd x.f 4 n } : RcD).cells 26))
  generalize (w.alloc (.cells ({ x with f := upd x.f 4 n } : RcD).cells 26)).alloc (.cells ({ x with f := upd x.f 4 n } : RcD).cells 26) = w2 at *
  have r0 := HI.out.kind
  have r1 := HI.out.num (i := 1) (by omega) (by omega)
  have r2 := HI.out.num (i := 2) (by omega) (by omega)
  have r3 := HI.out.num (i := 3) (by omega) (by omega)
  have r4 := HI.out.num (i := 4) (by omega) (by omega)
  have r5 := HI.out.num (i := 5) (by omega) (by omega)
  have r6 := HI.out.num (i := 6) (by omega) (by omega)
  have r7 := HI.out.num (i := 7) (by omega) (by omega)
  have r8 := HI.out.num (i := 8) (by omega) (by omega)
  have r9 := HI.out.num (i := 9) (by omega) (by omega)
  have r10 := HI.out.c10
  have r11 := HI.out.c11
  have r12 := HI.out.c12
  have r13 := HI.out.c13
  refine bodyPost_ret (v := .agg ({ x with f := upd x.f 4 n } : RcD).cells) (by simp [results, Try.results41, go_sem, r0, r1, r2, r3, r4, r5, r6, r7, r8, r9, r10, r11, r12, r13]) rfl ?_
  exact ⟨rfl, HM.out⟩
set_option maxRecDepth 100000 in
theorem rput_5 (w : World) (x : RcD) (n : Int) :
    Calls Try.prog 41 #[x.val, .int .u8 103, .int .i64 n] w fun e w' => e = .returned (.agg ({ x with f := upd x.f 5 n } : RcD).cells) ∧ Mod (fun _ => False) w w' := by
  have hI := RcD.In.new (w.alloc (.cells ({ x with f := upd x.f 5 n } : RcD).cells 26)) ({ x with f := upd x.f 5 n } : RcD)
  rw [World.size_alloc] at hI
  have HI := Lib.hid hI
  have HM : Hid (Mod (fun _ => False) w ((w.alloc (.cells ({ x with f := upd x.f 5 n } : RcD).cells 26)).alloc (.cells ({ x with f := upd x.f 5 n } : RcD).cells 26))) := ((Mod.refl _ w).alloc _).alloc _
  clear hI
  go_enter Try.func41, Try.ntmps41
  go_wp2
  change bodyPost _ _ _ _ _ ((w.alloc (.cells ({ x with f := upd x.f 5 n } : RcD).cells 26)).alloc (.cells ({ x with f := upd x.f 5 n } : RcD).cells 26))
  generalize (w.alloc (.cells ({ x with f := upd x.f 5 n } : RcD).cells 26)).alloc (.cells ({ x with f := upd x.f 5 n } : RcD).cells 26) = w2 at *
  have r0 := HI.out.kind
  have r1 := HI.out.num (i := 1) (by omega) (by omega)
  have r2 := HI.out.num (i := 2) (by omega) (by omega)
  have r3 := HI.out.num (i := 3) (by omega) (by omega)
  have r4 := HI.out.num (i := 4) (by omega) (by omega)
  have r5 := HI.out.num (i := 5) (by omega) (by omega)
  have r6 := HI.out.num (i := 6) (by omega) (by omega)
  have r7 := HI.out.num (i := 7) (by omega) (by omega)
  have r8 := HI.out.num (i := 8) (by omega) (by omega)
  have r9 := HI.out.num (i := 9) (by omega) (by omega)
  have r10 := HI.out.c10
  have r11 := HI.out.c11
  have r12 := HI.out.c12
  have r13 := HI.out.c13
  refine bodyPost_ret (v := .agg ({ x with f := upd x.f 5 n } : RcD).cells) (by simp [results, Try.results41, go_sem, r0, r1, r2, r3, r4, r5, r6, r7, r8, r9, r10, r11, r12, r13]) rfl ?_
  exact ⟨rfl, HM.out⟩
set_option maxRecDepth 100000 in
theorem rput_6 (w : World) (x : RcD) (n : Int) :
    Calls Try.prog 41 #[x.val, .int .u8 108, .int .i64 n] w fun e w' => e = .returned (.agg ({ x with f := upd x.f 6 n } : RcD).cells) ∧ Mod (fun _ => False) w w' := by
  have hI := RcD.In.new (w.alloc (.cells ({ x with f := upd x.f 6 n } : RcD).cells 26)) ({ x with f := upd x.f 6 n } : RcD)
  rw [World.size_alloc] at hI
  have HI := Lib.hid hI
  have HM : Hid (Mod (fun _ => False) w ((w.alloc (.cells ({ x with f := upd x.f 6 n } : RcD).cells 26)).alloc (.cells ({ x with f := upd x.f 6 n } : RcD).cells 26))) := ((Mod.refl _ w).alloc _).alloc _
  clear hI
  go_enter Try.func41, Try.ntmps41
  go_wp2
  change bodyPost _ _ _ _ _ ((w.alloc (.cells ({ x with f := upd x.f 6 n } : RcD).cells 26)).alloc (.cells ({ x with f := upd x.f 6 n } : RcD).cells 26))
  generalize (w.alloc (.cells ({ x with f := upd x.f 6 n } : RcD).cells 26)).alloc (.cells ({ x with f := upd x.f 6 n } : RcD).cells 26) = w2 at *
  have r0 := HI.out.kind
  have r1 := HI.out.num (i := 1) (by omega) (by omega)
  have r2 := HI.out.num (i := 2) (by omega) (by omega)
  have r3 := HI.out.num (i := 3) (by omega) (by omega)
  have r4 := HI.out.num (i := 4) (by omega) (by omega)
  have r5 := HI.out.num (i := 5) (by omega) (by omega)
  have r6 := HI.out.num (i := 6) (by omega) (by omega)
  have r7 := HI.out.num (i := 7) (by omega) (by omega)
  have r8 := HI.out.num (i := 8) (by omega) (by omega)
  have r9 := HI.out.num (i := 9) (by omega) (by omega)
  have r10 := HI.out.c10
  have r11 := HI.out.c11
  have r12 := HI.out.c12
  have r13 := HI.out.c13
  refine bodyPost_ret (v := .agg ({ x with f := upd x.f 6 n } : RcD).cells) (by simp [results, Try.results41, go_sem, r0, r1, r2, r3, r4, r5, r6, r7, r8, r9, r10, r11, r12, r13]) rfl ?_
  exact ⟨rfl, HM.out⟩
set_option maxRecDepth 100000 in
theorem rput_7 (w : World) (x : RcD) (n : Int) :
    Calls Try.prog 41 #[x.val, .int .u8 118, .int .i64 n] w fun e w' => e = .returned (.agg ({ x with f := upd x.f 7 n } : RcD).cells) ∧ Mod (fun _ => False) w w' := by
  have hI := RcD.In.new (w.alloc (.cells ({ x with f := upd x.f 7 n } : RcD).cells 26)) ({ x with f := upd x.f 7 n } : RcD)
  rw [World.size_alloc] at hI
  have HI := Lib.hid hI
  have HM : Hid (Mod (fun _ => False) w ((w.alloc (.cells ({ x with f := upd x.f 7 n } : RcD).cells 26)).alloc (.cells ({ x with f := upd x.f 7 n } : RcD).cells 26))) := ((Mod.refl _ w).alloc _).alloc _
  clear hI
  go_enter Try.func41, Try.ntmps41
  go_wp2
  change bodyPost _ _ _ _ _ ((w.alloc (.cells ({ x with f := upd x.f 7 n } : RcD).cells 26)).alloc (.cells ({ x with f := upd x.f 7 n } : RcD).cells 26))
  generalize (w.alloc (.cells ({ x with f := upd x.f 7 n } : RcD).cells 26)).alloc (.cells ({ x with f := upd x.f 7 n } : RcD).cells 26) = w2 at *
  have r0 := HI.out.kind
  have r1 := HI.out.num (i := 1) (by omega) (by omega)
  have r2 := HI.out.num (i := 2) (by omega) (by omega)
  have r3 := HI.out.num (i := 3) (by omega) (by omega)
  have r4 := HI.out.num (i := 4) (by omega) (by omega)
  have r5 := HI.out.num (i := 5) (by omega) (by omega)
  have r6 := HI.out.num (i := 6) (by omega) (by omega)
  have r7 := HI.out.num (i := 7) (by omega) (by omega)
  have r8 := HI.out.num (i := 8) (by omega) (by omega)
  have r9 := HI.out.num (i := 9) (by omega) (by omega)
  have r10 := HI.out.c10
  have r11 := HI.out.c11
  have r12 := HI.out.c12
  have r13 := HI.out.c13
  refine bodyPost_ret (v := .agg ({ x with f := upd x.f 7 n } : RcD).cells) (by simp [results, Try.results41, go_sem, r0, r1, r2, r3, r4, r5, r6, r7, r8, r9, r10, r11, r12, r13]) rfl ?_
  exact ⟨rfl, HM.out⟩
set_option maxRecDepth 100000 in
theorem rput_8 (w : World) (x : RcD) (n : Int) :
    Calls Try.prog 41 #[x.val, .int .u8 110, .int .i64 n] w fun e w' => e = .returned (.agg ({ x with f := upd x.f 8 n } : RcD).cells) ∧ Mod (fun _ => False) w w' := by
  have hI := RcD.In.new (w.alloc (.cells ({ x with f := upd x.f 8 n } : RcD).cells 26)) ({ x with f := upd x.f 8 n } : RcD)
  rw [World.size_alloc] at hI
  have HI := Lib.hid hI
  have HM : Hid (Mod (fun _ => False) w ((w.alloc (.cells ({ x with f := upd x.f 8 n } : RcD).cells 26)).alloc (.cells ({ x with f := upd x.f 8 n } : RcD).cells 26))) := ((Mod.refl _ w).alloc _).alloc _
  clear hI
  go_enter Try.func41, Try.ntmps41
  go_wp2
  change bodyPost _ _ _ _ _ ((w.alloc (.cells ({ x with f := upd x.f 8 n } : RcD).cells 26)).alloc (.cells ({ x with f := upd x.f 8 n } : RcD).cells 26))
  generalize (w.alloc (.cells ({ x with f := upd x.f 8 n } : RcD).cells 26)).alloc (.cells ({ x with f := upd x.f 8 n } : RcD).cells 26) = w2 at *
  have r0 := HI.out.kind
  have r1 := HI.out.num (i := 1) (by omega) (by omega)
  have r2 := HI.out.num (i := 2) (by omega) (by omega)
  have r3 := HI.out.num (i := 3) (by omega) (by omega)
  have r4 := HI.out.num (i := 4) (by omega) (by omega)
  have r5 := HI.out.num (i := 5) (by omega) (by omega)
  have r6 := HI.out.num (i := 6) (by omega) (by omega)
  have r7 := HI.out.num (i := 7) (by omega) (by omega)
  have r8 := HI.out.num (i := 8) (by omega) (by omega)
  have r9 := HI.out.num (i := 9) (by omega) (by omega)
  have r10 := HI.out.c10
  have r11 := HI.out.c11
  have r12 := HI.out.c12
  have r13 := HI.out.c13
  refine bodyPost_ret (v := .agg ({ x with f := upd x.f 8 n } : RcD).cells) (by simp [results, Try.results41, go_sem, r0, r1, r2, r3, r4, r5, r6, r7, r8, r9, r10, r11, r12, r13]) rfl ?_
  exact ⟨rfl, HM.out⟩
set_option maxRecDepth 100000 in
theorem rput_9 (w : World) (x : RcD) (n : Int) :
    Calls Try.prog 41 #[x.val, .int .u8 97, .int .i64 n] w fun e w' => e = .returned (.agg ({ x with f := upd x.f 9 n } : RcD).cells) ∧ Mod (fun _ => False) w w' := by
  have hI := RcD.In.new (w.alloc (.cells ({ x with f := upd x.f 9 n } : RcD).cells 26)) ({ x with f := upd x.f 9 n } : RcD)
  rw [World.size_alloc] at hI
  have HI := Lib.hid hI
  have HM : Hid (Mod (fun _ => False) w ((w.alloc (.cells ({ x with f := upd x.f 9 n } : RcD).cells 26)).alloc (.cells ({ x with f := upd x.f 9 n } : RcD).cells 26))) := ((Mod.refl _ w).alloc _).alloc _
  clear hI
  go_enter Try.func41, Try.ntmps41
  go_wp2
  change bodyPost _ _ _ _ _ ((w.alloc (.cells ({ x with f := upd x.f 9 n } : RcD).cells 26)).alloc (.cells ({ x with f := upd x.f 9 n } : RcD).cells 26))
  generalize (w.alloc (.cells ({ x with f := upd x.f 9 n } : RcD).cells 26)).alloc (.cells ({ x with f := upd x.f 9 n } : RcD).cells 26) = w2 at *
  have r0 := HI.out.kind
  have r1 := HI.out.num (i := 1) (by omega) (by omega)
  have r2 := HI.out.num (i := 2) (by omega) (by omega)
  have r3 := HI.out.num (i := 3) (by omega) (by omega)
  have r4 := HI.out.num (i := 4) (by omega) (by omega)
  have r5 := HI.out.num (i := 5) (by omega) (by omega)
  have r6 := HI.out.num (i := 6) (by omega) (by omega)
  have r7 := HI.out.num (i := 7) (by omega) (by omega)
  have r8 := HI.out.num (i := 8) (by omega) (by omega)
  have r9 := HI.out.num (i := 9) (by omega) (by omega)
  have r10 := HI.out.c10
  have r11 := HI.out.c11
  have r12 := HI.out.c12
  have r13 := HI.out.c13
  refine bodyPost_ret (v := .agg ({ x with f := upd x.f 9 n } : RcD).cells) (by simp [results, Try.results41, go_sem, r0, r1, r2, r3, r4, r5, r6, r7, r8, r9, r10, r11, r12, r13]) rfl ?_
  exact ⟨rfl, HM.out⟩
theorem rput_ok (w : World) (x : RcD) (i : Nat) (h1 : 1 ≤ i) (h9 : i ≤ 9) (n : Int) :
    Calls Try.prog 41 #[x.val, .int .u8 (letter i).toNat, .int .i64 n] w fun e w' => e = .returned (.agg ({ x with f := upd x.f i n } : RcD).cells) ∧ Mod (fun _ => False) w w' := by
  match i, h1, h9 with
  | 1, _, _ => exact rput_1 w x n
  | 2, _, _ => exact rput_2 w x n
  | 3, _, _ => exact rput_3 w x n
  | 4, _, _ => exact rput_4 w x n
  | 5, _, _ => exact rput_5 w x n
  | 6, _, _ => exact rput_6 w x n
  | 7, _, _ => exact rput_7 w x n
  | 8, _, _ => exact rput_8 w x n
  | 9, _, _ => exact rput_9 w x n
set_option maxRecDepth 100000 in
theorem rvalue_o (w : World) (x : RcD) :
    Calls Try.prog 26 #[x.val, .int .u8 79] w fun e w' => e = .returned (.agg #[.bool x.o.is, .slice x.o.B x.o.m x.o.d]) ∧ Mod (fun _ => False) w w' := by
  go_enter Try.func26, Try.ntmps26
  go_wp2
  refine bodyPost_ret (v := .agg #[.bool x.o.is, .slice x.o.B x.o.m x.o.d]) (by simp [results, Try.results26, go_sem]) rfl ?_
  exact ⟨rfl, ((Mod.refl _ w).alloc _).alloc _⟩
set_option maxRecDepth 100000 in
theorem rvalue_v (w : World) (x : RcD) :
    Calls Try.prog 26 #[x.val, .int .u8 78] w fun e w' => e = .returned (.agg #[.bool x.v.is, .slice x.v.B x.v.m x.v.d]) ∧ Mod (fun _ => False) w w' := by
  go_enter Try.func26, Try.ntmps26
  go_wp2
  refine bodyPost_ret (v := .agg #[.bool x.v.is, .slice x.v.B x.v.m x.v.d]) (by simp [results, Try.results26, go_sem]) rfl ?_
  exact ⟨rfl, ((Mod.refl _ w).alloc _).alloc _⟩

end Go.Proofs.Ytmgimilcnjlpeaa
