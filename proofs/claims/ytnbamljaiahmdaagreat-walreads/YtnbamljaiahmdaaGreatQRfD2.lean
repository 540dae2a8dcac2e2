/-
  bobbinref06.put.
  bobbinref06.Decode.
  bobbinref06.Decode: its walk.
-/
import Derived.Test.YtnbamljaiahmdaaGreatQRe3
import Derived.Test.YtnbamljaiahmdaaGreatQOpen
import Derived.Test.YtnbamljaiahmdaaGreatQDecE
import Derived.StillTailTactics
namespace Go.Proofs.YtnbamljaiahmdaaGreat
open Go Go.RowKit

set_option maxRecDepth 100000 in
theorem rput_1 (w : World) (x : RcD) (n : Int) :
    Calls Tryz.prog 67 #[x.val, .int .u8 116, .int .i64 n] w fun e w' => e = .returned (.agg ({ x with f := upd x.f 1 n } : RcD).cells) ∧ Mod (fun _ => False) w w' := by
  have hI := RcD.In.new (w.alloc (.cells ({ x with f := upd x.f 1 n } : RcD).cells 47)) ({ x with f := upd x.f 1 n } : RcD)
  rw [World.size_alloc] at hI
  have HI := Lib.hid hI
  have HM : Hid (Mod (fun _ => False) w ((w.alloc (.cells ({ x with f := upd x.f 1 n } : RcD).cells 47)).alloc (.cells ({ x with f := upd x.f 1 n } : RcD).cells 47))) := ((Mod.refl _ w).alloc _).alloc _
  clear hI
  go_enter Tryz.func67, Tryz.ntmps67
  go_wp2
  change bodyPost _ _ _ _ _ ((w.alloc (.cells ({ x with f := upd x.f 1 n } : RcD).cells 47)).alloc (.cells ({ x with f := upd x.f 1 n } : RcD).cells 47))
  generalize (w.alloc (.cells ({ x with f := upd x.f 1 n } : RcD).cells 47)).alloc (.cells ({ x with f := upd x.f 1 n } : RcD).cells 47) = w2 at *
  have r0 := HI.out.kind
  have r1 := HI.out.num (i := 1) (by omega) (by omega)
  have r2 := HI.out.num (i := 2) (by omega) (by omega)
  have r3 := HI.out.num (i := 3) (by omega) (by omega)
  have r4 := HI.out.num (i := 4) (by omega) (by omega)
  have r5 := HI.out.num (i := 5) (by omega) (by omega)
  have r6 := HI.out.num (i := 6) (by omega) (by omega)
  have r7 := HI.out.num (i := 7) (by omega) (by omega)
  have r8 := HI.out.num (i := 8) (by omega) (by omega)
  have r9 := HI.out.num (i := 9) (by omega) (by omega)
  have r10 := HI.out.c10
  have r11 := HI.out.c11
  have r12 := HI.out.c12
  have r13 := HI.out.c13
  refine bodyPost_ret (v := .agg ({ x with f := upd x.f 1 n } : RcD).cells) (by simp [results, Tryz.results67, go_sem, r0, r1, r2, r3, r4, r5, r6, r7, r8, r9, r10, r11, r12, r13]) rfl ?_
  exact ⟨rfl, HM.out⟩
set_option maxRecDepth 100000 in
theorem rput_2 (w : World) (x : RcD) (n : Int) :
    Calls Tryz.prog 67 #[x.val, .int .u8 115, .int .i64 n] w fun e w' => e = .returned (.agg ({ x with f := upd x.f 2 n } : RcD).cells) ∧ Mod (fun _ => False) w w' := by
  have hI := RcD.In.new (w.alloc (.cells ({ x with f := upd x.f 2 n } : RcD).cells 47)) ({ x with f := upd x.f 2 n } : RcD)
  rw [World.size_alloc] at hI
  have HI := Lib.hid hI
  have HM : Hid (Mod (fun _ => False) w ((w.alloc (.cells ({ x with f := upd x.f 2 n } : RcD).cells 47)).alloc (.cells ({ x with f := upd x.f 2 n } : RcD).cells 47))) := ((Mod.refl _ w).alloc _).alloc _
  clear hI
  go_enter Tryz.func67, Tryz.ntmps67
  go_wp2
  change bodyPost _ _ _ _ _ ((w.alloc (.cells ({ x with f := upd x.f 2 n } : RcD).cells 47)).alloc (.cells ({ x with f := upd x.f 2 n } : RcD).cells 47))
  generalize (w.alloc (.cells ({ x with f := upd x.f 2 n } : RcD).cells 47)).alloc (.cells ({ x with f := upd x.f 2 n } : RcD).cells 47) = w2 at *
  have r0 := HI.out.kind
  have r1 := HI.out.num (i := 1) (by omega) (by omega)
  have r2 := HI.out.num (i := 2) (by omega) (by omega)
  have r3 := HI.out.num (i := 3) (by omega) (by omega)
  have r4 := HI.out.num (i := 4) (by omega) (by omega)
  have r5 := HI.out.num (i := 5) (by omega) (by omega)
  have r6 := HI.out.num (i := 6) (by omega) (by omega)
  have r7 := HI.out.num (i := 7) (by omega) (by omega)
  have r8 := HI.out.num (i := 8) (by omega) (by omega)
  have r9 := HI.out.num (i := 9) (by omega) (by omega)
  have r10 := HI.out.c10
  have r11 := HI.out.c11
  have r12 := HI.out.c12
  have r13 := HI.out.c13
  refine bodyPost_ret (v := .agg ({ x with f := upd x.f 2 n } : RcD).cells) (by simp [results, Tryz.results67, go_sem, r0, r1, r2, r3, r4, r5, r6, r7, r8, r9, r10, r11, r12, r13]) rfl ?_
  exact ⟨rfl, HM.out⟩
set_option maxRecDepth 100000 in
theorem rput_3 (w : World) (x : RcD) (n : Int) :
    Calls Tryz.prog 67 #[x.val, .int .u8 112, .int .i64 n] w fun e w' => e = .returned (.agg ({ x with f := upd x.f 3 n } : RcD).cells) ∧ Mod (fun _ => False) w w' := by
  have hI := RcD.In.new (w.alloc (.cells ({ x with f := upd x.f 3 n } : RcD).cells 47)) ({ x with f := upd x.f 3 n } : RcD)
  rw [World.size_alloc] at hI
  have HI := Lib.hid hI
  have HM : Hid (Mod (fun _ => False) w ((w.alloc (.cells ({ x with f := upd x.f 3 n } : RcD).cells 47)).alloc (.cells ({ x with f := upd x.f 3 n } : RcD).cells 47))) := ((Mod.refl _ w).alloc _).alloc _
  clear hI
  go_enter Tryz.func67, Tryz.ntmps67
  go_wp2
  change bodyPost _ _ _ _ _ ((w.alloc (.cells ({ x with f := upd x.f 3 n } : RcD).cells 47)).alloc (.cells ({ x with f := upd x.f 3 n } : RcD).cells 47))
  generalize (w.alloc (.cells ({ x with f := upd x.f 3 n } : RcD).cells 47)).alloc (.cells ({ x with f := upd x.f 3 n } : RcD).cells 47) = w2 at *
  have r0 := HI.out.kind
  have r1 := HI.out.num (i := 1) (by omega) (by omega)
  have r2 := HI.out.num (i := 2) (by omega) (by omega)
  have r3 := HI.out.num (i := 3) (by omega) (by omega)
  have r4 := HI.out.num (i := 4) (by omega) (by omega)
  have r5 := HI.out.num (i := 5) (by omega) (by omega)
  have r6 := HI.out.num (i := 6) (by omega) (by omega)
  have r7 := HI.out.num (i := 7) (by omega) (by omega)
  have r8 := HI.out.num (i := 8) (by omega) (by omega)
  have r9 := HI.out.num (i := 9) (by omega) (by omega)
  have r10 := HI.out.c10
  have r11 := HI.out.c11
  have r12 := HI.out.c12
  have r13 := HI.out.c13
  refine bodyPost_ret (v := .agg ({ x with f := upd x.f 3 n } : RcD).cells) (by simp [results, Tryz.results67, go_sem, r0, r1, r2, r3, r4, r5, r6, r7, r8, r9, r10, r11, r12, r13]) rfl ?_
  exact ⟨rfl, HM.out⟩
set_option maxRecDepth 100000 in
theorem rput_4 (w : World) (x : RcD) (n : Int) :
    Calls Tryz.prog 67 #[x.val, .int .u8 107, .int .i64 n] w fun e w' => e = .returned (.agg ({ x with f := upd x.f 4 n } : RcD).cells) ∧ Mod (fun _ => False) w w' := by
  have hI := RcD.In.new (w.alloc (.cells ({ x with f := upd x.f 4 n } : RcD).cells 47)) ({ x with f := upd x.f 4 n } : RcD)
  rw [World.size_alloc] at hI
  have HI := Lib.hid hI
  have HM : Hid (Mod (fun _ => False) w ((w.alloc (.cells ({ x with f := upd x.f 4 n } : RcD).cells 47)).alloc (.cells ({ x with f := upd x.f 4 n } : RcD).cells 47))) := ((Mod.refl _ w).alloc _).alloc _
  clear hI
  go_enter Tryz.func67, Tryz.ntmps67
  go_wp2
  change bodyPost _ _ _ _ _ ((w.alloc (.cells ({ x with f := upd x.f 4 n } : RcD).cells 47)).alloc (.cells ({ x with f := upd x.f 4 n } : RcD).cells 47))
  generalize (w.alloc (.cells ({ x with f := upd x.f 4 n } : RcD).cells 47)).alloc (.cells ({ x with f := upd x.f 4 n } : RcD).cells 47) = w2 at *
  have r0 := HI.out.kind
  have r1 := HI.out.num (i := 1) (by omega) (by omega)
  have r2 := HI.out.num (i := 2) (by omega) (by omega)
  have r3 := HI.out.num (i := 3) (by omega) (by omega)
  have r4 := HI.out.num (i := 4) (by omega) (by omega)
  have r5 := HI.out.num (i := 5) (by omega) (by omega)
  have r6 := HI.out.num (i := 6) (by omega) (by omega)
  have r7 := HI.out.num (i := 7) (by omega) (by omega)
  have r8 := HI.out.num (i := 8) (by omega) (by omega)
  have r9 := HI.out.num (i := 9) (by omega) (by omega)
  have r10 := HI.out.c10
  have r11 := HI.out.c11
  have r12 := HI.out.c12
  have r13 := HI.out.c13
  refine bodyPost_ret (v := .agg ({ x with f := upd x.f 4 n } : RcD).cells) (by simp [results, Tryz.results67, go_sem, r0, r1, r2, r3, r4, r5, r6, r7, r8, r9, r10, r11, r12, r13]) rfl ?_
  exact ⟨rfl, HM.out⟩
set_option maxRecDepth 100000 in
theorem rput_5 (w : World) (x : RcD) (n : Int) :
    Calls Tryz.prog 67 #[x.val, .int .u8 103, .int .i64 n] w fun e w' => e = .returned (.agg ({ x with f := upd x.f 5 n } : RcD).cells) ∧ Mod (fun _ => False) w w' := by
  have hI := RcD.In.new (w.alloc (.cells ({ x with f := upd x.f 5 n } : RcD).cells 47)) ({ x with f := upd x.f 5 n } : RcD)
  rw [World.size_alloc] at hI
  have HI := Lib.hid hI
  have HM : Hid (Mod (fun _ => False) w ((w.alloc (.cells ({ x with f := upd x.f 5 n } : RcD).cells 47)).alloc (.cells ({ x with f := upd x.f 5 n } : RcD).cells 47))) := ((Mod.refl _ w).alloc _).alloc _
  clear hI
  go_enter Tryz.func67, Tryz.ntmps67
  go_wp2
  change bodyPost _ _ _ _ _ ((w.alloc (.cells ({ x with f := upd x.f 5 n } : RcD).cells 47)).alloc (.cells ({ x with f := upd x.f 5 n } : RcD).cells 47))
  generalize (w.alloc (.cells ({ x with f := upd x.f 5 n } : RcD).cells 47)).alloc (.cells ({ x with f := upd x.f 5 n } : RcD).cells 47) = w2 at *
  have r0 := HI.out.kind
  have r1 := HI.out.num (i := 1) (by omega) (by omega)
  have r2 := HI.out.num (i := 2) (by omega) (by omega)
  have r3 := HI.out.num (i := 3) (by omega) (by omega)
  have r4 := HI.out.num (i := 4) (by omega) (by omega)
  have r5 := HI.out.num (i := 5) (by omega) (by omega)
  have r6 := HI.out.num (i := 6) (by omega) (by omega)
  have r7 := HI.out.num (i := 7) (by omega) (by omega)
  have r8 := HI.out.num (i := 8) (by omega) (by omega)
  have r9 := HI.out.num (i := 9) (by omega) (by omega)
  have r10 := HI.out.c10
  have r11 := HI.out.c11
  have r12 := HI.out.c12
  have r13 := HI.out.c13
  refine bodyPost_ret (v := .agg ({ x with f := upd x.f 5 n } : RcD).cells) (by simp [results, Tryz.results67, go_sem, r0, r1, r2, r3, r4, r5, r6, r7, r8, r9, r10, r11, r12, r13]) rfl ?_
  exact ⟨rfl, HM.out⟩
set_option maxRecDepth 100000 in
theorem rput_6 (w : World) (x : RcD) (n : Int) :
    Calls Tryz.prog 67 #[x.val, .int .u8 108, .int .i64 n] w fun e w' => e = .returned (.agg ({ x with f := upd x.f 6 n } : RcD).cells) ∧ Mod (fun _ => False) w w' := by
  have hI := RcD.In.new (w.alloc (.cells ({ x with f := upd x.f 6 n } : RcD).cells 47)) ({ x with f := upd x.f 6 n } : RcD)
  rw [World.size_alloc] at hI
  have HI := Lib.hid hI
  have HM : Hid (Mod (fun _ => False) w ((w.alloc (.cells ({ x with f := upd x.f 6 n } : RcD).cells 47)).alloc (.cells ({ x with f := upd x.f 6 n } : RcD).cells 47))) := ((Mod.refl _ w).alloc _).alloc _
  clear hI
  go_enter Tryz.func67, Tryz.ntmps67
  go_wp2
  change bodyPost _ _ _ _ _ ((w.alloc (.cells ({ x with f := upd x.f 6 n } : RcD).cells 47)).alloc (.cells ({ x with f := upd x.f 6 n } : RcD).cells 47))
  generalize (w.alloc (.cells ({ x with f := upd x.f 6 n } : RcD).cells 47)).alloc (.cells ({ x with f := upd x.f 6 n } : RcD).cells 47) = w2 at *
  have r0 := HI.out.kind
  have r1 := HI.out.num (i := 1) (by omega) (by omega)
  have r2 := HI.out.num (i := 2) (by omega) (by omega)
  have r3 := HI.out.num (i := 3) (by omega) (by omega)
  have r4 := HI.out.num (i := 4) (by omega) (by omega)
  have r5 := HI.out.num (i := 5) (by omega) (by omega)
  have r6 := HI.out.num (i := 6) (by omega) (by omega)
  have r7 := HI.out.num (i := 7) (by omega) (by omega)
  have r8 := HI.out.num (i := 8) (by omega) (by omega)
  have r9 := HI.out.num (i := 9) (by omega) (by omega)
  have r10 := HI.out.c10
  have r11 := HI.out.c11
  have r12 := HI.out.c12
  have r13 := HI.out.c13
  refine bodyPost_ret (v := .agg ({ x with f := upd x.f 6 n } : RcD).cells) (by simp [results, Tryz.results67, go_sem, r0, r1, r2, r3, r4, r5, r6, r7, r8, r9, r10, r11, r12, r13]) rfl ?_
  exact ⟨rfl, HM.out⟩
set_option maxRecDepth 100000 in
theorem rput_7 (w : World) (x : RcD) (n : Int) :
    Calls Tryz.prog 67 #[x.val, .int .u8 118, .int .i64 n] w fun e w' => e = .returned (.agg ({ x with f := upd x.f 7 n } : RcD).cells) ∧ Mod (fun _ => False) w w' := by
  have hI := RcD.In.new (w.alloc (.cells ({ x with f := upd x.f 7 n } : RcD).cells 47)) ({ x with f := upd x.f 7 n } : RcD)
  rw [World.size_alloc] at hI
  have HI := Lib.hid hI
  have HM : Hid (Mod (fun _ => False) w ((w.alloc (.cells ({ x with f := upd x.f 7 n } : RcD).cells 47)).alloc (.cells ({ x with f := upd x.f 7 n } : RcD).cells 47))) := ((Mod.refl _ w).alloc _).alloc _
  clear hI
  go_enter Tryz.func67, Tryz.ntmps67
  go_wp2
  change bodyPost _ _ _ _ _ ((w.alloc (.cells ({ x with f := upd x.f 7 n } : RcD).cells 47)).alloc (.cells ({ x with f := upd x.f 7 n } : RcD).cells 47))
  generalize (w.alloc (.cells ({ x with f := upd x.f 7 n } : RcD).cells 47)).alloc (.cells ({ x with f := upd x.f 7 n } : RcD).cells 47) = w2 at *
  have r0 := HI.out.kind
  have r1 := HI.out.num (i := 1) (by omega) (by omega)
  have r2 := HI.out.num (i := 2) (by omega) (by omega)
  have r3 := HI.out.num (i := 3) (by omega) (by omega)
  have r4 := HI.out.num (i := 4) (by omega) (by omega)
  have r5 := HI.out.num (i := 5) (by omega) (by omega)
  have r6 := HI.out.num (i := 6) (by omega) (by omega)
  have r7 := HI.out.num (i := 7) (by omega) (by omega)
  have r8 := HI.out.num (i := 8) (by omega) (by omega)
  have r9 := HI.out.num (i := 9) (by omega) (by omega)
  have r10 := HI.out.c10
  have r11 := HI.out.c11
  have r12 := HI.out.c12
  have r13 := HI.out.c13
  refine bodyPost_ret (v := .agg ({ x with f := upd x.f 7 n } : RcD).cells) (by simp [results, Tryz.results67, go_sem, r0, r1, r2, r3, r4, r5, r6, r7, r8, r9, r10, r11, r12, r13]) rfl ?_
  exact ⟨rfl, HM.out⟩
set_option maxRecDepth 100000 in
theorem rput_8 (w : World) (x : RcD) (n : Int) :
    Calls Tryz.prog 67 #[x.val, .int .u8 110, .int .i64 n] w fun e w' => e = .returned (.agg ({ x with f := upd x.f 8 n } : RcD).cells) ∧ Mod (fun _ => False) w w' := by
  have hI := RcD.In.new (w.alloc (.cells ({ x with f := upd x.f 8 n } : RcD).cells 47)) ({ x with f := upd x.f 8 n } : RcD)
  rw [World.size_alloc] at hI
  have HI := Lib.hid hI
  have HM : Hid (Mod (fun _ => False) w ((w.alloc (.cells ({ x with f := upd x.f 8 n } : RcD).cells 47)).alloc (.cells ({ x with f := upd x.f 8 n } : RcD).cells 47))) := ((Mod.refl _ w).alloc _).alloc _
  clear hI
  go_enter Tryz.func67, Tryz.ntmps67
  go_wp2
  change bodyPost _ _ _ _ _ ((w.alloc (.cells ({ x with f := upd x.f 8 n } : RcD).cells 47)).alloc (.cells ({ x with f := upd x.f 8 n } : RcD).cells 47))
  generalize (w.alloc (.cells ({ x with f := upd x.f 8 n } : RcD).cells 47)).alloc (.cells ({ x with f := upd x.f 8 n } : RcD).cells 47) = w2 at *
  have r0 := HI.out.kind
  have r1 := HI.out.num (i := 1) (by omega) (by omega)
  have r2 := HI.out.num (i := 2) (by omega) (by omega)
  have r3 := HI.out.num (i := 3) (by omega) (by omega)
  have r4 := HI.out.num (i := 4) (by omega) (by omega)
  have r5 := HI.out.num (i := 5) (by omega) (by omega)
  have r6 := HI.out.num (i := 6) (by omega) (by omega)
  have r7 := HI.out.num (i := 7) (by omega) (by omega)
  have r8 := HI.out.num (i := 8) (by omega) (by omega)
  have r9 := HI.out.num (i := 9) (by omega) (by omega)
  have r10 := HI.out.c10
  have r11 := HI.out.c11
  have r12 := HI.out.c12
  have r13 := HI.out.c13
  refine bodyPost_ret (v := .agg ({ x with f := upd x.f 8 n } : RcD).cells) (by simp [results, Tryz.results67, go_sem, r0, r1, r2, r3, r4, r5, r6, r7, r8, r9, r10, r11, r12, r13]) rfl ?_
  exact ⟨rfl, HM.out⟩
set_option maxRecDepth 100000 in
theorem rput_9 (w : World) (x : RcD) (n : Int) :
    Calls Tryz.prog 67 #[x.val, .int .u8 97, .int .i64 n] w fun e w' => e = .returned (.agg ({ x with f := upd x.f 9 n } : RcD).cells) ∧ Mod (fun _ => False) w w' := by
  have hI := RcD.In.new (w.alloc (.cells ({ x with f := upd x.f 9 n } : RcD).cells 47)) ({ x with f := upd x.f 9 n } : RcD)
  rw [World.size_alloc] at hI
  have HI := Lib.hid hI
  have HM : Hid (Mod (fun _ => False) w ((w.alloc (.cells ({ x with f := upd x.f 9 n } : RcD).cells 47)).alloc (.cells ({ x with f := upd x.f 9 n } : RcD).cells 47))) := ((Mod.refl _ w).alloc _).alloc _
  clear hI
  go_enter Tryz.func67, Tryz.ntmps67
  go_wp2
  change bodyPost _ _ _ _ _ ((w.alloc (.cells ({ x with f := upd x.f 9 n } : RcD).cells 47)).alloc (.cells ({ x with f := upd x.f 9 n } : RcD).cells 47))
  generalize (w.alloc (.cells ({ x with f := upd x.f 9 n } : RcD).cells 47)).alloc (.cells ({ x with f := upd x.f 9 n } : RcD).cells 47) = w2 at *
  have r0 := HI.out.kind
  have r1 := HI.out.num (i := 1) (by omega) (by omega)
  have r2 := HI.out.num (i := 2) (by omega) (by omega)
  have r3 := HI.out.num (i := 3) (by omega) (by omega)
  have r4 := HI.out.num (i := 4) (by omega) (by omega)
  have r5 := HI.out.num (i := 5) (by omega) (by omega)
  have r6 := HI.out.num (i := 6) (by omega) (by omega)
  have r7 := HI.out.num (i := 7) (by omega) (by omega)
  have r8 := HI.out.num (i := 8) (by omega) (by omega)
  have r9 := HI.out.num (i := 9) (by omega) (by omega)
  have r10 := HI.out.c10
  have r11 := HI.out.c11
  have r12 := HI.out.c12
  have r13 := HI.out.c13
  refine bodyPost_ret (v := .agg ({ x with f := upd x.f 9 n } : RcD).cells) (by simp [results, Tryz.results67, go_sem, r0, r1, r2, r3, r4, r5, r6, r7, r8, r9, r10, r11, r12, r13]) rfl ?_
  exact ⟨rfl, HM.out⟩
theorem rput_ok (w : World) (x : RcD) (i : Nat) (h1 : 1 ≤ i) (h9 : i ≤ 9) (n : Int) :
    Calls Tryz.prog 67 #[x.val, .int .u8 (letter i).toNat, .int .i64 n] w fun e w' => e = .returned (.agg ({ x with f := upd x.f i n } : RcD).cells) ∧ Mod (fun _ => False) w w' := by
  match i, h1, h9 with
  | 1, _, _ => exact rput_1 w x n
  | 2, _, _ => exact rput_2 w x n
  | 3, _, _ => exact rput_3 w x n
  | 4, _, _ => exact rput_4 w x n
  | 5, _, _ => exact rput_5 w x n
  | 6, _, _ => exact rput_6 w x n
  | 7, _, _ => exact rput_7 w x n
  | 8, _, _ => exact rput_8 w x n
  | 9, _, _ => exact rput_9 w x n
end Go.Proofs.YtnbamljaiahmdaaGreat

namespace Go.Proofs.YtnbamljaiahmdaaGreat
open Go Go.RowKit

section
variable {b : UInt8} {ys : List UInt8} {fl : List Fld}
/-- What is read behind j fields. -/
def decJ (b : UInt8) (ys : List UInt8) (fl : List Fld) (j : Nat) : Rdn Rc := (fl.take j).foldl decStep (.got ⟨b.toNat, fun _ => 0, Vl.none, Vl.none⟩ ys)
theorem decJ_succ {j : Nat} {f : Fld} (hf : fl[j]? = some f) : decJ b ys fl (j + 1) = decStep (decJ b ys fl j) f := by
  obtain ⟨hj, e⟩ := List.getElem?_eq_some_iff.1 hf
  unfold decJ
  rw [List.take_succ_eq_append_getElem hj, List.foldl_append, e]
  rfl
theorem decode_bad_at (hfl : fieldsOf b.toNat = some fl) {j : Nat} {f : Fld} {r : Rc} {zs : List UInt8} {e : Int} (hf : fl[j]? = some f) (h : decJ b ys fl j = .got r zs) (hd : decF r zs f = .bad e) : decode (b :: ys) = (e, Rc.zero) := by
  obtain ⟨hj, ef⟩ := List.getElem?_eq_some_iff.1 hf
  have hsp : fl = fl.take j ++ f :: fl.drop (j + 1) := by
    rw [← ef, List.getElem_cons_drop hj, List.take_append_drop]
  have hfold : fl.foldl decStep (.got ⟨b.toNat, fun _ => 0, Vl.none, Vl.none⟩ ys) = .bad e := by
    rw [hsp, List.foldl_append, List.foldl_cons]
    unfold decJ at h
    rw [h]
    show List.foldl decStep (decF r zs f) _ = _
    rw [hd, foldl_bad]
  show (match fieldsOf b.toNat with
    | none => (7, Rc.zero)
    | some fl => match fl.foldl decStep (.got ⟨b.toNat, fun _ => 0, Vl.none, Vl.none⟩ ys) with
      | .bad e => (e, Rc.zero)
      | .got r [] => (0, r)
      | .got _ (_ :: _) => (7, Rc.zero)) = _
  rw [hfl]
  simp only [hfold]
theorem decode_done (hfl : fieldsOf b.toNat = some fl) {r : Rc} (h : decJ b ys fl fl.length = .got r []) : decode (b :: ys) = (0, r) := by
  unfold decJ at h
  rw [List.take_length] at h
  show (match fieldsOf b.toNat with
    | none => (7, Rc.zero)
    | some fl => match fl.foldl decStep (.got ⟨b.toNat, fun _ => 0, Vl.none, Vl.none⟩ ys) with
      | .bad e => (e, Rc.zero)
      | .got r [] => (0, r)
      | .got _ (_ :: _) => (7, Rc.zero)) = _
  rw [hfl]
  simp only [h]
theorem decode_more' (hfl : fieldsOf b.toNat = some fl) {r : Rc} {zs : List UInt8} (h : decJ b ys fl fl.length = .got r zs) (hz : zs ≠ []) : decode (b :: ys) = (7, Rc.zero) := by
  unfold decJ at h
  rw [List.take_length] at h
  show (match fieldsOf b.toNat with
    | none => (7, Rc.zero)
    | some fl => match fl.foldl decStep (.got ⟨b.toNat, fun _ => 0, Vl.none, Vl.none⟩ ys) with
      | .bad e => (e, Rc.zero)
      | .got r [] => (0, r)
      | .got _ (_ :: _) => (7, Rc.zero)) = _
  rw [hfl]
  cases zs with
  | nil => exact absurd rfl hz
  | cons z zs => simp only [h]
end
/-- Where the record that is read stands, and what is read. -/
structure RD (w wr : World) (b : UInt8) (ys : List UInt8) (fl : List Fld) (j at_ : Nat) (y : RcD) : Prop where
  r : y.In wr (w.heap.size + 1)
  z : RcD.zero.In wr w.heap.size
  o : y.o.Own wr (w.heap.size + 2)
  v : y.v.Own wr (w.heap.size + 2)
  old : Mod (fun _ => False) w wr
  sz : w.heap.size + 2 ≤ wr.heap.size
  got : decJ b ys fl j = .got y.p ((b :: ys).drop at_)
section
variable {w wr W : World} {b : UInt8} {ys : List UInt8} {fl : List Fld} {j at_ : Nat} {y : RcD}
theorem RD.keep (h : RD w wr b ys fl j at_ y) (hm : Mod (fun _ => False) wr W) : RD w W b ys fl j at_ y :=
  ⟨h.r.keep hm, h.z.keep hm, OwV.mod h.o hm (fun _ _ => id), OwV.mod h.v hm (fun _ _ => id), h.old.trans hm (fun _ _ h => h), Nat.le_trans h.sz hm.size, h.got⟩
theorem RD.store {y' : RcD} {j' at' : Nat} (h : RD w W b ys fl j at_ y) (ho : y'.o.Own W (w.heap.size + 2)) (hv : y'.v.Own W (w.heap.size + 2)) (hg : decJ b ys fl j' = .got y'.p ((b :: ys).drop at')) :
    RD w (stRec W (w.heap.size + 1) y') b ys fl j' at' y' := by
  have hm := stRec_mod W (w.heap.size + 1) y'
  exact ⟨stRec_in h.r y', h.z.mod hm (by omega), OwV.mod ho hm (fun k hk e => by have := (OwV.lt ho k hk).1; omega), OwV.mod hv hm (fun k hk e => by have := (OwV.lt hv k hk).1; omega), h.old.trans hm (fun k hk e => by omega), Nat.le_trans h.sz hm.size, hg⟩
theorem RD.storeO {y' : VlD} {j' at' : Nat} (h : RD w W b ys fl j at_ y) (ho : y'.Own W (w.heap.size + 2)) (hg : decJ b ys fl j' = .got ({ y with o := y' } : RcD).p ((b :: ys).drop at')) :
    RD w ((W.setCell ⟨w.heap.size + 1, 10, none⟩ (.bool y'.is)).setCell ⟨w.heap.size + 1, 11, none⟩ (.slice y'.B y'.m y'.d)) b ys fl j' at' { y with o := y' } := by
  have hm : Mod (fun k => k = w.heap.size + 1) W ((W.setCell ⟨w.heap.size + 1, 10, none⟩ (.bool y'.is)).setCell ⟨w.heap.size + 1, 11, none⟩ (.slice y'.B y'.m y'.d)) :=
    ((Mod.refl (fun k => k = w.heap.size + 1) W).setCell (p := ⟨w.heap.size + 1, 10, none⟩) (fun _ => rfl) _).setCell (p := ⟨w.heap.size + 1, 11, none⟩) (fun _ => rfl) _
  exact ⟨h.r.setO y', h.z.mod hm (by omega), OwV.mod ho hm (fun k hk e => by have := (OwV.lt ho k hk).1; omega), OwV.mod h.v hm (fun k hk e => by have := (OwV.lt h.v k hk).1; omega), h.old.trans hm (fun k hk e => by omega), Nat.le_trans h.sz hm.size, hg⟩
theorem RD.storeV {y' : VlD} {j' at' : Nat} (h : RD w W b ys fl j at_ y) (ho : y'.Own W (w.heap.size + 2)) (hg : decJ b ys fl j' = .got ({ y with v := y' } : RcD).p ((b :: ys).drop at')) :
    RD w ((W.setCell ⟨w.heap.size + 1, 12, none⟩ (.bool y'.is)).setCell ⟨w.heap.size + 1, 13, none⟩ (.slice y'.B y'.m y'.d)) b ys fl j' at' { y with v := y' } := by
  have hm : Mod (fun k => k = w.heap.size + 1) W ((W.setCell ⟨w.heap.size + 1, 12, none⟩ (.bool y'.is)).setCell ⟨w.heap.size + 1, 13, none⟩ (.slice y'.B y'.m y'.d)) :=
    ((Mod.refl (fun k => k = w.heap.size + 1) W).setCell (p := ⟨w.heap.size + 1, 12, none⟩) (fun _ => rfl) _).setCell (p := ⟨w.heap.size + 1, 13, none⟩) (fun _ => rfl) _
  exact ⟨h.r.setV y', h.z.mod hm (by omega), OwV.mod h.o hm (fun k hk e => by have := (OwV.lt h.o k hk).1; omega), OwV.mod ho hm (fun k hk e => by have := (OwV.lt ho k hk).1; omega), h.old.trans hm (fun k hk e => by omega), Nat.le_trans h.sz hm.size, hg⟩
theorem RD.box {bx : Nat} {cs : Array Value} {fr : Nat × Nat} (h : RD w W b ys fl j at_ y) (hb : W.heap[bx]? = some (.cells cs 45 fr)) (hlo : w.heap.size + 2 ≤ bx) {W' : World} (hm : Mod (fun k => k = bx) W W') : RD w W' b ys fl j at_ y :=
  ⟨h.r.mod hm (by omega), h.z.mod hm (by omega), OwV.mod h.o hm (ne_of_type h.o hb (by decide)), OwV.mod h.v hm (ne_of_type h.v hb (by decide)), h.old.trans hm (fun k hk e => by omega), Nat.le_trans h.sz hm.size, h.got⟩
/-- A number is read. -/
theorem dec_num {i wd : Nat} (hf : fl[j]? = some (.num i wd)) (hg : decJ b ys fl j = .got y.p ((b :: ys).drop at_)) (hl : at_ + wd ≤ (b :: ys).length) :
    decJ b ys fl (j + 1) = .got ({ y with f := upd y.f i (unle (((b :: ys).drop at_).take wd)) } : RcD).p ((b :: ys).drop (at_ + wd)) := by
  rw [decJ_succ hf, hg]
  show decF y.p _ (.num i wd) = _
  simp only [decF]
  rw [if_neg (by rw [List.length_drop]; omega), List.drop_drop]
  rfl
theorem dec_num_short (hfl : fieldsOf b.toNat = some fl) {i wd : Nat} (hf : fl[j]? = some (.num i wd)) (hg : decJ b ys fl j = .got y.p ((b :: ys).drop at_)) (hl : (b :: ys).length < at_ + wd) (ha : at_ ≤ (b :: ys).length) : decode (b :: ys) = (6, Rc.zero) := by
  refine decode_bad_at hfl hf hg ?_
  simp only [decF]
  rw [if_pos (by rw [List.length_drop]; omega)]
theorem dec_old {e : Rdn Vl} (hf : fl[j]? = some .old) (hg : decJ b ys fl j = .got y.p ((b :: ys).drop at_)) (he : decV ((b :: ys).drop at_) = e) (y' : VlD) (at' : Nat) (h : e = .got y'.p ((b :: ys).drop at')) :
    decJ b ys fl (j + 1) = .got ({ y with o := y' } : RcD).p ((b :: ys).drop at') := by
  rw [decJ_succ hf, hg]
  show decF y.p _ .old = _
  unfold decF
  rw [he, h]
  rfl
theorem dec_new {e : Rdn Vl} (hf : fl[j]? = some .new) (hg : decJ b ys fl j = .got y.p ((b :: ys).drop at_)) (he : decV ((b :: ys).drop at_) = e) (y' : VlD) (at' : Nat) (h : e = .got y'.p ((b :: ys).drop at')) :
    decJ b ys fl (j + 1) = .got ({ y with v := y' } : RcD).p ((b :: ys).drop at') := by
  rw [decJ_succ hf, hg]
  show decF y.p _ .new = _
  unfold decF
  rw [he, h]
  rfl
theorem dec_old_bad (hfl : fieldsOf b.toNat = some fl) {er : Int} (hf : fl[j]? = some .old) (hg : decJ b ys fl j = .got y.p ((b :: ys).drop at_)) (he : decV ((b :: ys).drop at_) = .bad er) : decode (b :: ys) = (er, Rc.zero) := by
  refine decode_bad_at hfl hf hg ?_
  unfold decF
  rw [he]
theorem dec_new_bad (hfl : fieldsOf b.toNat = some fl) {er : Int} (hf : fl[j]? = some .new) (hg : decJ b ys fl j = .got y.p ((b :: ys).drop at_)) (he : decV ((b :: ys).drop at_) = .bad er) : decode (b :: ys) = (er, Rc.zero) := by
  refine decode_bad_at hfl hf hg ?_
  unfold decF
  rw [he]
theorem bad_num {r : Rc} {i wd : Nat} (hl : (b :: ys).length < at_ + wd) (ha : at_ ≤ (b :: ys).length) : decF r ((b :: ys).drop at_) (.num i wd) = .bad 6 := by
  simp only [decF]
  rw [if_pos (by rw [List.length_drop]; omega)]
theorem bad_old {r : Rc} {er : Int} (he : decV ((b :: ys).drop at_) = .bad er) : decF r ((b :: ys).drop at_) .old = .bad er := by
  simp only [decF]
  rw [he]
theorem bad_new {r : Rc} {er : Int} (he : decV ((b :: ys).drop at_) = .bad er) : decF r ((b :: ys).drop at_) .new = .bad er := by
  simp only [decF]
  rw [he]
/-- A field's class. -/
def Fld.cls : Fld → Nat
  | .num _ _ => 0
  | .old => 1
  | .new => 2
/-- Only fields of one class may fail. -/
def Only (b : UInt8) (ys : List UInt8) (fl : List Fld) (C : Nat) : Prop := ∀ (j : Nat) (f : Fld) (r : Rc) (zs : List UInt8) (e : Int), fl[j]? = some f → decJ b ys fl j = .got r zs → decF r zs f = .bad e → f.cls = C
theorem decJ_bad {j k : Nat} {e : Int} (h : decJ b ys fl j = .bad e) (hjk : j ≤ k) : decJ b ys fl k = .bad e := by
  unfold decJ at h ⊢
  have hs : fl.take k = fl.take j ++ (fl.take k).drop j := by
    have := (List.take_append_drop j (fl.take k)).symm
    rw [List.take_take, Nat.min_eq_left hjk] at this
    exact this
  rw [hs, List.foldl_append, h, foldl_bad]
/-- Either no field fails, or those of one class alone, and the end is not reached. -/
theorem only_some (b : UInt8) (ys : List UInt8) (fl : List Fld) : Only b ys fl 3 ∨ ∃ C, C < 3 ∧ Only b ys fl C ∧ ∀ r zs, decJ b ys fl fl.length ≠ .got r zs := by
  by_cases h : ∃ (j : Nat) (f : Fld) (r : Rc) (zs : List UInt8) (e : Int), fl[j]? = some f ∧ decJ b ys fl j = .got r zs ∧ decF r zs f = .bad e
  · obtain ⟨j, f, r, zs, e, hf, hg, hd⟩ := h
    have hj := (List.getElem?_eq_some_iff.1 hf).1
    have hbad : decJ b ys fl (j + 1) = .bad e := by rw [decJ_succ hf, hg]; exact hd
    refine .inr ⟨f.cls, by cases f <;> simp [Fld.cls], ?_, ?_⟩
    · intro j' f' r' zs' e' hf' hg' hd'
      have hbad' : decJ b ys fl (j' + 1) = .bad e' := by rw [decJ_succ hf', hg']; exact hd'
      have : j' = j := by
        rcases Nat.lt_trichotomy j' j with hlt | heq | hgt
        · rw [decJ_bad hbad' hlt] at hg; cases hg
        · exact heq
        · rw [decJ_bad hbad hgt] at hg'; cases hg'
      subst this
      rw [hf] at hf'
      injection hf' with hf'
      rw [hf']
    · intro r' zs' hg'
      rw [decJ_bad hbad hj] at hg'
      cases hg'
  · refine .inl (fun j f r zs e hf hg hd => absurd ⟨j, f, r, zs, e, hf, hg, hd⟩ h)
/-- What the document answers. -/
def RAns (w w' : World) (e : Ending) (a : Int × Rc) : Prop := ∃ y : RcD, e = .returned (.tuple #[.agg y.cells, .int .i64 a.1]) ∧ y.p = a.2 ∧ y.o.Own w' w.heap.size ∧ y.v.Own w' w.heap.size
end
theorem Sl.mid {w : World} {b o n c : Nat} {xs : List UInt8} (h : Sl w (some ⟨b, o, none⟩) n c xs) (k m : Nat) (hk : k + m ≤ n) :
    Sl w (if c = k then some ⟨b, o, none⟩ else some ⟨b, o + k, none⟩) m (c - k) ((xs.drop k).take m) := by
  have hc := h.cap
  have hl := h.len
  refine ⟨by simp [List.length_take, List.length_drop]; omega, by omega, fun hm => ?_⟩
  rw [if_neg (by omega)]
  obtain ⟨b', o', e, hcell⟩ := h.2.2 (by omega)
  injection e with e; injection e with e1 e2; subst e1; subst e2
  refine ⟨b, o + k, rfl, fun j hj => ?_⟩
  rw [Nat.add_assoc, hcell (k + j) (by omega)]
  simp [List.getD_eq_getElem?_getD, hj]

set_option maxRecDepth 100000 in
set_option maxHeartbeats 1000000 in
theorem rdecode_nil (w : World) (A : Option Addr) (n c : Nat) (h : Sl w A n c []) :
    Calls Tryz.prog 47 #[.slice A n c] w fun e w' => RAns w w' e (decode []) ∧ Mod (fun _ => False) w w' := by
  obtain rfl : n = 0 := h.len.symm
  have Hm : Hid (Mod (fun _ => False) w (w.alloc (.cells RcD.zero.cells 47))) := (Mod.refl _ w).alloc _
  have hI := RcD.In.new w RcD.zero
  have r0 := hI.kind
  have r1 := hI.num (i := 1) (by omega) (by omega)
  have r2 := hI.num (i := 2) (by omega) (by omega)
  have r3 := hI.num (i := 3) (by omega) (by omega)
  have r4 := hI.num (i := 4) (by omega) (by omega)
  have r5 := hI.num (i := 5) (by omega) (by omega)
  have r6 := hI.num (i := 6) (by omega) (by omega)
  have r7 := hI.num (i := 7) (by omega) (by omega)
  have r8 := hI.num (i := 8) (by omega) (by omega)
  have r9 := hI.num (i := 9) (by omega) (by omega)
  have r10 := hI.c10
  have r11 := hI.c11
  have r12 := hI.c12
  have r13 := hI.c13
  clear h hI
  go_enter Tryz.func47, Tryz.ntmps47
  go_wp2
  change bodyPost _ _ _ _ _ (w.alloc (.cells RcD.zero.cells 47))
  obtain ⟨w7, hw7⟩ : ∃ w7, w.alloc (.cells RcD.zero.cells 47) = w7 := ⟨_, rfl⟩
  rw [hw7] at r0 r1 r2 r3 r4 r5 r6 r7 r8 r9 r10 r11 r12 r13 Hm ⊢
  clear hw7
  refine bodyPost_ret (v := .tuple #[.agg RcD.zero.cells, .int .i64 6]) (by simp [results, Tryz.results47, go_sem, r0, r1, r2, r3, r4, r5, r6, r7, r8, r9, r10, r11, r12, r13]) rfl ?_
  exact ⟨⟨RcD.zero, rfl, rfl, VlD.none_own _ _, VlD.none_own _ _⟩, Hm.out⟩

end Go.Proofs.YtnbamljaiahmdaaGreat

namespace Go.Proofs.YtnbamljaiahmdaaGreat
open Go Go.RowKit

theorem letters_none {k : Int} (h : fieldsOf k = none) : lettersOf k = #[63] := by
  obtain ⟨k1, k2, k3, k4, k5, k6, k7, k8, k9, k10, k11⟩ := noKind h
  simp only [beq_eq_false_iff_ne] at k1 k2 k3 k4 k5 k6 k7 k8 k9 k10 k11
  simp [lettersOf, k1, k2, k3, k4, k5, k6, k7, k8, k9, k10, k11]

set_option maxRecDepth 100000 in
set_option maxHeartbeats 400000 in
theorem rdecode_none (w : World) (A : Option Addr) (n c : Nat) (b : UInt8) (ys : List UInt8) (h : Sl w A n c (b :: ys)) (hfl : fieldsOf b.toNat = none) (hn : n ≤ 1000000) :
    Calls Tryz.prog 47 #[.slice A n c] w fun e w' => RAns w w' e (decode (b :: ys)) ∧ Mod (fun _ => False) w w' := by
  have hl := h.len
  have hp : 0 < n := by rw [← hl]; simp
  obtain ⟨B, o, rfl, hcell⟩ := h.2.2 hp
  have Hd : Hid (decode (b :: ys) = (7, Rc.zero)) := by show _ = _; simp only [decode, hfl]
  have he := letters_none hfl
  obtain ⟨w1, hw1⟩ : ∃ w1, w.alloc (.cells #[.int .i64 0, .int .i64 0, .int .i64 0, .int .i64 0, .int .i64 0, .int .i64 0, .int .i64 0, .int .i64 0, .int .i64 0, .int .i64 0, .bool false, .slice none 0 0, .bool false, .slice none 0 0] 47) = w1 := ⟨_, rfl⟩
  have hm1 : Mod (fun _ => False) w w1 := by rw [← hw1]; exact (Mod.refl _ w).alloc _
  have hc0 : w1.cell? ⟨B, o, none⟩ = some (.int .u8 b.toNat) := (World.cell?_of_block (hm1.block B (World.block_lt_of_cell? w _ (hcell 0 hp)) id)).trans (hcell 0 hp)
  have hz1 : RcD.zero.In w1 w.heap.size := by rw [← hw1]; exact RcD.In.new w RcD.zero
  obtain ⟨w2, hw2⟩ : ∃ w2, w1.alloc (.cells #[.int .i64 b.toNat, .int .i64 0, .int .i64 0, .int .i64 0, .int .i64 0, .int .i64 0, .int .i64 0, .int .i64 0, .int .i64 0, .int .i64 0, .bool false, .slice none 0 0, .bool false, .slice none 0 0] 47) = w2 := ⟨_, rfl⟩
  have hm2 : Mod (fun _ => False) w1 w2 := by rw [← hw2]; exact (Mod.refl _ w1).alloc _
  have hz2 := hz1.keep hm2
  have hf := rfields_ok w2 b.toNat
  rw [he] at hf
  have Hf := Lib.hid hf
  have HZT := Lib.hid hz2
  have HoldT := Lib.hid (hm1.trans hm2 (fun _ _ h => h))
  have hbz : ((n : Int) == 0) = false := by rw [beq_eq_false_iff_ne]; omega
  have p0 := hz2.kind
  have p1 := hz2.num (i := 1) (by omega) (by omega)
  have p2 := hz2.num (i := 2) (by omega) (by omega)
  have p3 := hz2.num (i := 3) (by omega) (by omega)
  have p4 := hz2.num (i := 4) (by omega) (by omega)
  have p5 := hz2.num (i := 5) (by omega) (by omega)
  have p6 := hz2.num (i := 6) (by omega) (by omega)
  have p7 := hz2.num (i := 7) (by omega) (by omega)
  have p8 := hz2.num (i := 8) (by omega) (by omega)
  have p9 := hz2.num (i := 9) (by omega) (by omega)
  have p10 := hz2.c10
  have p11 := hz2.c11
  have p12 := hz2.c12
  have p13 := hz2.c13
  have q0 := hz2.fz 0
  have q1 := hz2.fz 1
  have q2 := hz2.fz 2
  have q3 := hz2.fz 3
  have q4 := hz2.fz 4
  have q5 := hz2.fz 5
  have q6 := hz2.fz 6
  have q7 := hz2.fz 7
  have q8 := hz2.fz 8
  have q9 := hz2.fz 9
  have q10 := hz2.fz 10
  have q11 := hz2.fz 11
  have q12 := hz2.fz 12
  have q13 := hz2.fz 13
  have hnI : (n : Int) ≤ 1000000 := by omega
  have hb256 : ((b.toNat : Nat) : Int) < 256 := by have := b.toNat_lt; omega
  have hp1 : (1 : Int) ≤ n := by omega
  have Hw2 := Lib.hid hw2
  clear h hl hcell hfl he hf hm1 hz1 hm2 hz2 hn hp hw2
  go_enter Tryz.func47, Tryz.ntmps47
  go_wp2_with fail
  rw [Hw2.out]
  clear hw1 Hw2
  refine Hf.out.mono ?_
  rintro e w3 ⟨rfl, rfl⟩
  clear Hf hc0
  go_wp2
  change bodyPost _ _ _ _ _ (stRec w2 w.heap.size RcD.zero)
  obtain ⟨w7, hw7⟩ : ∃ w7, stRec w2 w.heap.size RcD.zero = w7 := ⟨_, rfl⟩
  have h7 : RcD.zero.In w7 w.heap.size := by rw [← hw7]; exact stRec_in HZT.out RcD.zero
  have H7 : Hid (Mod (fun _ => False) w w7) := by rw [← hw7]; exact HoldT.out.trans (stRec_mod w2 w.heap.size RcD.zero) (fun k hk e => by omega)
  rw [hw7]
  have r0 := h7.kind
  have r1 := h7.num (i := 1) (by omega) (by omega)
  have r2 := h7.num (i := 2) (by omega) (by omega)
  have r3 := h7.num (i := 3) (by omega) (by omega)
  have r4 := h7.num (i := 4) (by omega) (by omega)
  have r5 := h7.num (i := 5) (by omega) (by omega)
  have r6 := h7.num (i := 6) (by omega) (by omega)
  have r7 := h7.num (i := 7) (by omega) (by omega)
  have r8 := h7.num (i := 8) (by omega) (by omega)
  have r9 := h7.num (i := 9) (by omega) (by omega)
  have r10 := h7.c10
  have r11 := h7.c11
  have r12 := h7.c12
  have r13 := h7.c13
  clear hw7 h7 p0 p1 p2 p3 p4 p5 p6 p7 p8 p9 p10 p11 p12 p13 q0 q1 q2 q3 q4 q5 q6 q7 q8 q9 q10 q11 q12 q13
  refine bodyPost_ret (v := .tuple #[.agg RcD.zero.cells, .int .i64 7]) (by simp [results, Tryz.results47, go_sem, r0, r1, r2, r3, r4, r5, r6, r7, r8, r9, r10, r11, r12, r13]) rfl ?_
  exact ⟨⟨RcD.zero, by rw [Hd.out], by rw [Hd.out]; rfl, VlD.none_own _ _, VlD.none_own _ _⟩, H7.out⟩
end Go.Proofs.YtnbamljaiahmdaaGreat
