/-
  The contract of bobbinref09.Read.
-/
import Derived.Test.YtkigpicjhklioaaQRt
import Derived.Test.YtkigpicjhklioaaQMl
namespace Go.Proofs.Ytkigpicjhklioaa
open Go Go.RowKit

set_option maxRecDepth 100000 in
set_option maxHeartbeats 1600000 in
theorem refRead_none (w : World) (A B : Option Addr) (c d : Nat) (xs ys : List UInt8) (hx : Sl w A 256 c xs) (hy : Sl w B 256 d ys) (hc : c ≤ maxLen) (hd : d ≤ maxLen) (X Y : Ms) (hX : rtM xs 0 = X) (hYm : rtM ys 1 = Y) (hA : toldB xs 0 = false) (hB : toldB ys 1 = false) :
    Calls Try.prog 21 #[.slice A 256 c, .slice B 256 d] w fun e w' => e = .returned (.tuple #[.agg #[.int .i64 0, .int .i64 0, .int .i64 0, .int .i64 0], .int .i64 3]) ∧ Mod (fun _ => False) w w' := by
  have h1 := hx.alloc (.cells #[.int .i64 0, .int .i64 0, .int .i64 0, .int .i64 0] 23)
  have Hx1 := Lib.hid (refTold_ok _ A c xs 0 h1 hc)
  have HZ1 := Lib.hid (heap_alloc_new w (.cells #[.int .i64 0, .int .i64 0, .int .i64 0, .int .i64 0] 23))
  have HM1 : Hid (Mod (fun _ => False) w (w.alloc (.cells #[.int .i64 0, .int .i64 0, .int .i64 0, .int .i64 0] 23))) := (Mod.refl _ w).alloc _
  have HY := Lib.hid hy
  have Hdd := Lib.hid hd
  rw [hX, hA] at Hx1
  clear h1 hx hc hy hd hX hA
  go_enter Try.func21, Try.ntmps21
  go_wp2_with fail
  refine Hx1.out.mono ?_
  rintro e w2 ⟨rfl, hm2⟩
  have hm2' := HM1.out.trans hm2 (fun _ _ h => h)
  have hz2 := (hm2.block w.heap.size (by simp only [World.size_alloc]; omega) id).trans HZ1.out
  have hq3 := heap_alloc_new w2 (.cells #[.int .i64 X.no, .int .i64 X.ep, .int .i64 X.st, .int .i64 X.ck] 23)
  have hm3 : Mod (fun _ => False) w2 (w2.alloc (.cells #[.int .i64 X.no, .int .i64 X.ep, .int .i64 X.st, .int .i64 X.ck] 23)) := (Mod.refl _ w2).alloc _
  have hm3' := hm2'.trans hm3 (fun _ _ h => h)
  have Hy1 := Lib.hid (refTold_ok _ B d ys 1 (HY.out.mod hm3' (fun _ _ _ => id)) Hdd.out)
  rw [hYm, hB] at Hy1
  have hz3 := (hm3.block w.heap.size (Array.getElem?_eq_some_iff.1 hz2).1 id).trans hz2
  have HZ3 := Lib.hid hz3
  have HQ3 := Lib.hid hq3
  have HM3 := Lib.hid hm3'
  clear hm2 hm2' hz2 hq3 hm3 hm3' hz3 Hx1 HZ1 HM1 hYm hB
  generalize hq : w2.heap.size = q at *
  have Hq := Lib.hid hq
  clear hq
  go_wp2_with fail
  rw [Hq.out]
  refine Hy1.out.mono ?_
  rintro e w4 ⟨rfl, hm4⟩
  have hz4 := (hm4.block w.heap.size (Array.getElem?_eq_some_iff.1 HZ3.out).1 id).trans HZ3.out
  have hq4 := (hm4.block q (Array.getElem?_eq_some_iff.1 HQ3.out).1 id).trans HQ3.out
  obtain ⟨z0, z1, z2, z3, f0, f1, f2, f3, b0, b1, b2, b3⟩ := Bx9.of (m := X) hz4 hq4
  have hI : InB w4 w.heap.size ⟨0, 0, 0, 0⟩ := hz4
  have HI := Lib.hid hI
  have hqlt := (Array.getElem?_eq_some_iff.1 hq4).1
  have hzlt := (Array.getElem?_eq_some_iff.1 hz4).1
  have HM4 := Lib.hid (HM3.out.trans hm4 (fun _ _ h => h))
  clear hI hz4 hq4 hm4 HZ3 HQ3 HM3 Hy1
  generalize hz : w.heap.size = z at *
  have Hz := Lib.hid hz
  clear hz
  go_wp2
  have hf := (HI.out.set ⟨0, 0, 0, 0⟩).1.keep ((Mod.refl _ _).alloc (.cells #[.int .i64 Y.no, .int .i64 Y.ep, .int .i64 Y.st, .int .i64 Y.ck] 23))
  obtain ⟨y0, y1, y2, y3⟩ := hf.bm
  refine bodyPost_ret (v := .tuple #[.agg #[.int .i64 0, .int .i64 0, .int .i64 0, .int .i64 0], .int .i64 3]) (by simp [results, Try.results21, go_sem, y0, y1, y2, y3]) rfl ?_
  exact ⟨rfl, (HM4.out.set4 (Nat.le_of_eq Hz.out) _ _ _ _).alloc _⟩

set_option maxRecDepth 100000 in
set_option maxHeartbeats 1600000 in
theorem refRead_right (w : World) (A B : Option Addr) (c d : Nat) (xs ys : List UInt8) (hx : Sl w A 256 c xs) (hy : Sl w B 256 d ys) (hc : c ≤ maxLen) (hd : d ≤ maxLen) (X Y : Ms) (hX : rtM xs 0 = X) (hYm : rtM ys 1 = Y) (hA : toldB xs 0 = false) (hB : toldB ys 1 = true) :
    Calls Try.prog 21 #[.slice A 256 c, .slice B 256 d] w fun e w' => e = .returned (.tuple #[.agg #[.int .i64 Y.no, .int .i64 Y.ep, .int .i64 Y.st, .int .i64 Y.ck], .int .i64 0]) ∧ Mod (fun _ => False) w w' := by
  have h1 := hx.alloc (.cells #[.int .i64 0, .int .i64 0, .int .i64 0, .int .i64 0] 23)
  have Hx1 := Lib.hid (refTold_ok _ A c xs 0 h1 hc)
  have HZ1 := Lib.hid (heap_alloc_new w (.cells #[.int .i64 0, .int .i64 0, .int .i64 0, .int .i64 0] 23))
  have HM1 : Hid (Mod (fun _ => False) w (w.alloc (.cells #[.int .i64 0, .int .i64 0, .int .i64 0, .int .i64 0] 23))) := (Mod.refl _ w).alloc _
  have HY := Lib.hid hy
  have Hdd := Lib.hid hd
  rw [hX, hA] at Hx1
  clear h1 hx hc hy hd hX hA
  go_enter Try.func21, Try.ntmps21
  go_wp2_with fail
  refine Hx1.out.mono ?_
  rintro e w2 ⟨rfl, hm2⟩
  have hm2' := HM1.out.trans hm2 (fun _ _ h => h)
  have hz2 := (hm2.block w.heap.size (by simp only [World.size_alloc]; omega) id).trans HZ1.out
  have hq3 := heap_alloc_new w2 (.cells #[.int .i64 X.no, .int .i64 X.ep, .int .i64 X.st, .int .i64 X.ck] 23)
  have hm3 : Mod (fun _ => False) w2 (w2.alloc (.cells #[.int .i64 X.no, .int .i64 X.ep, .int .i64 X.st, .int .i64 X.ck] 23)) := (Mod.refl _ w2).alloc _
  have hm3' := hm2'.trans hm3 (fun _ _ h => h)
  have Hy1 := Lib.hid (refTold_ok _ B d ys 1 (HY.out.mod hm3' (fun _ _ _ => id)) Hdd.out)
  rw [hYm, hB] at Hy1
  have hz3 := (hm3.block w.heap.size (Array.getElem?_eq_some_iff.1 hz2).1 id).trans hz2
  have HZ3 := Lib.hid hz3
  have HQ3 := Lib.hid hq3
  have HM3 := Lib.hid hm3'
  clear hm2 hm2' hz2 hq3 hm3 hm3' hz3 Hx1 HZ1 HM1 hYm hB
  generalize hq : w2.heap.size = q at *
  have Hq := Lib.hid hq
  clear hq
  go_wp2_with fail
  rw [Hq.out]
  refine Hy1.out.mono ?_
  rintro e w4 ⟨rfl, hm4⟩
  have hz4 := (hm4.block w.heap.size (Array.getElem?_eq_some_iff.1 HZ3.out).1 id).trans HZ3.out
  have hq4 := (hm4.block q (Array.getElem?_eq_some_iff.1 HQ3.out).1 id).trans HQ3.out
  obtain ⟨z0, z1, z2, z3, f0, f1, f2, f3, b0, b1, b2, b3⟩ := Bx9.of (m := X) hz4 hq4
  have hI : InB w4 w.heap.size ⟨0, 0, 0, 0⟩ := hz4
  have HI := Lib.hid hI
  have hqlt := (Array.getElem?_eq_some_iff.1 hq4).1
  have hzlt := (Array.getElem?_eq_some_iff.1 hz4).1
  have HM4 := Lib.hid (HM3.out.trans hm4 (fun _ _ h => h))
  clear hI hz4 hq4 hm4 HZ3 HQ3 HM3 Hy1
  generalize hz : w.heap.size = z at *
  have Hz := Lib.hid hz
  clear hz
  go_wp2
  have hf := (HI.out.set Y).1.keep ((Mod.refl _ _).alloc (.cells #[.int .i64 Y.no, .int .i64 Y.ep, .int .i64 Y.st, .int .i64 Y.ck] 23))
  obtain ⟨y0, y1, y2, y3⟩ := hf.bm
  refine bodyPost_ret (v := .tuple #[.agg #[.int .i64 Y.no, .int .i64 Y.ep, .int .i64 Y.st, .int .i64 Y.ck], .int .i64 0]) (by simp [results, Try.results21, go_sem, y0, y1, y2, y3]) rfl ?_
  exact ⟨rfl, (HM4.out.set4 (Nat.le_of_eq Hz.out) _ _ _ _).alloc _⟩

set_option maxRecDepth 100000 in
set_option maxHeartbeats 1600000 in
theorem refRead_left (w : World) (A B : Option Addr) (c d : Nat) (xs ys : List UInt8) (hx : Sl w A 256 c xs) (hy : Sl w B 256 d ys) (hc : c ≤ maxLen) (hd : d ≤ maxLen) (X Y : Ms) (hX : rtM xs 0 = X) (hYm : rtM ys 1 = Y) (hA : toldB xs 0 = true) (hB : toldB ys 1 = false) :
    Calls Try.prog 21 #[.slice A 256 c, .slice B 256 d] w fun e w' => e = .returned (.tuple #[.agg #[.int .i64 X.no, .int .i64 X.ep, .int .i64 X.st, .int .i64 X.ck], .int .i64 0]) ∧ Mod (fun _ => False) w w' := by
  have h1 := hx.alloc (.cells #[.int .i64 0, .int .i64 0, .int .i64 0, .int .i64 0] 23)
  have Hx1 := Lib.hid (refTold_ok _ A c xs 0 h1 hc)
  have HZ1 := Lib.hid (heap_alloc_new w (.cells #[.int .i64 0, .int .i64 0, .int .i64 0, .int .i64 0] 23))
  have HM1 : Hid (Mod (fun _ => False) w (w.alloc (.cells #[.int .i64 0, .int .i64 0, .int .i64 0, .int .i64 0] 23))) := (Mod.refl _ w).alloc _
  have HY := Lib.hid hy
  have Hdd := Lib.hid hd
  rw [hX, hA] at Hx1
  clear h1 hx hc hy hd hX hA
  go_enter Try.func21, Try.ntmps21
  go_wp2_with fail
  refine Hx1.out.mono ?_
  rintro e w2 ⟨rfl, hm2⟩
  have hm2' := HM1.out.trans hm2 (fun _ _ h => h)
  have hz2 := (hm2.block w.heap.size (by simp only [World.size_alloc]; omega) id).trans HZ1.out
  have hq3 := heap_alloc_new w2 (.cells #[.int .i64 X.no, .int .i64 X.ep, .int .i64 X.st, .int .i64 X.ck] 23)
  have hm3 : Mod (fun _ => False) w2 (w2.alloc (.cells #[.int .i64 X.no, .int .i64 X.ep, .int .i64 X.st, .int .i64 X.ck] 23)) := (Mod.refl _ w2).alloc _
  have hm3' := hm2'.trans hm3 (fun _ _ h => h)
  have Hy1 := Lib.hid (refTold_ok _ B d ys 1 (HY.out.mod hm3' (fun _ _ _ => id)) Hdd.out)
  rw [hYm, hB] at Hy1
  have hz3 := (hm3.block w.heap.size (Array.getElem?_eq_some_iff.1 hz2).1 id).trans hz2
  have HZ3 := Lib.hid hz3
  have HQ3 := Lib.hid hq3
  have HM3 := Lib.hid hm3'
  clear hm2 hm2' hz2 hq3 hm3 hm3' hz3 Hx1 HZ1 HM1 hYm hB
  generalize hq : w2.heap.size = q at *
  have Hq := Lib.hid hq
  clear hq
  go_wp2_with fail
  rw [Hq.out]
  refine Hy1.out.mono ?_
  rintro e w4 ⟨rfl, hm4⟩
  have hz4 := (hm4.block w.heap.size (Array.getElem?_eq_some_iff.1 HZ3.out).1 id).trans HZ3.out
  have hq4 := (hm4.block q (Array.getElem?_eq_some_iff.1 HQ3.out).1 id).trans HQ3.out
  obtain ⟨z0, z1, z2, z3, f0, f1, f2, f3, b0, b1, b2, b3⟩ := Bx9.of (m := X) hz4 hq4
  have hI : InB w4 w.heap.size ⟨0, 0, 0, 0⟩ := hz4
  have HI := Lib.hid hI
  have hqlt := (Array.getElem?_eq_some_iff.1 hq4).1
  have hzlt := (Array.getElem?_eq_some_iff.1 hz4).1
  have HM4 := Lib.hid (HM3.out.trans hm4 (fun _ _ h => h))
  clear hI hz4 hq4 hm4 HZ3 HQ3 HM3 Hy1
  generalize hz : w.heap.size = z at *
  have Hz := Lib.hid hz
  clear hz
  go_wp2
  have hf := (HI.out.set X).1.keep ((Mod.refl _ _).alloc (.cells #[.int .i64 Y.no, .int .i64 Y.ep, .int .i64 Y.st, .int .i64 Y.ck] 23))
  obtain ⟨y0, y1, y2, y3⟩ := hf.bm
  refine bodyPost_ret (v := .tuple #[.agg #[.int .i64 X.no, .int .i64 X.ep, .int .i64 X.st, .int .i64 X.ck], .int .i64 0]) (by simp [results, Try.results21, go_sem, y0, y1, y2, y3]) rfl ?_
  exact ⟨rfl, (HM4.out.set4 (Nat.le_of_eq Hz.out) _ _ _ _).alloc _⟩

set_option maxRecDepth 100000 in
set_option maxHeartbeats 1600000 in
theorem refRead_great (w : World) (A B : Option Addr) (c d : Nat) (xs ys : List UInt8) (hx : Sl w A 256 c xs) (hy : Sl w B 256 d ys) (hc : c ≤ maxLen) (hd : d ≤ maxLen) (X Y : Ms) (hX : rtM xs 0 = X) (hYm : rtM ys 1 = Y) (hA : toldB xs 0 = true) (hB : toldB ys 1 = true) (hg : Y.no < X.no) :
    Calls Try.prog 21 #[.slice A 256 c, .slice B 256 d] w fun e w' => e = .returned (.tuple #[.agg #[.int .i64 X.no, .int .i64 X.ep, .int .i64 X.st, .int .i64 X.ck], .int .i64 0]) ∧ Mod (fun _ => False) w w' := by
  have h1 := hx.alloc (.cells #[.int .i64 0, .int .i64 0, .int .i64 0, .int .i64 0] 23)
  have Hx1 := Lib.hid (refTold_ok _ A c xs 0 h1 hc)
  have HZ1 := Lib.hid (heap_alloc_new w (.cells #[.int .i64 0, .int .i64 0, .int .i64 0, .int .i64 0] 23))
  have HM1 : Hid (Mod (fun _ => False) w (w.alloc (.cells #[.int .i64 0, .int .i64 0, .int .i64 0, .int .i64 0] 23))) := (Mod.refl _ w).alloc _
  have HY := Lib.hid hy
  have Hdd := Lib.hid hd
  rw [hX, hA] at Hx1
  clear h1 hx hc hy hd hX hA
  go_enter Try.func21, Try.ntmps21
  go_wp2_with fail
  refine Hx1.out.mono ?_
  rintro e w2 ⟨rfl, hm2⟩
  have hm2' := HM1.out.trans hm2 (fun _ _ h => h)
  have hz2 := (hm2.block w.heap.size (by simp only [World.size_alloc]; omega) id).trans HZ1.out
  have hq3 := heap_alloc_new w2 (.cells #[.int .i64 X.no, .int .i64 X.ep, .int .i64 X.st, .int .i64 X.ck] 23)
  have hm3 : Mod (fun _ => False) w2 (w2.alloc (.cells #[.int .i64 X.no, .int .i64 X.ep, .int .i64 X.st, .int .i64 X.ck] 23)) := (Mod.refl _ w2).alloc _
  have hm3' := hm2'.trans hm3 (fun _ _ h => h)
  have Hy1 := Lib.hid (refTold_ok _ B d ys 1 (HY.out.mod hm3' (fun _ _ _ => id)) Hdd.out)
  rw [hYm, hB] at Hy1
  have hz3 := (hm3.block w.heap.size (Array.getElem?_eq_some_iff.1 hz2).1 id).trans hz2
  have HZ3 := Lib.hid hz3
  have HQ3 := Lib.hid hq3
  have HM3 := Lib.hid hm3'
  clear hm2 hm2' hz2 hq3 hm3 hm3' hz3 Hx1 HZ1 HM1 hYm hB
  generalize hq : w2.heap.size = q at *
  have Hq := Lib.hid hq
  clear hq
  go_wp2_with fail
  rw [Hq.out]
  refine Hy1.out.mono ?_
  rintro e w4 ⟨rfl, hm4⟩
  have hz4 := (hm4.block w.heap.size (Array.getElem?_eq_some_iff.1 HZ3.out).1 id).trans HZ3.out
  have hq4 := (hm4.block q (Array.getElem?_eq_some_iff.1 HQ3.out).1 id).trans HQ3.out
  obtain ⟨z0, z1, z2, z3, f0, f1, f2, f3, b0, b1, b2, b3⟩ := Bx9.of (m := X) hz4 hq4
  have hI : InB w4 w.heap.size ⟨0, 0, 0, 0⟩ := hz4
  have HI := Lib.hid hI
  have hqlt := (Array.getElem?_eq_some_iff.1 hq4).1
  have hzlt := (Array.getElem?_eq_some_iff.1 hz4).1
  have HM4 := Lib.hid (HM3.out.trans hm4 (fun _ _ h => h))
  clear hI hz4 hq4 hm4 HZ3 HQ3 HM3 Hy1
  generalize hz : w.heap.size = z at *
  have Hz := Lib.hid hz
  clear hz
  go_wp2
  have hf := (HI.out.set X).1.keep ((Mod.refl _ _).alloc (.cells #[.int .i64 Y.no, .int .i64 Y.ep, .int .i64 Y.st, .int .i64 Y.ck] 23))
  obtain ⟨y0, y1, y2, y3⟩ := hf.bm
  refine bodyPost_ret (v := .tuple #[.agg #[.int .i64 X.no, .int .i64 X.ep, .int .i64 X.st, .int .i64 X.ck], .int .i64 0]) (by simp [results, Try.results21, go_sem, y0, y1, y2, y3]) rfl ?_
  exact ⟨rfl, (HM4.out.set4 (Nat.le_of_eq Hz.out) _ _ _ _).alloc _⟩

set_option maxRecDepth 100000 in
set_option maxHeartbeats 1600000 in
theorem refRead_less (w : World) (A B : Option Addr) (c d : Nat) (xs ys : List UInt8) (hx : Sl w A 256 c xs) (hy : Sl w B 256 d ys) (hc : c ≤ maxLen) (hd : d ≤ maxLen) (X Y : Ms) (hX : rtM xs 0 = X) (hYm : rtM ys 1 = Y) (hA : toldB xs 0 = true) (hB : toldB ys 1 = true) (hg : ¬ Y.no < X.no) :
    Calls Try.prog 21 #[.slice A 256 c, .slice B 256 d] w fun e w' => e = .returned (.tuple #[.agg #[.int .i64 Y.no, .int .i64 Y.ep, .int .i64 Y.st, .int .i64 Y.ck], .int .i64 0]) ∧ Mod (fun _ => False) w w' := by
  have h1 := hx.alloc (.cells #[.int .i64 0, .int .i64 0, .int .i64 0, .int .i64 0] 23)
  have Hx1 := Lib.hid (refTold_ok _ A c xs 0 h1 hc)
  have HZ1 := Lib.hid (heap_alloc_new w (.cells #[.int .i64 0, .int .i64 0, .int .i64 0, .int .i64 0] 23))
  have HM1 : Hid (Mod (fun _ => False) w (w.alloc (.cells #[.int .i64 0, .int .i64 0, .int .i64 0, .int .i64 0] 23))) := (Mod.refl _ w).alloc _
  have HY := Lib.hid hy
  have Hdd := Lib.hid hd
  rw [hX, hA] at Hx1
  clear h1 hx hc hy hd hX hA
  go_enter Try.func21, Try.ntmps21
  go_wp2_with fail
  refine Hx1.out.mono ?_
  rintro e w2 ⟨rfl, hm2⟩
  have hm2' := HM1.out.trans hm2 (fun _ _ h => h)
  have hz2 := (hm2.block w.heap.size (by simp only [World.size_alloc]; omega) id).trans HZ1.out
  have hq3 := heap_alloc_new w2 (.cells #[.int .i64 X.no, .int .i64 X.ep, .int .i64 X.st, .int .i64 X.ck] 23)
  have hm3 : Mod (fun _ => False) w2 (w2.alloc (.cells #[.int .i64 X.no, .int .i64 X.ep, .int .i64 X.st, .int .i64 X.ck] 23)) := (Mod.refl _ w2).alloc _
  have hm3' := hm2'.trans hm3 (fun _ _ h => h)
  have Hy1 := Lib.hid (refTold_ok _ B d ys 1 (HY.out.mod hm3' (fun _ _ _ => id)) Hdd.out)
  rw [hYm, hB] at Hy1
  have hz3 := (hm3.block w.heap.size (Array.getElem?_eq_some_iff.1 hz2).1 id).trans hz2
  have HZ3 := Lib.hid hz3
  have HQ3 := Lib.hid hq3
  have HM3 := Lib.hid hm3'
  clear hm2 hm2' hz2 hq3 hm3 hm3' hz3 Hx1 HZ1 HM1 hYm hB
  generalize hq : w2.heap.size = q at *
  have Hq := Lib.hid hq
  clear hq
  go_wp2_with fail
  rw [Hq.out]
  refine Hy1.out.mono ?_
  rintro e w4 ⟨rfl, hm4⟩
  have hz4 := (hm4.block w.heap.size (Array.getElem?_eq_some_iff.1 HZ3.out).1 id).trans HZ3.out
  have hq4 := (hm4.block q (Array.getElem?_eq_some_iff.1 HQ3.out).1 id).trans HQ3.out
  obtain ⟨z0, z1, z2, z3, f0, f1, f2, f3, b0, b1, b2, b3⟩ := Bx9.of (m := X) hz4 hq4
  have hI : InB w4 w.heap.size ⟨0, 0, 0, 0⟩ := hz4
  have HI := Lib.hid hI
  have hqlt := (Array.getElem?_eq_some_iff.1 hq4).1
  have hzlt := (Array.getElem?_eq_some_iff.1 hz4).1
  have HM4 := Lib.hid (HM3.out.trans hm4 (fun _ _ h => h))
  clear hI hz4 hq4 hm4 HZ3 HQ3 HM3 Hy1
  generalize hz : w.heap.size = z at *
  have Hz := Lib.hid hz
  clear hz
  go_wp2
  have hf := (HI.out.set Y).1.keep ((Mod.refl _ _).alloc (.cells #[.int .i64 Y.no, .int .i64 Y.ep, .int .i64 Y.st, .int .i64 Y.ck] 23))
  obtain ⟨y0, y1, y2, y3⟩ := hf.bm
  refine bodyPost_ret (v := .tuple #[.agg #[.int .i64 Y.no, .int .i64 Y.ep, .int .i64 Y.st, .int .i64 Y.ck], .int .i64 0]) (by simp [results, Try.results21, go_sem, y0, y1, y2, y3]) rfl ?_
  exact ⟨rfl, (HM4.out.set4 (Nat.le_of_eq Hz.out) _ _ _ _).alloc _⟩

theorem refRead_ok (w : World) (A B : Option Addr) (c d : Nat) (xs ys : List UInt8) (hx : Sl w A 256 c xs) (hy : Sl w B 256 d ys) (hc : c ≤ maxLen) (hd : d ≤ maxLen) :
    Calls Try.prog 21 #[.slice A 256 c, .slice B 256 d] w fun e w' => e = .returned (.tuple #[.agg #[.int .i64 (lastOf xs ys 2).no, .int .i64 (lastOf xs ys 2).ep, .int .i64 (lastOf xs ys 2).st, .int .i64 (lastOf xs ys 2).ck], .int .i64 (if (lastOf xs ys 2).no = 0 then 3 else 0)]) ∧ Mod (fun _ => False) w w' := by
  cases hA : toldB xs 0 with
  | false =>
    cases hB : toldB ys 1 with
    | false =>
      rw [lastOf_none _ _ hA hB]
      exact refRead_none w A B c d xs ys hx hy hc hd _ _ rfl rfl hA hB
    | true =>
      have h1 := (told_is hB).1.n1
      rw [lastOf_right _ _ hA hB, if_neg (by omega)]
      exact refRead_right w A B c d xs ys hx hy hc hd _ _ rfl (toldM_rt _ _ hB).symm hA hB
  | true =>
    have h0 := (told_is hA).1.n1
    cases hB : toldB ys 1 with
    | false =>
      rw [lastOf_left _ _ hA hB, if_neg (by omega)]
      exact refRead_left w A B c d xs ys hx hy hc hd _ _ (toldM_rt _ _ hA).symm rfl hA hB
    | true =>
      have h1 := (told_is hB).1.n1
      have p0 := (told_is hA).2.1
      have p1 := (told_is hB).2.1
      rw [lastOf_both _ _ hA hB]
      by_cases hg : (toldM ys 1).no < (toldM xs 0).no
      · rw [if_neg (by omega), if_neg (by omega)]
        exact refRead_great w A B c d xs ys hx hy hc hd _ _ (toldM_rt _ _ hA).symm (toldM_rt _ _ hB).symm hA hB hg
      · have hne : (toldM xs 0).no ≠ (toldM ys 1).no := fun e => by rw [e] at p0; omega
        rw [if_pos (by omega), if_neg (by omega)]
        exact refRead_less w A B c d xs ys hx hy hc hd _ _ (toldM_rt _ _ hA).symm (toldM_rt _ _ hB).symm hA hB hg
end Go.Proofs.Ytkigpicjhklioaa
