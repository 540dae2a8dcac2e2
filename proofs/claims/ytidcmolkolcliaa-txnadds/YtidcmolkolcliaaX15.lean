/-
  The law: val, awake.
-/
import Derived.Test.YtidcmolkolcliaaX6
import Derived.Test.YtidcmolkolcliaaX7b
import Derived.Test.YtidcmolkolcliaaX8
import Derived.Test.YtidcmolkolcliaaX9
import Derived.Test.YtidcmolkolcliaaX14
import Derived.Test.YtidcmolkolcliaaXRa
namespace Go.Proofs.Ytidcmolkolcliaa
open Go Go.RowKit

theorem run_makeBytes (n : Nat) (hn : n ≤ 140737488355328) (w : World) :
    (Instr.makeSlice 26 (.int .i64 (n : Int)) (.int .i64 (n : Int))).run Try.prog w =
      .ok (.slice (some ⟨w.heap.size, 0, none⟩) n n) (w.alloc (.cells (madeCells #[.int .u8 0] n) 5)) := by
  obtain ⟨ht, _, i, hi, hz, hsz, hby⟩ := byteElem
  have hb : (i.bytes : Int) * (n : Int) ≤ 281474976710656 := by rw [hby]; omega
  have hr := run_make (P := Try.prog) w 26 5 i (.int .u8 0) ht hi hz .i64 .i64 n n (by omega) (by omega) hb (by omega)
  simpa [hsz, Value.cells] using hr
set_option maxRecDepth 100000 in
set_option maxHeartbeats 3200000 in
theorem lval2_ok (w : World) : Calls Try.prog 30 #[.int .i64 2] w fun e w' => ∃ v : VlD, e = .returned (.agg #[.bool true, .slice v.B v.m v.d]) ∧ v.At w' ∧ v.vs = [0, 0] ∧ Mod (fun _ => False) w w' := by
  obtain ⟨w1, hw1⟩ : ∃ w1, w.alloc (.cells #[.bool false, .slice none 0 0] 28) = w1 := ⟨_, rfl⟩
  have hm1 : Mod (fun _ => False) w w1 := by rw [← hw1]; exact (Mod.refl _ w).alloc _
  have hi1 : w1.heap[w.heap.size]? = some (.cells #[.bool false, .slice none 0 0] 28 (0, 0)) := by rw [← hw1]; exact heap_alloc_new w _
  have hz1 : w.heap.size < w1.heap.size := by rw [← hw1]; simp
  have hmk : ∀ W, (Instr.makeSlice 26 (.int .i64 2) (.int .i64 2)).run Try.prog W = .ok (.slice (some ⟨W.heap.size, 0, none⟩) 2 2) (W.alloc (.cells #[.int .u8 0, .int .u8 0] 5)) := fun W => by
    have q := run_makeBytes 2 (by omega) W
    have e : madeCells #[Value.int .u8 0] 2 = (List.replicate 2 (Value.int .u8 0)).toArray := by rw [← toList_madeCells_one]
    rw [e] at q
    exact q
  obtain ⟨w2, hw2⟩ : ∃ w2, w1.alloc (.cells #[.int .u8 0, .int .u8 0] 5) = w2 := ⟨_, rfl⟩
  have hm2 : Mod (fun _ => False) w1 w2 := by rw [← hw2]; exact (Mod.refl _ w1).alloc _
  have hi2 : w2.heap[w.heap.size]? = some (.cells #[.bool false, .slice none 0 0] 28 (0, 0)) := (hm2.block _ hz1 (fun h => h)).trans hi1
  have hr2 : w2.heap[w1.heap.size]? = some (.cells #[.int .u8 0, .int .u8 0] 5 (0, 0)) := by rw [← hw2]; exact heap_alloc_new w1 _
  have f0 := frozen_of_block hi2 0
  have f1 := frozen_of_block hi2 1
  have c0 : w2.cell? ⟨w.heap.size, 0, none⟩ = some (.bool false) := by rw [cell_of_row _ _ _ _ _ _ hi2]; rfl
  have c1 : w2.cell? ⟨w.heap.size, 1, none⟩ = some (.slice none 0 0) := by rw [cell_of_row _ _ _ _ _ _ hi2]; rfl
  obtain ⟨w3, hw3⟩ : ∃ w3, (w2.setCell ⟨w.heap.size, 0, none⟩ (.bool true)).setCell ⟨w.heap.size, 1, none⟩ (.slice (some ⟨w1.heap.size, 0, none⟩) 2 2) = w3 := ⟨_, rfl⟩
  have hi3 : w3.heap[w.heap.size]? = some (.cells #[.bool true, .slice (some ⟨w1.heap.size, 0, none⟩) 2 2] 28 (0, 0)) := by rw [← hw3]; exact heap_set (heap_set hi2 0 (.bool true)) 1 (.slice (some ⟨w1.heap.size, 0, none⟩) 2 2)
  have hs3 : Mod (fun k => k = w.heap.size) w2 w3 := by rw [← hw3]; exact ((Mod.refl (fun k => k = w.heap.size) w2).one (fun _ => rfl) _ _).one (fun _ => rfl) _ _
  have HM : Hid (Mod (fun _ => False) w w3) := (hm1.trans hm2 (fun _ _ h => h)).trans hs3 (fun k hk e => by omega)
  have HA : Hid ((⟨true, some ⟨w1.heap.size, 0, none⟩, 2, 2, [0, 0]⟩ : VlD).At w3) := by
    have hr3 := (hs3.block w1.heap.size (by rw [← hw2]; simp) (fun e => by omega)).trans hr2
    exact Sl.lit [0, 0] hr3
  have q0 : w3.cell? ⟨w.heap.size, 0, none⟩ = some (.bool true) := by rw [cell_of_row _ _ _ _ _ _ hi3]; rfl
  have q1 : w3.cell? ⟨w.heap.size, 1, none⟩ = some (.slice (some ⟨w1.heap.size, 0, none⟩) 2 2) := by rw [cell_of_row _ _ _ _ _ _ hi3]; rfl
  have HW := Lib.hid hw3
  have Q0 := Lib.hid q0
  have Q1 := Lib.hid q1
  clear hm1 hi1 hm2 hi2 hr2 hi3 hs3 hw3 q0 q1
  go_enter Try.func30, Try.ntmps30
  go_wp2
  rw [HW.out]
  clear hw1 hw2 f0 f1 c0 c1
  have q0 := Q0.out
  have q1 := Q1.out
  refine bodyPost_ret (v := .agg #[.bool true, .slice (some ⟨w1.heap.size, 0, none⟩) 2 2]) (by simp [results, Try.results30, go_sem, q0, q1]) rfl ?_
  exact ⟨⟨true, some ⟨w1.heap.size, 0, none⟩, 2, 2, [0, 0]⟩, rfl, HA.out, rfl, HM.out⟩
set_option maxRecDepth 100000 in
set_option maxHeartbeats 3200000 in
theorem lval10_ok (w : World) : Calls Try.prog 30 #[.int .i64 10] w fun e w' => ∃ v : VlD, e = .returned (.agg #[.bool true, .slice v.B v.m v.d]) ∧ v.At w' ∧ v.vs = [0, 0, 0, 0, 0, 0, 0, 0, 0, 0] ∧ Mod (fun _ => False) w w' := by
  obtain ⟨w1, hw1⟩ : ∃ w1, w.alloc (.cells #[.bool false, .slice none 0 0] 28) = w1 := ⟨_, rfl⟩
  have hm1 : Mod (fun _ => False) w w1 := by rw [← hw1]; exact (Mod.refl _ w).alloc _
  have hi1 : w1.heap[w.heap.size]? = some (.cells #[.bool false, .slice none 0 0] 28 (0, 0)) := by rw [← hw1]; exact heap_alloc_new w _
  have hz1 : w.heap.size < w1.heap.size := by rw [← hw1]; simp
  have hmk : ∀ W, (Instr.makeSlice 26 (.int .i64 10) (.int .i64 10)).run Try.prog W = .ok (.slice (some ⟨W.heap.size, 0, none⟩) 10 10) (W.alloc (.cells #[.int .u8 0, .int .u8 0, .int .u8 0, .int .u8 0, .int .u8 0, .int .u8 0, .int .u8 0, .int .u8 0, .int .u8 0, .int .u8 0] 5)) := fun W => by
    have q := run_makeBytes 10 (by omega) W
    have e : madeCells #[Value.int .u8 0] 10 = (List.replicate 10 (Value.int .u8 0)).toArray := by rw [← toList_madeCells_one]
    rw [e] at q
    exact q
  obtain ⟨w2, hw2⟩ : ∃ w2, w1.alloc (.cells #[.int .u8 0, .int .u8 0, .int .u8 0, .int .u8 0, .int .u8 0, .int .u8 0, .int .u8 0, .int .u8 0, .int .u8 0, .int .u8 0] 5) = w2 := ⟨_, rfl⟩
  have hm2 : Mod (fun _ => False) w1 w2 := by rw [← hw2]; exact (Mod.refl _ w1).alloc _
  have hi2 : w2.heap[w.heap.size]? = some (.cells #[.bool false, .slice none 0 0] 28 (0, 0)) := (hm2.block _ hz1 (fun h => h)).trans hi1
  have hr2 : w2.heap[w1.heap.size]? = some (.cells #[.int .u8 0, .int .u8 0, .int .u8 0, .int .u8 0, .int .u8 0, .int .u8 0, .int .u8 0, .int .u8 0, .int .u8 0, .int .u8 0] 5 (0, 0)) := by rw [← hw2]; exact heap_alloc_new w1 _
  have f0 := frozen_of_block hi2 0
  have f1 := frozen_of_block hi2 1
  have c0 : w2.cell? ⟨w.heap.size, 0, none⟩ = some (.bool false) := by rw [cell_of_row _ _ _ _ _ _ hi2]; rfl
  have c1 : w2.cell? ⟨w.heap.size, 1, none⟩ = some (.slice none 0 0) := by rw [cell_of_row _ _ _ _ _ _ hi2]; rfl
  obtain ⟨w3, hw3⟩ : ∃ w3, (w2.setCell ⟨w.heap.size, 0, none⟩ (.bool true)).setCell ⟨w.heap.size, 1, none⟩ (.slice (some ⟨w1.heap.size, 0, none⟩) 10 10) = w3 := ⟨_, rfl⟩
  have hi3 : w3.heap[w.heap.size]? = some (.cells #[.bool true, .slice (some ⟨w1.heap.size, 0, none⟩) 10 10] 28 (0, 0)) := by rw [← hw3]; exact heap_set (heap_set hi2 0 (.bool true)) 1 (.slice (some ⟨w1.heap.size, 0, none⟩) 10 10)
  have hs3 : Mod (fun k => k = w.heap.size) w2 w3 := by rw [← hw3]; exact ((Mod.refl (fun k => k = w.heap.size) w2).one (fun _ => rfl) _ _).one (fun _ => rfl) _ _
  have HM : Hid (Mod (fun _ => False) w w3) := (hm1.trans hm2 (fun _ _ h => h)).trans hs3 (fun k hk e => by omega)
  have HA : Hid ((⟨true, some ⟨w1.heap.size, 0, none⟩, 10, 10, [0, 0, 0, 0, 0, 0, 0, 0, 0, 0]⟩ : VlD).At w3) := by
    have hr3 := (hs3.block w1.heap.size (by rw [← hw2]; simp) (fun e => by omega)).trans hr2
    exact Sl.lit [0, 0, 0, 0, 0, 0, 0, 0, 0, 0] hr3
  have q0 : w3.cell? ⟨w.heap.size, 0, none⟩ = some (.bool true) := by rw [cell_of_row _ _ _ _ _ _ hi3]; rfl
  have q1 : w3.cell? ⟨w.heap.size, 1, none⟩ = some (.slice (some ⟨w1.heap.size, 0, none⟩) 10 10) := by rw [cell_of_row _ _ _ _ _ _ hi3]; rfl
  have HW := Lib.hid hw3
  have Q0 := Lib.hid q0
  have Q1 := Lib.hid q1
  clear hm1 hi1 hm2 hi2 hr2 hi3 hs3 hw3 q0 q1
  go_enter Try.func30, Try.ntmps30
  go_wp2
  rw [HW.out]
  clear hw1 hw2 f0 f1 c0 c1
  have q0 := Q0.out
  have q1 := Q1.out
  refine bodyPost_ret (v := .agg #[.bool true, .slice (some ⟨w1.heap.size, 0, none⟩) 10 10]) (by simp [results, Try.results30, go_sem, q0, q1]) rfl ?_
  exact ⟨⟨true, some ⟨w1.heap.size, 0, none⟩, 10, 10, [0, 0, 0, 0, 0, 0, 0, 0, 0, 0]⟩, rfl, HA.out, rfl, HM.out⟩
end Go.Proofs.Ytidcmolkolcliaa
