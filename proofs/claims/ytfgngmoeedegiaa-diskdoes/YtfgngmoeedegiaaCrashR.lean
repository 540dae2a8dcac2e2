/-
  The body of Disk.Crash's loop: after[w.at], _ = frame.Part(after[w.at], w.s, k).
-/
import Derived.Test.YtfgngmoeedegiaaOrder
namespace Go.Proofs.Ytfgngmoeedegiaa
open Go Go.RowKit

/-- The operations of the body's one region: where each lays its value, what it is. -/
def crashOps : List (Option Tmp × Op × Option (Nat × Bool)) := [(some 21, .load 63 (.tmp 5), none), (some 22, .fieldAddr 68 (.tmp 6) 0, none), (some 23, .load 3 (.tmp 22), none), (some 24, .load 63 (.tmp 5), none), (some 25, .fieldAddr 68 (.tmp 6) 0, none), (some 26, .load 3 (.tmp 25), none), (some 27, .indexAddr 63 (.tmp 24) (.tmp 26), none), (some 28, .load 61 (.tmp 27), none), (some 29, .fieldAddr 68 (.tmp 6) 1, none), (some 30, .load 61 (.tmp 29), none), (some 31, .move (.tmp 7), none), (some 32, .call { callee := .value (.func 37), args := #[.tmp 28, .tmp 30, .tmp 31], argTypes := #[39, 39, 3] }, none), (some 20, .move (.tmp 32), none), (some 33, .extract (.tmp 20) 0, none), (some 34, .extract (.tmp 20) 1, none), (some 35, .indexAddr 63 (.tmp 21) (.tmp 23), none), (none, .store 61 (.tmp 35) (.tmp 33), none)]
def crashOrder : List (Nat × Bool) := [(0, true), (1, true), (2, true), (3, true), (4, true), (5, true), (6, true), (8, true), (9, true), (10, true), (7, false), (11, false), (12, true), (13, true), (14, true), (15, true), (16, false)]

set_option maxRecDepth 100000 in
set_option maxHeartbeats 2000000 in
theorem crash_region {ops : Array Oper} {Q : Exit → Act → World → Prop} {W : World} (hT : ops.toList.map (fun o => (o.dst, o.op, o.guard)) = crashOps) (hB : orderB ops crashOrder (Array.replicate 17 false) = true) (hsel : Region.noSelect ops = true)
    (hQ : ∀ c a a' w, Q (.panic c) a w → Q (.panic c) a' w) (n g Ba Bx cS i c d : Nat) (k : Nat) (hk : k ≤ 256) (A B : Option Addr) (xs ys : List UInt8) (t0 t1 t2 t3 t4 t8 t9 t10 t11 t12 t13 t14 t15 t16 t17 t18 t19 t20 t21 t22 t23 t24 t25 t26 t27 t28 t29 t30 t31 t32 t33 t34 t35 t36 t37 : Value) (ds : List Deferred)
    (hi : i < n) (hS : (fun w' : World => w'.cell? ⟨Ba, 0, none⟩ = some (.slice (some ⟨g, 0, none⟩) n cS) ∧ w'.cell? ⟨Bx, 0, none⟩ = some (.int .i64 i) ∧ w'.cell? ⟨Bx, 1, none⟩ = some (.slice B 256 d)) W) (hc : W.cell? ⟨g, i, none⟩ = some (.slice A 256 c)) (hf : W.frozen? ⟨g, i, none⟩ = false) (hA : Sl W A 256 c xs) (hBs : Sl W B 256 d ys) (hBa : Ba ≠ g) (hBx : Bx ≠ g)
    (hF : ∀ g' w' a', Sec W w' g' (partOf xs ys k) → Q .normal a' (w'.setCell ⟨g, i, none⟩ (.slice (some ⟨g', 0, none⟩) 256 256))) :
    wpAnyH Try.prog .any ops Q (fun w' : World => w'.cell? ⟨Ba, 0, none⟩ = some (.slice (some ⟨g, 0, none⟩) n cS) ∧ w'.cell? ⟨Bx, 0, none⟩ = some (.int .i64 i) ∧ w'.cell? ⟨Bx, 1, none⟩ = some (.slice B 256 d)) 17 (Array.replicate 17 false) { tmps := #[t0, t1, t2, t3, t4, .pointer (some ⟨Ba, 0, none⟩), .pointer (some ⟨Bx, 0, none⟩), .int .i64 k, t8, t9, t10, t11, t12, t13, t14, t15, t16, t17, t18, t19, t20, t21, t22, t23, t24, t25, t26, t27, t28, t29, t30, t31, t32, t33, t34, t35, t36, t37], defers := ds } W := by
  refine held_of_seq hsel hQ crashOrder _ _ _ hB ?_
  unfold crashOrder
  have hi' : (i : Int) < n := by omega
  have HF := Lib.hid hF
  have HQ := Lib.hid hQ
  clear hF hB hsel hQ
  refine seq_take hT 21 _ rfl (.slice (some ⟨g, 0, none⟩) n cS) ?_ hS ?_
  · rintro o hp w' ⟨q1, q2, q3⟩
    clear hS hc hf hT
    simp [*, execOp, go_sem]
  simp only [Act.put, List.setIfInBounds_toArray, List.set_cons_zero, List.set_cons_succ]
  refine seq_take hT 22 _ rfl (.pointer (some ⟨Bx, 0, none⟩)) ?_ hS ?_
  · rintro o hp w' ⟨q1, q2, q3⟩
    clear hS hc hf hT
    simp [*, execOp, go_sem]
  simp only [Act.put, List.setIfInBounds_toArray, List.set_cons_zero, List.set_cons_succ]
  refine seq_take hT 23 _ rfl (.int .i64 i) ?_ hS ?_
  · rintro o hp w' ⟨q1, q2, q3⟩
    clear hS hc hf hT
    simp [*, execOp, go_sem]
  simp only [Act.put, List.setIfInBounds_toArray, List.set_cons_zero, List.set_cons_succ]
  refine seq_take hT 24 _ rfl (.slice (some ⟨g, 0, none⟩) n cS) ?_ hS ?_
  · rintro o hp w' ⟨q1, q2, q3⟩
    clear hS hc hf hT
    simp [*, execOp, go_sem]
  simp only [Act.put, List.setIfInBounds_toArray, List.set_cons_zero, List.set_cons_succ]
  refine seq_take hT 25 _ rfl (.pointer (some ⟨Bx, 0, none⟩)) ?_ hS ?_
  · rintro o hp w' ⟨q1, q2, q3⟩
    clear hS hc hf hT
    simp [*, execOp, go_sem]
  simp only [Act.put, List.setIfInBounds_toArray, List.set_cons_zero, List.set_cons_succ]
  refine seq_take hT 26 _ rfl (.int .i64 i) ?_ hS ?_
  · rintro o hp w' ⟨q1, q2, q3⟩
    clear hS hc hf hT
    simp [*, execOp, go_sem]
  simp only [Act.put, List.setIfInBounds_toArray, List.set_cons_zero, List.set_cons_succ]
  refine seq_take hT 27 _ rfl (.pointer (some ⟨g, i, none⟩)) ?_ hS ?_
  · rintro o hp w' ⟨q1, q2, q3⟩
    clear hS hc hf hT
    simp [*, execOp, go_sem]
  simp only [Act.put, List.setIfInBounds_toArray, List.set_cons_zero, List.set_cons_succ]
  refine seq_take hT 29 _ rfl (.pointer (some ⟨Bx, 1, none⟩)) ?_ hS ?_
  · rintro o hp w' ⟨q1, q2, q3⟩
    clear hS hc hf hT
    simp [*, execOp, go_sem]
  simp only [Act.put, List.setIfInBounds_toArray, List.set_cons_zero, List.set_cons_succ]
  refine seq_take hT 30 _ rfl (.slice B 256 d) ?_ hS ?_
  · rintro o hp w' ⟨q1, q2, q3⟩
    clear hS hc hf hT
    simp [*, execOp, go_sem]
  simp only [Act.put, List.setIfInBounds_toArray, List.set_cons_zero, List.set_cons_succ]
  refine seq_take hT 31 _ rfl (.int .i64 k) ?_ hS ?_
  · rintro o hp w' ⟨q1, q2, q3⟩
    clear hS hc hf hT
    simp [*, execOp, go_sem]
  simp only [Act.put, List.setIfInBounds_toArray, List.set_cons_zero, List.set_cons_succ]
  refine seq_one hT (some 28) _ rfl ?_
  intro o hd hp
  simp [Oper.wp, execOp, hp, hd, go_sem, hc]
  refine ⟨hS, ?_⟩
  clear o hd hp
  refine seq_one hT (some 32) _ rfl ?_
  intro o hd hp
  simp [Oper.wp, execOp, hp, hd, resolve, invoke, go_sem]
  refine (part_ok W A B c d xs ys hA hBs k hk).mono ?_
  rintro e w1 ⟨g', rfl, hsec⟩
  clear o hd hp
  have hm := hsec.2.2
  have keep : ∀ (b j : Nat) (v : Value), W.cell? ⟨b, j, none⟩ = some v → w1.cell? ⟨b, j, none⟩ = some v := fun b j v hv =>
    (World.cell?_of_block (hm.block b (World.block_lt_of_cell? W _ hv) id)).trans hv
  have hS1 : w1.cell? ⟨Ba, 0, none⟩ = some (.slice (some ⟨g, 0, none⟩) n cS) ∧ w1.cell? ⟨Bx, 0, none⟩ = some (.int .i64 i) ∧ w1.cell? ⟨Bx, 1, none⟩ = some (.slice B 256 d) :=
    ⟨keep _ _ _ hS.1, keep _ _ _ hS.2.1, keep _ _ _ hS.2.2⟩
  have hc1 := keep _ _ _ hc
  have hf1 : w1.frozen? ⟨g, i, none⟩ = false := by
    have hb := hm.block g (World.block_lt_of_cell? W _ hc) id
    unfold World.frozen? at hf ⊢
    simp only at hb hf ⊢
    rw [hb]
    exact hf
  refine ⟨hS1, ?_⟩
  clear hS hc hf keep hA hBs hm
  refine seq_take hT 20 _ rfl ((.tuple #[.slice (some ⟨g', 0, none⟩) 256 256, .int .i64 0])) ?_ hS1 ?_
  · rintro o hp w' ⟨q1, q2, q3⟩
    clear hS1 hc1 hf1 hT
    simp [*, execOp, go_sem]
  simp only [Act.put, List.setIfInBounds_toArray, List.set_cons_zero, List.set_cons_succ]
  refine seq_take hT 33 _ rfl ((.slice (some ⟨g', 0, none⟩) 256 256)) ?_ hS1 ?_
  · rintro o hp w' ⟨q1, q2, q3⟩
    clear hS1 hc1 hf1 hT
    simp [*, execOp, go_sem]
  simp only [Act.put, List.setIfInBounds_toArray, List.set_cons_zero, List.set_cons_succ]
  refine seq_take hT 34 _ rfl (.int .i64 0) ?_ hS1 ?_
  · rintro o hp w' ⟨q1, q2, q3⟩
    clear hS1 hc1 hf1 hT
    simp [*, execOp, go_sem]
  simp only [Act.put, List.setIfInBounds_toArray, List.set_cons_zero, List.set_cons_succ]
  refine seq_take hT 35 _ rfl (.pointer (some ⟨g, i, none⟩)) ?_ hS1 ?_
  · rintro o hp w' ⟨q1, q2, q3⟩
    clear hS1 hc1 hf1 hT
    simp [*, execOp, go_sem]
  simp only [Act.put, List.setIfInBounds_toArray, List.set_cons_zero, List.set_cons_succ]
  refine seq_one hT none _ rfl ?_
  intro o hd hp
  simp [Oper.wp, execOp, hp, hd, go_sem, hc1, hf1]
  refine ⟨?_, HF.out g' w1 _ hsec⟩
  exact hS1
end Go.Proofs.Ytfgngmoeedegiaa
