/-
  wal.copied: a record with values of its own.
-/
import Derived.Test.YtnbamljaiahmdaaGreatQW1
import Derived.Test.YtnbamljaiahmdaaGreatQD
namespace Go.Proofs.YtnbamljaiahmdaaGreat
open Go Go.RowKit Go.Shelf

def cpOps : List (Option Tmp × Op × Option (Nat × Bool)) := [(some 3, .fieldAddr 47 (.tmp 1) 10, none), (some 4, .fieldAddr 45 (.tmp 3) 1, none), (some 5, .load 28 (.tmp 4), none), (some 6, .call { callee := .value (.func 56), args := #[.tmp 5], argTypes := #[28] }, none), (some 7, .fieldAddr 47 (.tmp 1) 11, none), (some 8, .fieldAddr 45 (.tmp 7) 1, none), (some 9, .load 28 (.tmp 8), none), (some 10, .call { callee := .value (.func 56), args := #[.tmp 9], argTypes := #[28] }, none), (some 11, .fieldAddr 47 (.tmp 1) 10, none), (some 12, .fieldAddr 45 (.tmp 11) 1, none), (none, .store 28 (.tmp 12) (.tmp 6), none), (some 13, .fieldAddr 47 (.tmp 1) 11, none), (some 14, .fieldAddr 45 (.tmp 13) 1, none), (none, .store 28 (.tmp 14) (.tmp 10), none)]
def cpTail : Tr := .take 8 (.take 9 (.one 7 (.one 10 (.take 11 (.take 12 (.one 13 .nil))))))
def cpTree : Tr := .take 0 (.take 1 (.take 4 (.take 5 (.two 2 (.two 3 (.one 6 cpTail) 6 (.one 3 cpTail)) 6 (.one 2 (.one 3 cpTail))))))
/-- New bytes in the next block. -/
def NewB (W W' : World) (xs : List UInt8) : Prop := W'.heap[W.heap.size]? = some (.cells (xs.map bv).toArray 5 (0, 0)) ∧ W'.heap.size = W.heap.size + 1 ∧ Mod (fun _ => False) W W'

set_option maxRecDepth 100000 in
set_option maxHeartbeats 4000000 in
theorem cp_region {ops : Array Oper} {Q : Exit → Act → World → Prop} {W : World} (hT : ops.toList.map (fun o => (o.dst, o.op, o.guard)) = cpOps) (hB : ordT ops cpTree 14 (Array.replicate 14 false) = true) (hsel : Region.noSelect ops = true)
    (hQ : ∀ c a t v w, Q (.panic c) (a.put t v) w → Q (.panic c) a w) (g0 : Nat) (t0 t2 t3 t4 t5 t6 t7 t8 t9 t10 t11 t12 t13 t14 t15 : Value) (oB vB : Option Addr) (om od vm vd : Nat) (ovs vvs : List UInt8) (cs : Array Value) (ty : TypeId) (hblk : W.heap[g0]? = some (.cells cs ty (0, 0)))
    (k11 : cs[11]? = some (.slice oB om od)) (k13 : cs[13]? = some (.slice vB vm vd))
    (H1 : ∀ V, Mod (fun _ => False) W V → Calls Tryz.prog 56 #[.slice oB om od] V fun e w' => e = .returned (.slice (some ⟨V.heap.size, 0, none⟩) om om) ∧ NewB V w' ovs)
    (H2 : ∀ V, Mod (fun _ => False) W V → Calls Tryz.prog 56 #[.slice vB vm vd] V fun e w' => e = .returned (.slice (some ⟨V.heap.size, 0, none⟩) vm vm) ∧ NewB V w' vvs)
    (hF : ∀ wa wb, NewB W wa ovs → NewB wa wb vvs → Q .normal ⟨#[t0, .pointer (some ⟨g0, 0, none⟩), t2, .pointer (some ⟨g0, 10, none⟩), .pointer (some ⟨g0, 11, none⟩), .slice oB om od, .slice (some ⟨W.heap.size, 0, none⟩) om om, .pointer (some ⟨g0, 12, none⟩), .pointer (some ⟨g0, 13, none⟩), .slice vB vm vd, .slice (some ⟨wa.heap.size, 0, none⟩) vm vm, .pointer (some ⟨g0, 10, none⟩), .pointer (some ⟨g0, 11, none⟩), .pointer (some ⟨g0, 12, none⟩), .pointer (some ⟨g0, 13, none⟩), t15], []⟩ ((wb.setCell ⟨g0, 11, none⟩ (.slice (some ⟨W.heap.size, 0, none⟩) om om)).setCell ⟨g0, 13, none⟩ (.slice (some ⟨wa.heap.size, 0, none⟩) vm vm))) :
    wpAnyH Tryz.prog .any ops Q (fun _ => True) 14 (Array.replicate 14 false) ⟨#[t0, .pointer (some ⟨g0, 0, none⟩), t2, t3, t4, t5, t6, t7, t8, t9, t10, t11, t12, t13, t14, t15], []⟩ W := by
  refine any_of_tree hsel hQ cpTree _ _ _ _ hB ?_
  have HF := Lib.hid hF
  have cell : ∀ V, Mod (fun _ => False) W V → V.heap[g0]? = some (.cells cs ty (0, 0)) := fun V hV => (hV.block g0 (Array.getElem?_eq_some_iff.1 hblk).1 id).trans hblk
  have Hcell := Lib.hid cell
  have c11 : Hid (∀ V, Mod (fun _ => False) W V → V.cell? ⟨g0, 11, none⟩ = some (.slice oB om od)) := fun V hV => by rw [cell_of_row V g0 11 _ _ _ (cell V hV)]; exact k11
  have c13 : Hid (∀ V, Mod (fun _ => False) W V → V.cell? ⟨g0, 13, none⟩ = some (.slice vB vm vd)) := fun V hV => by rw [cell_of_row V g0 13 _ _ _ (cell V hV)]; exact k13
  have hc11 := c11.out W (Mod.refl _ W)
  have hc13 := c13.out W (Mod.refl _ W)
  have s11 : 11 < cs.size := (Array.getElem?_eq_some_iff.1 k11).1
  have s13 : 13 < cs.size := (Array.getElem?_eq_some_iff.1 k13).1
  clear hF hB hsel hQ hblk cell
  have tail : Hid (∀ wa, NewB W wa ovs → wpT Tryz.prog ops Q cpTail ⟨#[t0, .pointer (some ⟨g0, 0, none⟩), t2, .pointer (some ⟨g0, 10, none⟩), .pointer (some ⟨g0, 11, none⟩), .slice oB om od, .slice (some ⟨W.heap.size, 0, none⟩) om om, .pointer (some ⟨g0, 12, none⟩), .pointer (some ⟨g0, 13, none⟩), .slice vB vm vd, t10, t11, t12, t13, t14, t15], []⟩ wa) := by
    intro wa ha
    unfold cpTail
    refine tr_take hT 11 rfl (.pointer (some ⟨g0, 10, none⟩)) (fun o hp w' => by clear hT HF hc11 hc13 H1 H2; simp [hp, execOp, go_sem]) ?_
    simp only [Act.put, List.setIfInBounds_toArray, List.set_cons_zero, List.set_cons_succ]
    refine tr_take hT 12 rfl (.pointer (some ⟨g0, 11, none⟩)) (fun o hp w' => by clear hT HF hc11 hc13 H1 H2; simp [hp, execOp, go_sem]) ?_
    simp only [Act.put, List.setIfInBounds_toArray, List.set_cons_zero, List.set_cons_succ]
    refine tr_one hT (some 10) rfl (fun o hd hp => ?_)
    simp [Oper.wp, execOp, hp, hd, resolve, invoke, go_sem]
    refine (H2 wa ha.2.2).mono ?_
    rintro e wb ⟨rfl, hb⟩
    clear o hd hp
    have hw := Hcell.out wb (ha.2.2.trans hb.2.2 (fun _ _ h => h))
    have f1 := frozen_of_block hw 11
    have f2 := frozen_of_block (heap_set hw 11 (.slice (some ⟨W.heap.size, 0, none⟩) om om)) 13
    have d1 := c11.out wb (ha.2.2.trans hb.2.2 (fun _ _ h => h))
    have d2 : (wb.setCell ⟨g0, 11, none⟩ (.slice (some ⟨W.heap.size, 0, none⟩) om om)).cell? ⟨g0, 13, none⟩ = some (.slice vB vm vd) := by rw [cell_of_row _ _ _ _ _ _ (heap_set hw 11 (.slice (some ⟨W.heap.size, 0, none⟩) om om)), Array.getElem?_setIfInBounds_ne (by decide)]; exact k13
    have hfin := Lib.hid (HF.out wa wb ha hb)
    clear HF hc11 hc13 H1 H2 k11 k13 s11 s13
    refine tr_one hT none rfl (fun o hd hp => ?_)
    simp [Oper.wp, execOp, hp, hd, go_sem, f1, d1]
    clear o hd hp
    refine tr_take hT 13 rfl (.pointer (some ⟨g0, 12, none⟩)) (fun o hp w' => by clear hT hfin f1 f2 d1 d2; simp [hp, execOp, go_sem]) ?_
    simp only [Act.put, List.setIfInBounds_toArray, List.set_cons_zero, List.set_cons_succ]
    refine tr_take hT 14 rfl (.pointer (some ⟨g0, 13, none⟩)) (fun o hp w' => by clear hT hfin f1 f2 d1 d2; simp [hp, execOp, go_sem]) ?_
    simp only [Act.put, List.setIfInBounds_toArray, List.set_cons_zero, List.set_cons_succ]
    refine tr_one hT none rfl (fun o hd hp => ?_)
    simp [Oper.wp, execOp, hp, hd, go_sem, f2, d2]
    exact hfin.out
  unfold cpTree
  refine tr_take hT 3 rfl (.pointer (some ⟨g0, 10, none⟩)) (fun o hp w' => by clear hT HF hc11 hc13 H1 H2; simp [hp, execOp, go_sem]) ?_
  simp only [Act.put, List.setIfInBounds_toArray, List.set_cons_zero, List.set_cons_succ]
  refine tr_take hT 4 rfl (.pointer (some ⟨g0, 11, none⟩)) (fun o hp w' => by clear hT HF hc11 hc13 H1 H2; simp [hp, execOp, go_sem]) ?_
  simp only [Act.put, List.setIfInBounds_toArray, List.set_cons_zero, List.set_cons_succ]
  refine tr_take hT 7 rfl (.pointer (some ⟨g0, 12, none⟩)) (fun o hp w' => by clear hT HF hc11 hc13 H1 H2; simp [hp, execOp, go_sem]) ?_
  simp only [Act.put, List.setIfInBounds_toArray, List.set_cons_zero, List.set_cons_succ]
  refine tr_take hT 8 rfl (.pointer (some ⟨g0, 13, none⟩)) (fun o hp w' => by clear hT HF hc11 hc13 H1 H2; simp [hp, execOp, go_sem]) ?_
  simp only [Act.put, List.setIfInBounds_toArray, List.set_cons_zero, List.set_cons_succ]
  refine tr_two ?_ ?_
  · refine tr_load hT 5 rfl (.slice oB om od) (fun o hp => by clear hT HF H1 H2; simp [hp, hc11, execOp, go_sem]) ?_
    simp only [Act.put, List.setIfInBounds_toArray, List.set_cons_zero, List.set_cons_succ]
    refine tr_two ?_ ?_
    · refine tr_one hT (some 6) rfl (fun o hd hp => ?_)
      simp [Oper.wp, execOp, hp, hd, resolve, invoke, go_sem]
      refine (H1 W (Mod.refl _ W)).mono ?_
      rintro e wa ⟨rfl, ha⟩
      clear o hd hp
      have hc13a := c13.out wa ha.2.2
      refine tr_load hT 9 rfl (.slice vB vm vd) (fun o hp => by clear hT HF H1 H2; simp [hp, hc13a, execOp, go_sem]) ?_
      simp only [Act.put, List.setIfInBounds_toArray, List.set_cons_zero, List.set_cons_succ]
      exact tail.out wa ha
    · refine tr_load hT 9 rfl (.slice vB vm vd) (fun o hp => by clear hT HF H1 H2; simp [hp, hc13, execOp, go_sem]) ?_
      simp only [Act.put, List.setIfInBounds_toArray, List.set_cons_zero, List.set_cons_succ]
      refine tr_one hT (some 6) rfl (fun o hd hp => ?_)
      simp [Oper.wp, execOp, hp, hd, resolve, invoke, go_sem]
      refine (H1 W (Mod.refl _ W)).mono ?_
      rintro e wa ⟨rfl, ha⟩
      clear o hd hp
      exact tail.out wa ha
  · refine tr_load hT 9 rfl (.slice vB vm vd) (fun o hp => by clear hT HF H1 H2; simp [hp, hc13, execOp, go_sem]) ?_
    simp only [Act.put, List.setIfInBounds_toArray, List.set_cons_zero, List.set_cons_succ]
    refine tr_load hT 5 rfl (.slice oB om od) (fun o hp => by clear hT HF H1 H2; simp [hp, hc11, execOp, go_sem]) ?_
    simp only [Act.put, List.setIfInBounds_toArray, List.set_cons_zero, List.set_cons_succ]
    refine tr_one hT (some 6) rfl (fun o hd hp => ?_)
    simp [Oper.wp, execOp, hp, hd, resolve, invoke, go_sem]
    refine (H1 W (Mod.refl _ W)).mono ?_
    rintro e wa ⟨rfl, ha⟩
    clear o hd hp
    exact tail.out wa ha
end Go.Proofs.YtnbamljaiahmdaaGreat
