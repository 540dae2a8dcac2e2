/-
  wal.Log.Append: the two regions that draw their order.
-/
import Derived.Test.YtnbamljaiahmdaaGreatQW2
import Derived.Test.YtnbamljaiahmdaaGreatQD
namespace Go.Proofs.YtnbamljaiahmdaaGreat
open Go Go.RowKit Go.Shelf

def ap6Ops : List (Option Tmp × Op × Option (Nat × Bool)) := [(some 27, .move (.tmp 0), none), (some 28, .nilCheck (.tmp 27), none), (some 29, .fieldAddr 80 (.tmp 28) 6, none), (some 30, .load 66 (.tmp 29), none), (some 31, .load 47 (.tmp 3), none), (some 32, .buildSlice 66 1 #[(0, .tmp 31)], none), (some 33, .call { callee := .builtin .append, args := #[.tmp 30, .tmp 32], argTypes := #[66, 66] }, none), (some 34, .call { callee := .value (.func 34), args := #[.tmp 33], argTypes := #[66] }, none), (some 35, .unOp .not 4 (.tmp 34), none)]
def ap6T : Tr := .one 6 (.one 7 (.take 8 .nil))
def ap6Tree : Tr := .take 0 (.take 1 (.take 2 (.two 3 (.one 4 (.one 5 ap6T)) 4 (.two 3 (.one 5 ap6T) 5 (.one 3 ap6T)))))
def ap12Ops : List (Option Tmp × Op × Option (Nat × Bool)) := [(some 44, .move (.tmp 0), none), (some 45, .move (.tmp 0), none), (some 46, .nilCheck (.tmp 45), none), (some 47, .fieldAddr 80 (.tmp 46) 6, none), (some 48, .load 66 (.tmp 47), none), (some 49, .load 47 (.tmp 3), none), (some 50, .buildSlice 66 1 #[(0, .tmp 49)], none), (some 51, .call { callee := .builtin .append, args := #[.tmp 48, .tmp 50], argTypes := #[66, 66] }, none), (some 52, .nilCheck (.tmp 44), none), (some 53, .fieldAddr 80 (.tmp 52) 6, none), (none, .store 66 (.tmp 53) (.tmp 51), none)]
def ap12T : Tr := .one 7 (.take 8 (.take 9 (.one 10 .nil)))
def ap12Tree : Tr := .take 0 (.take 1 (.take 2 (.take 3 (.two 4 (.one 5 (.one 6 ap12T)) 5 (.two 4 (.one 6 ap12T) 6 (.one 4 ap12T))))))
/-- A record in a literal's own block. -/
abbrev litW (W : World) (y : RcD) : World := W.alloc (.cells y.cells 47)

set_option maxRecDepth 100000 in
set_option maxHeartbeats 4000000 in
theorem ap6_region {ops : Array Oper} {Q : Exit → Act → World → Prop} {W : World} (hT : ops.toList.map (fun o => (o.dst, o.op, o.guard)) = ap6Ops) (hB : ordT ops ap6Tree 9 (Array.replicate 9 false) = true) (hsel : Region.noSelect ops = true)
    (hQ : ∀ c a t v w, Q (.panic c) (a.put t v) w → Q (.panic c) a w) (p gb base : Nat) (A : Option Addr) (n c : Nat) (l : List RcD) (y : RcD) (t1 t2 t4 t5 t6 t7 t8 t9 t10 t11 t12 t13 t14 t15 t16 t17 t18 t19 t20 t21 t22 t23 t24 t25 t26 t27 t28 t29 t30 t31 t32 t33 t34 t35 t36 t37 t38 t39 t40 t41 t42 t43 t44 t45 t46 t47 t48 t49 t50 t51 t52 t53 t54 t55 t56 t57 t58 t59 t60 t61 t62 t63 t64 : Value) (c8 : W.cell? ⟨p, 8, none⟩ = some (.slice A n c)) (Y : y.In W gb)
    (hown : OwN W base 47 14 A n c (recsC l)) (hbase : base ≤ W.heap.size) (hn : n ≤ 100) (F : Bool) (hfit : ∀ A' c' w1, OwN w1 base 47 14 A' (n + 1) c' (recsC (l ++ [y])) → Mod (fun k => blkOf A = some k) W w1 → Calls Tryz.prog 34 #[.slice A' (n + 1) c'] w1 fun e w' => e = .returned (.bool F) ∧ Mod (fun _ => False) w1 w')
    (hF : ∀ A' c' w1 w2, OwN w1 base 47 14 A n c (recsC l) → Mod (fun k => blkOf A = some k) W w1 → Mod (fun _ => False) w1 w2 → Q .normal ⟨#[.pointer (some ⟨p, 0, none⟩), t1, t2, .pointer (some ⟨gb, 0, none⟩), t4, t5, t6, t7, t8, t9, t10, t11, t12, t13, t14, t15, t16, t17, t18, t19, t20, t21, t22, t23, t24, t25, t26, .pointer (some ⟨p, 0, none⟩), .pointer (some ⟨p, 0, none⟩), .pointer (some ⟨p, 8, none⟩), .slice A n c, y.val, .slice (some ⟨W.heap.size, 0, none⟩) 1 1, .slice A' (n + 1) c', .bool F, .bool (!F), t36, t37, t38, t39, t40, t41, t42, t43, t44, t45, t46, t47, t48, t49, t50, t51, t52, t53, t54, t55, t56, t57, t58, t59, t60, t61, t62, t63, t64], []⟩ w2) :
    wpAnyH Tryz.prog .any ops Q (fun _ => True) 9 (Array.replicate 9 false) ⟨#[.pointer (some ⟨p, 0, none⟩), t1, t2, .pointer (some ⟨gb, 0, none⟩), t4, t5, t6, t7, t8, t9, t10, t11, t12, t13, t14, t15, t16, t17, t18, t19, t20, t21, t22, t23, t24, t25, t26, t27, t28, t29, t30, t31, t32, t33, t34, t35, t36, t37, t38, t39, t40, t41, t42, t43, t44, t45, t46, t47, t48, t49, t50, t51, t52, t53, t54, t55, t56, t57, t58, t59, t60, t61, t62, t63, t64], []⟩ W := by
  refine any_of_tree hsel hQ ap6Tree _ _ _ _ hB ?_
  have HF := Lib.hid hF
  have hml : Mod (fun _ => False) W (litW W y) := (Mod.refl _ W).alloc _
  have c8l : (litW W y).cell? ⟨p, 8, none⟩ = some (.slice A n c) := (World.cell?_of_block (hml.block p (World.block_lt_of_cell? W _ c8) id)).trans c8
  have Hown : Hid (OwN (litW W y) base 47 14 A n c (recsC l)) := hown.alloc _
  have Hsrc : Hid (SrcN (litW W y) (some ⟨W.heap.size, 0, none⟩) 1 14 (recsC [y])) := SrcN.rec1 W y _
  have Hb : Hid ((n + 1) * 144 ≤ 140737488355328 ∧ n + 1 ≤ maxLen ∧ base ≤ (litW W y).heap.size) := ⟨by omega, by unfold maxLen; omega, by simp; omega⟩
  clear hF hB hsel hQ hown hbase hn
  have tail : Hid (wpT Tryz.prog ops Q ap6T ⟨#[.pointer (some ⟨p, 0, none⟩), t1, t2, .pointer (some ⟨gb, 0, none⟩), t4, t5, t6, t7, t8, t9, t10, t11, t12, t13, t14, t15, t16, t17, t18, t19, t20, t21, t22, t23, t24, t25, t26, .pointer (some ⟨p, 0, none⟩), .pointer (some ⟨p, 0, none⟩), .pointer (some ⟨p, 8, none⟩), .slice A n c, y.val, .slice (some ⟨W.heap.size, 0, none⟩) 1 1, t33, t34, t35, t36, t37, t38, t39, t40, t41, t42, t43, t44, t45, t46, t47, t48, t49, t50, t51, t52, t53, t54, t55, t56, t57, t58, t59, t60, t61, t62, t63, t64], []⟩ (litW W y)) := by
    show wpT _ _ _ _ _ _
    unfold ap6T
    refine tr_one hT (some 33) rfl (fun o hd hp => ?_)
    refine wp_appK (ad := ⟨W.heap.size, 0, none⟩) (m := 1) (c2 := 1) (.tmp 30) (.tmp 32) recElem hp rfl rfl Hown.out Hsrc.out (by omega) Hb.out.1 Hb.out.2.1 Hb.out.2.2 ?_
    intro A' c' w1 ho1 hg1 hk1 ho2
    rw [hd]
    simp only [Act.put, List.setIfInBounds_toArray, List.set_cons_zero, List.set_cons_succ]
    rw [← recsC_append] at ho1
    have hm1 : Mod (fun k => blkOf A = some k) W w1 := (hml.mono (fun _ _ h => h.elim)).grown hg1 (fun k e _ => e)
    have hc := hfit A' c' w1 ho1 hm1
    clear o hd hp
    refine tr_one hT (some 34) rfl (fun o hd hp => ?_)
    simp [Oper.wp, execOp, hp, hd, resolve, invoke, go_sem]
    refine hc.mono ?_
    rintro e w2 ⟨rfl, hm2⟩
    clear o hd hp
    have hfin := Lib.hid (HF.out A' c' w1 w2 ho2 hm1 hm2)
    clear HF c8 Y hc
    refine tr_take hT 35 rfl (.bool (!F)) (fun o hp w' => by clear hT hfin; simp [hp, execOp, go_sem]) ?_
    simp only [Act.put, List.setIfInBounds_toArray, List.set_cons_zero, List.set_cons_succ]
    exact hfin.out
  unfold ap6Tree
  refine tr_take hT 27 rfl (.pointer (some ⟨p, 0, none⟩)) (fun o hp w' => by clear hT HF c8 Y; simp [hp, execOp, go_sem]) ?_
  simp only [Act.put, List.setIfInBounds_toArray, List.set_cons_zero, List.set_cons_succ]
  refine tr_take hT 28 rfl (.pointer (some ⟨p, 0, none⟩)) (fun o hp w' => by clear hT HF c8 Y; simp [hp, execOp, go_sem]) ?_
  simp only [Act.put, List.setIfInBounds_toArray, List.set_cons_zero, List.set_cons_succ]
  refine tr_take hT 29 rfl (.pointer (some ⟨p, 8, none⟩)) (fun o hp w' => by clear hT HF c8 Y; simp [hp, execOp, go_sem]) ?_
  simp only [Act.put, List.setIfInBounds_toArray, List.set_cons_zero, List.set_cons_succ]
  refine tr_two ?_ ?_
  · refine tr_load hT 30 rfl (.slice A n c) (fun o hp => by clear hT HF; simp [hp, c8, execOp, go_sem]) ?_
    simp only [Act.put, List.setIfInBounds_toArray, List.set_cons_zero, List.set_cons_succ]
    refine tr_load hT 31 rfl (y.val) (fun o hp => by clear hT HF c8; have y0 := Y.kind; have y1 := Y.num (i := 1) (by omega) (by omega); have y2 := Y.num (i := 2) (by omega) (by omega); have y3 := Y.num (i := 3) (by omega) (by omega); have y4 := Y.num (i := 4) (by omega) (by omega); have y5 := Y.num (i := 5) (by omega) (by omega); have y6 := Y.num (i := 6) (by omega) (by omega); have y7 := Y.num (i := 7) (by omega) (by omega); have y8 := Y.num (i := 8) (by omega) (by omega); have y9 := Y.num (i := 9) (by omega) (by omega); have y10 := Y.c10; have y11 := Y.c11; have y12 := Y.c12; have y13 := Y.c13; simp [hp, y0, y1, y2, y3, y4, y5, y6, y7, y8, y9, y10, y11, y12, y13, execOp, go_sem]) ?_
    simp only [Act.put, List.setIfInBounds_toArray, List.set_cons_zero, List.set_cons_succ]
    refine tr_one hT (some 32) rfl (fun o hd hp => ?_)
    simp [Oper.wp, execOp, hp, hd, go_sem]
    clear o hd hp
    exact tail.out
  · refine tr_load hT 31 rfl (y.val) (fun o hp => by clear hT HF c8; have y0 := Y.kind; have y1 := Y.num (i := 1) (by omega) (by omega); have y2 := Y.num (i := 2) (by omega) (by omega); have y3 := Y.num (i := 3) (by omega) (by omega); have y4 := Y.num (i := 4) (by omega) (by omega); have y5 := Y.num (i := 5) (by omega) (by omega); have y6 := Y.num (i := 6) (by omega) (by omega); have y7 := Y.num (i := 7) (by omega) (by omega); have y8 := Y.num (i := 8) (by omega) (by omega); have y9 := Y.num (i := 9) (by omega) (by omega); have y10 := Y.c10; have y11 := Y.c11; have y12 := Y.c12; have y13 := Y.c13; simp [hp, y0, y1, y2, y3, y4, y5, y6, y7, y8, y9, y10, y11, y12, y13, execOp, go_sem]) ?_
    simp only [Act.put, List.setIfInBounds_toArray, List.set_cons_zero, List.set_cons_succ]
    refine tr_two ?_ ?_
    · refine tr_load hT 30 rfl (.slice A n c) (fun o hp => by clear hT HF; simp [hp, c8, execOp, go_sem]) ?_
      simp only [Act.put, List.setIfInBounds_toArray, List.set_cons_zero, List.set_cons_succ]
      refine tr_one hT (some 32) rfl (fun o hd hp => ?_)
      simp [Oper.wp, execOp, hp, hd, go_sem]
      clear o hd hp
      exact tail.out
    · refine tr_one hT (some 32) rfl (fun o hd hp => ?_)
      simp [Oper.wp, execOp, hp, hd, go_sem]
      clear o hd hp
      refine tr_load hT 30 rfl (.slice A n c) (fun o hp => by clear hT HF; simp [hp, c8l, execOp, go_sem]) ?_
      simp only [Act.put, List.setIfInBounds_toArray, List.set_cons_zero, List.set_cons_succ]
      exact tail.out

set_option maxRecDepth 100000 in
set_option maxHeartbeats 4000000 in
theorem ap12_region {ops : Array Oper} {Q : Exit → Act → World → Prop} {W : World} (hT : ops.toList.map (fun o => (o.dst, o.op, o.guard)) = ap12Ops) (hB : ordT ops ap12Tree 11 (Array.replicate 11 false) = true) (hsel : Region.noSelect ops = true)
    (hQ : ∀ c a t v w, Q (.panic c) (a.put t v) w → Q (.panic c) a w) (p gb base : Nat) (A : Option Addr) (n c : Nat) (l : List RcD) (y : RcD) (t1 t2 t4 t5 t6 t7 t8 t9 t10 t11 t12 t13 t14 t15 t16 t17 t18 t19 t20 t21 t22 t23 t24 t25 t26 t27 t28 t29 t30 t31 t32 t33 t34 t35 t36 t37 t38 t39 t40 t41 t42 t43 t44 t45 t46 t47 t48 t49 t50 t51 t52 t53 t54 t55 t56 t57 t58 t59 t60 t61 t62 t63 t64 : Value) (c8 : W.cell? ⟨p, 8, none⟩ = some (.slice A n c)) (Y : y.In W gb)
    (hown : OwN W base 47 14 A n c (recsC l)) (hbase : base ≤ W.heap.size) (hn : n ≤ 100) (cs : Array Value) (ty : TypeId) (hblk : W.heap[p]? = some (.cells cs ty (0, 0))) (hty : ¬ blkOf A = some p)
    (hF : ∀ A' c' w1, OwN w1 base 47 14 A' (n + 1) c' (recsC (l ++ [y])) → Mod (fun k => blkOf A = some k) W w1 → (blkOf A' = blkOf A ∨ ∀ k, blkOf A' = some k → W.heap.size ≤ k) → Q .normal ⟨#[.pointer (some ⟨p, 0, none⟩), t1, t2, .pointer (some ⟨gb, 0, none⟩), t4, t5, t6, t7, t8, t9, t10, t11, t12, t13, t14, t15, t16, t17, t18, t19, t20, t21, t22, t23, t24, t25, t26, t27, t28, t29, t30, t31, t32, t33, t34, t35, t36, t37, t38, t39, t40, t41, t42, t43, .pointer (some ⟨p, 0, none⟩), .pointer (some ⟨p, 0, none⟩), .pointer (some ⟨p, 0, none⟩), .pointer (some ⟨p, 8, none⟩), .slice A n c, y.val, .slice (some ⟨W.heap.size, 0, none⟩) 1 1, .slice A' (n + 1) c', .pointer (some ⟨p, 0, none⟩), .pointer (some ⟨p, 8, none⟩), t54, t55, t56, t57, t58, t59, t60, t61, t62, t63, t64], []⟩ (w1.setCell ⟨p, 8, none⟩ (.slice A' (n + 1) c'))) :
    wpAnyH Tryz.prog .any ops Q (fun _ => True) 11 (Array.replicate 11 false) ⟨#[.pointer (some ⟨p, 0, none⟩), t1, t2, .pointer (some ⟨gb, 0, none⟩), t4, t5, t6, t7, t8, t9, t10, t11, t12, t13, t14, t15, t16, t17, t18, t19, t20, t21, t22, t23, t24, t25, t26, t27, t28, t29, t30, t31, t32, t33, t34, t35, t36, t37, t38, t39, t40, t41, t42, t43, t44, t45, t46, t47, t48, t49, t50, t51, t52, t53, t54, t55, t56, t57, t58, t59, t60, t61, t62, t63, t64], []⟩ W := by
  refine any_of_tree hsel hQ ap12Tree _ _ _ _ hB ?_
  have HF := Lib.hid hF
  have hml : Mod (fun _ => False) W (litW W y) := (Mod.refl _ W).alloc _
  have c8l : (litW W y).cell? ⟨p, 8, none⟩ = some (.slice A n c) := (World.cell?_of_block (hml.block p (World.block_lt_of_cell? W _ c8) id)).trans c8
  have Hown : Hid (OwN (litW W y) base 47 14 A n c (recsC l)) := hown.alloc _
  have Hsrc : Hid (SrcN (litW W y) (some ⟨W.heap.size, 0, none⟩) 1 14 (recsC [y])) := SrcN.rec1 W y _
  have Hb : Hid ((n + 1) * 144 ≤ 140737488355328 ∧ n + 1 ≤ maxLen ∧ base ≤ (litW W y).heap.size) := ⟨by omega, by unfold maxLen; omega, by simp; omega⟩
  clear hF hB hsel hQ hown hbase hn
  have tail : Hid (wpT Tryz.prog ops Q ap12T ⟨#[.pointer (some ⟨p, 0, none⟩), t1, t2, .pointer (some ⟨gb, 0, none⟩), t4, t5, t6, t7, t8, t9, t10, t11, t12, t13, t14, t15, t16, t17, t18, t19, t20, t21, t22, t23, t24, t25, t26, t27, t28, t29, t30, t31, t32, t33, t34, t35, t36, t37, t38, t39, t40, t41, t42, t43, .pointer (some ⟨p, 0, none⟩), .pointer (some ⟨p, 0, none⟩), .pointer (some ⟨p, 0, none⟩), .pointer (some ⟨p, 8, none⟩), .slice A n c, y.val, .slice (some ⟨W.heap.size, 0, none⟩) 1 1, t51, t52, t53, t54, t55, t56, t57, t58, t59, t60, t61, t62, t63, t64], []⟩ (litW W y)) := by
    show wpT _ _ _ _ _ _
    unfold ap12T
    refine tr_one hT (some 51) rfl (fun o hd hp => ?_)
    refine wp_appK (ad := ⟨W.heap.size, 0, none⟩) (m := 1) (c2 := 1) (.tmp 48) (.tmp 50) recElem hp rfl rfl Hown.out Hsrc.out (by omega) Hb.out.1 Hb.out.2.1 Hb.out.2.2 ?_
    intro A' c' w1 ho1 hg1 hk1 ho2
    rw [hd]
    simp only [Act.put, List.setIfInBounds_toArray, List.set_cons_zero, List.set_cons_succ]
    rw [← recsC_append] at ho1
    have hm1 : Mod (fun k => blkOf A = some k) W w1 := (hml.mono (fun _ _ h => h.elim)).grown hg1 (fun k e _ => e)
    clear o hd hp
    have hb1 := (hm1.block p (Array.getElem?_eq_some_iff.1 hblk).1 hty).trans hblk
    have f1 := frozen_of_block hb1 8
    have d1 : w1.cell? ⟨p, 8, none⟩ = some (.slice A n c) := (World.cell?_of_block (hm1.block p (Array.getElem?_eq_some_iff.1 hblk).1 hty)).trans c8
    have hk2 : blkOf A' = blkOf A ∨ ∀ k, blkOf A' = some k → W.heap.size ≤ k := by
      rcases hk1 with e | e
      · exact .inl e
      · right
        intro k hk
        rw [e] at hk
        injection hk with hk
        rw [← hk]
        simp
    have hfin := Lib.hid (HF.out A' c' w1 ho1 hm1 hk2)
    clear HF c8 Y
    refine tr_take hT 52 rfl (.pointer (some ⟨p, 0, none⟩)) (fun o hp w' => by clear hT hfin f1 d1; simp [hp, execOp, go_sem]) ?_
    simp only [Act.put, List.setIfInBounds_toArray, List.set_cons_zero, List.set_cons_succ]
    refine tr_take hT 53 rfl (.pointer (some ⟨p, 8, none⟩)) (fun o hp w' => by clear hT hfin f1 d1; simp [hp, execOp, go_sem]) ?_
    simp only [Act.put, List.setIfInBounds_toArray, List.set_cons_zero, List.set_cons_succ]
    refine tr_one hT none rfl (fun o hd hp => ?_)
    simp [Oper.wp, execOp, hp, hd, go_sem, f1, d1]
    exact hfin.out
  unfold ap12Tree
  refine tr_take hT 44 rfl (.pointer (some ⟨p, 0, none⟩)) (fun o hp w' => by clear hT HF c8 Y; simp [hp, execOp, go_sem]) ?_
  simp only [Act.put, List.setIfInBounds_toArray, List.set_cons_zero, List.set_cons_succ]
  refine tr_take hT 45 rfl (.pointer (some ⟨p, 0, none⟩)) (fun o hp w' => by clear hT HF c8 Y; simp [hp, execOp, go_sem]) ?_
  simp only [Act.put, List.setIfInBounds_toArray, List.set_cons_zero, List.set_cons_succ]
  refine tr_take hT 46 rfl (.pointer (some ⟨p, 0, none⟩)) (fun o hp w' => by clear hT HF c8 Y; simp [hp, execOp, go_sem]) ?_
  simp only [Act.put, List.setIfInBounds_toArray, List.set_cons_zero, List.set_cons_succ]
  refine tr_take hT 47 rfl (.pointer (some ⟨p, 8, none⟩)) (fun o hp w' => by clear hT HF c8 Y; simp [hp, execOp, go_sem]) ?_
  simp only [Act.put, List.setIfInBounds_toArray, List.set_cons_zero, List.set_cons_succ]
  refine tr_two ?_ ?_
  · refine tr_load hT 48 rfl (.slice A n c) (fun o hp => by clear hT HF; simp [hp, c8, execOp, go_sem]) ?_
    simp only [Act.put, List.setIfInBounds_toArray, List.set_cons_zero, List.set_cons_succ]
    refine tr_load hT 49 rfl (y.val) (fun o hp => by clear hT HF c8; have y0 := Y.kind; have y1 := Y.num (i := 1) (by omega) (by omega); have y2 := Y.num (i := 2) (by omega) (by omega); have y3 := Y.num (i := 3) (by omega) (by omega); have y4 := Y.num (i := 4) (by omega) (by omega); have y5 := Y.num (i := 5) (by omega) (by omega); have y6 := Y.num (i := 6) (by omega) (by omega); have y7 := Y.num (i := 7) (by omega) (by omega); have y8 := Y.num (i := 8) (by omega) (by omega); have y9 := Y.num (i := 9) (by omega) (by omega); have y10 := Y.c10; have y11 := Y.c11; have y12 := Y.c12; have y13 := Y.c13; simp [hp, y0, y1, y2, y3, y4, y5, y6, y7, y8, y9, y10, y11, y12, y13, execOp, go_sem]) ?_
    simp only [Act.put, List.setIfInBounds_toArray, List.set_cons_zero, List.set_cons_succ]
    refine tr_one hT (some 50) rfl (fun o hd hp => ?_)
    simp [Oper.wp, execOp, hp, hd, go_sem]
    clear o hd hp
    exact tail.out
  · refine tr_load hT 49 rfl (y.val) (fun o hp => by clear hT HF c8; have y0 := Y.kind; have y1 := Y.num (i := 1) (by omega) (by omega); have y2 := Y.num (i := 2) (by omega) (by omega); have y3 := Y.num (i := 3) (by omega) (by omega); have y4 := Y.num (i := 4) (by omega) (by omega); have y5 := Y.num (i := 5) (by omega) (by omega); have y6 := Y.num (i := 6) (by omega) (by omega); have y7 := Y.num (i := 7) (by omega) (by omega); have y8 := Y.num (i := 8) (by omega) (by omega); have y9 := Y.num (i := 9) (by omega) (by omega); have y10 := Y.c10; have y11 := Y.c11; have y12 := Y.c12; have y13 := Y.c13; simp [hp, y0, y1, y2, y3, y4, y5, y6, y7, y8, y9, y10, y11, y12, y13, execOp, go_sem]) ?_
    simp only [Act.put, List.setIfInBounds_toArray, List.set_cons_zero, List.set_cons_succ]
    refine tr_two ?_ ?_
    · refine tr_load hT 48 rfl (.slice A n c) (fun o hp => by clear hT HF; simp [hp, c8, execOp, go_sem]) ?_
      simp only [Act.put, List.setIfInBounds_toArray, List.set_cons_zero, List.set_cons_succ]
      refine tr_one hT (some 50) rfl (fun o hd hp => ?_)
      simp [Oper.wp, execOp, hp, hd, go_sem]
      clear o hd hp
      exact tail.out
    · refine tr_one hT (some 50) rfl (fun o hd hp => ?_)
      simp [Oper.wp, execOp, hp, hd, go_sem]
      clear o hd hp
      refine tr_load hT 48 rfl (.slice A n c) (fun o hp => by clear hT HF; simp [hp, c8l, execOp, go_sem]) ?_
      simp only [Act.put, List.setIfInBounds_toArray, List.set_cons_zero, List.set_cons_succ]
      exact tail.out

end Go.Proofs.YtnbamljaiahmdaaGreat
