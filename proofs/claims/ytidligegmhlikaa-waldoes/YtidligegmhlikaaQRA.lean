/-
  The document's log: Append, its region that draws its order.
  The document's log: Append.
  The document's log: Append, where it gives the log back.
-/
import Derived.Test.YtidligegmhlikaaQRR
import Derived.Test.YtidligegmhlikaaQD
namespace Go.Proofs.Ytidligegmhlikaa
open Go Go.RowKit Go.Shelf

def raOps : List (Option Tmp × Op × Option (Nat × Bool)) := [(some 25, .fieldAddr 35 (.tmp 2) 5, none), (some 26, .load 33 (.tmp 25), none), (some 27, .call { callee := .builtin .append, args := #[.const (.slice none 0 0), .tmp 26], argTypes := #[33, 33] }, none), (some 28, .load 40 (.tmp 3), none), (some 29, .buildSlice 33 1 #[(0, .tmp 28)], none), (some 30, .call { callee := .builtin .append, args := #[.tmp 27, .tmp 29], argTypes := #[33, 33] }, none), (some 10, .assign (.tmp 30), none)]
def raT : Tr := .one 5 (.take 6 .nil)
def raTree : Tr := .take 0 (.two 1 (.two 2 (.one 3 (.one 4 raT)) 3 (.two 2 (.one 4 raT) 4 (.one 2 raT))) 3 (.two 1 (.two 2 (.one 4 raT) 4 (.one 2 raT)) 4 (.one 1 (.one 2 raT))))

set_option maxRecDepth 100000 in
set_option maxHeartbeats 8000000 in
theorem ra_region {ops : Array Oper} {Q : Exit → Act → World → Prop} {W : World} (hT : ops.toList.map (fun o => (o.dst, o.op, o.guard)) = raOps) (hB : ordT ops raTree 7 (Array.replicate 7 false) = true) (hsel : Region.noSelect ops = true)
    (hQ : ∀ c a t v w, Q (.panic c) (a.put t v) w → Q (.panic c) a w) (b2 b3 : Nat) (A : Option Addr) (m c : Nat) (l : List RcD) (r : RcD) (t0 t1 t4 t5 t6 t7 t8 t9 t10 t11 t12 t13 t14 t15 t16 t17 t18 t19 t20 t21 t22 t23 t24 t25 t26 t27 t28 t29 t30 t31 t32 t33 t34 t35 t36 t37 t38 t39 t40 t41 t42 t43 t44 t45 t46 t47 t48 t49 t50 t51 t52 t53 t54 t55 t56 t57 t58 t59 t60 t61 t62 t63 t64 t65 t66 t67 t68 t69 t70 t71 t72 t73 t74 t75 t76 t77 t78 : Value) (c5 : W.cell? ⟨b2, 5, none⟩ = some (.slice A m c)) (Y : r.In W b3)
    (hrs : Rs W A m c l) (hm : m ≤ 100)
    (hF : ∀ A2 c2 gl A3 c3 w3, OwN w3 W.heap.size 40 14 A3 (m + 1) c3 (recsC (l ++ [r])) → Mod (fun _ => False) W w3 → Q .normal ⟨#[t0, t1, .pointer (some ⟨b2, 0, none⟩), .pointer (some ⟨b3, 0, none⟩), t4, t5, t6, t7, t8, t9, .slice A3 (m + 1) c3, t11, t12, t13, t14, t15, t16, t17, t18, t19, t20, t21, t22, t23, t24, .pointer (some ⟨b2, 5, none⟩), .slice A m c, .slice A2 m c2, r.val, .slice (some ⟨gl, 0, none⟩) 1 1, .slice A3 (m + 1) c3, t31, t32, t33, t34, t35, t36, t37, t38, t39, t40, t41, t42, t43, t44, t45, t46, t47, t48, t49, t50, t51, t52, t53, t54, t55, t56, t57, t58, t59, t60, t61, t62, t63, t64, t65, t66, t67, t68, t69, t70, t71, t72, t73, t74, t75, t76, t77, t78], []⟩ w3) :
    wpAnyH Try.prog .any ops Q (fun _ => True) 7 (Array.replicate 7 false) ⟨#[t0, t1, .pointer (some ⟨b2, 0, none⟩), .pointer (some ⟨b3, 0, none⟩), t4, t5, t6, t7, t8, t9, t10, t11, t12, t13, t14, t15, t16, t17, t18, t19, t20, t21, t22, t23, t24, t25, t26, t27, t28, t29, t30, t31, t32, t33, t34, t35, t36, t37, t38, t39, t40, t41, t42, t43, t44, t45, t46, t47, t48, t49, t50, t51, t52, t53, t54, t55, t56, t57, t58, t59, t60, t61, t62, t63, t64, t65, t66, t67, t68, t69, t70, t71, t72, t73, t74, t75, t76, t77, t78], []⟩ W := by
  refine any_of_tree hsel hQ raTree _ _ _ _ hB ?_
  have HF := Lib.hid hF
  have hml : Mod (fun _ => False) W (litW W r) := (Mod.refl _ W).alloc _
  have Hc5 : Hid (∀ V, Mod (fun _ => False) W V → V.cell? ⟨b2, 5, none⟩ = some (.slice A m c)) := fun V hV => (World.cell?_of_block (hV.block b2 (World.block_lt_of_cell? W _ c5) id)).trans c5
  have HY : Hid (∀ V, Mod (fun _ => False) W V → r.In V b3) := fun V hV => Y.keep hV
  have Hrs := Lib.hid hrs
  have Hb : Hid (m * 144 ≤ 140737488355328 ∧ m ≤ maxLen) := ⟨by omega, by unfold maxLen; omega⟩
  have Hb1 : Hid ((m + 1) * 144 ≤ 140737488355328 ∧ m + 1 ≤ maxLen) := ⟨by omega, by unfold maxLen; omega⟩
  clear hF hB hsel hQ hrs hm c5 Y
  have tail : Hid (∀ A2 c2 gl W5, OwN W5 W.heap.size 40 14 A2 m c2 (recsC l) → SrcN W5 (some ⟨gl, 0, none⟩) 1 14 (recsC [r]) → Mod (fun _ => False) W W5 → wpT Try.prog ops Q raT ⟨#[t0, t1, .pointer (some ⟨b2, 0, none⟩), .pointer (some ⟨b3, 0, none⟩), t4, t5, t6, t7, t8, t9, t10, t11, t12, t13, t14, t15, t16, t17, t18, t19, t20, t21, t22, t23, t24, .pointer (some ⟨b2, 5, none⟩), .slice A m c, .slice A2 m c2, r.val, .slice (some ⟨gl, 0, none⟩) 1 1, t30, t31, t32, t33, t34, t35, t36, t37, t38, t39, t40, t41, t42, t43, t44, t45, t46, t47, t48, t49, t50, t51, t52, t53, t54, t55, t56, t57, t58, t59, t60, t61, t62, t63, t64, t65, t66, t67, t68, t69, t70, t71, t72, t73, t74, t75, t76, t77, t78], []⟩ W5) := by
    intro A2 c2 gl W5 ho hs hm5
    unfold raT
    refine tr_one hT (some 30) rfl (fun o hd hp => ?_)
    refine wp_appN (A2 := some ⟨gl, 0, none⟩) (m := 1) (c2 := 1) (.tmp 27) (.tmp 29) recElem hp rfl rfl ho hs Hb1.out.1 Hb1.out.2 hm5.size ?_
    intro A3 c3 w3 ho3 hg3 hk3
    rw [hd]
    simp only [Act.put, List.setIfInBounds_toArray, List.set_cons_zero, List.set_cons_succ]
    rw [← recsC_append] at ho3
    clear o hd hp
    have hfin := Lib.hid (HF.out A2 c2 gl A3 c3 w3 ho3 (hm5.grown hg3 (fun k e hk => by have := (ho.lt k e).1; omega)))
    clear HF
    refine tr_take hT 10 rfl (.slice A3 (m + 1) c3) (fun o hp w' => by clear hT hfin; simp [hp, execOp, go_sem]) ?_
    simp only [Act.put, List.setIfInBounds_toArray, List.set_cons_zero, List.set_cons_succ]
    exact hfin.out
  unfold raTree
  refine tr_take hT 25 rfl (.pointer (some ⟨b2, 5, none⟩)) (fun o hp w' => by clear hT HF tail; simp [hp, execOp, go_sem]) ?_
  simp only [Act.put, List.setIfInBounds_toArray, List.set_cons_zero, List.set_cons_succ]
  have r0 := Mod.refl (fun _ => False) W
  refine tr_two ?_ ?_
  · refine tr_load hT 26 rfl (.slice A m c) (fun o hp => by have z := Hc5.out W r0; clear hT HF tail; simp [hp, z, execOp, go_sem]) ?_
    simp only [Act.put, List.setIfInBounds_toArray, List.set_cons_zero, List.set_cons_succ]
    refine tr_two ?_ ?_
    · refine tr_one hT (some 27) rfl (fun o hd hp => ?_)
      refine wp_appNil (base := W.heap.size) (A2 := A) (m := m) (c2 := c) (news := recsC l) (.tmp 26) recElem hp rfl (Hrs.out.src) Hb.out.1 Hb.out.2 (Nat.le_refl _) ?_
      intro A2 c2 wa hoa hma
      rw [hd]
      simp only [Act.put, List.setIfInBounds_toArray, List.set_cons_zero, List.set_cons_succ]
      clear o hd hp
      refine tr_load hT 28 rfl (r.val) (fun o hp => by have Y := HY.out wa hma; clear hT HF tail; have y0 := Y.kind; have y1 := Y.num (i := 1) (by omega) (by omega); have y2 := Y.num (i := 2) (by omega) (by omega); have y3 := Y.num (i := 3) (by omega) (by omega); have y4 := Y.num (i := 4) (by omega) (by omega); have y5 := Y.num (i := 5) (by omega) (by omega); have y6 := Y.num (i := 6) (by omega) (by omega); have y7 := Y.num (i := 7) (by omega) (by omega); have y8 := Y.num (i := 8) (by omega) (by omega); have y9 := Y.num (i := 9) (by omega) (by omega); have y10 := Y.c10; have y11 := Y.c11; have y12 := Y.c12; have y13 := Y.c13; simp [hp, y0, y1, y2, y3, y4, y5, y6, y7, y8, y9, y10, y11, y12, y13, execOp, go_sem]) ?_
      simp only [Act.put, List.setIfInBounds_toArray, List.set_cons_zero, List.set_cons_succ]
      refine tr_one hT (some 29) rfl (fun o hd hp => ?_)
      simp [Oper.wp, execOp, hp, hd, go_sem]
      clear o hd hp
      exact tail.out _ _ _ _ (hoa.alloc _) (SrcN.rec1 wa r _) (hma.alloc _)
    · refine tr_load hT 28 rfl (r.val) (fun o hp => by have Y := HY.out W r0; clear hT HF tail; have y0 := Y.kind; have y1 := Y.num (i := 1) (by omega) (by omega); have y2 := Y.num (i := 2) (by omega) (by omega); have y3 := Y.num (i := 3) (by omega) (by omega); have y4 := Y.num (i := 4) (by omega) (by omega); have y5 := Y.num (i := 5) (by omega) (by omega); have y6 := Y.num (i := 6) (by omega) (by omega); have y7 := Y.num (i := 7) (by omega) (by omega); have y8 := Y.num (i := 8) (by omega) (by omega); have y9 := Y.num (i := 9) (by omega) (by omega); have y10 := Y.c10; have y11 := Y.c11; have y12 := Y.c12; have y13 := Y.c13; simp [hp, y0, y1, y2, y3, y4, y5, y6, y7, y8, y9, y10, y11, y12, y13, execOp, go_sem]) ?_
      simp only [Act.put, List.setIfInBounds_toArray, List.set_cons_zero, List.set_cons_succ]
      refine tr_two ?_ ?_
      · refine tr_one hT (some 27) rfl (fun o hd hp => ?_)
        refine wp_appNil (base := W.heap.size) (A2 := A) (m := m) (c2 := c) (news := recsC l) (.tmp 26) recElem hp rfl (Hrs.out.src) Hb.out.1 Hb.out.2 (Nat.le_refl _) ?_
        intro A2 c2 wa hoa hma
        rw [hd]
        simp only [Act.put, List.setIfInBounds_toArray, List.set_cons_zero, List.set_cons_succ]
        clear o hd hp
        refine tr_one hT (some 29) rfl (fun o hd hp => ?_)
        simp [Oper.wp, execOp, hp, hd, go_sem]
        clear o hd hp
        exact tail.out _ _ _ _ (hoa.alloc _) (SrcN.rec1 wa r _) (hma.alloc _)
      · refine tr_one hT (some 29) rfl (fun o hd hp => ?_)
        simp [Oper.wp, execOp, hp, hd, go_sem]
        clear o hd hp
        refine tr_one hT (some 27) rfl (fun o hd hp => ?_)
        refine wp_appNil (base := W.heap.size) (A2 := A) (m := m) (c2 := c) (news := recsC l) (.tmp 26) recElem hp rfl ((Hrs.out.keep hml).src) Hb.out.1 Hb.out.2 hml.size ?_
        intro A2 c2 wa hoa hma
        rw [hd]
        simp only [Act.put, List.setIfInBounds_toArray, List.set_cons_zero, List.set_cons_succ]
        clear o hd hp
        exact tail.out _ _ _ _ hoa ((SrcN.rec1 W r _).keep hma) (hml.trans hma (fun _ _ h => h))
  · refine tr_load hT 28 rfl (r.val) (fun o hp => by have Y := HY.out W r0; clear hT HF tail; have y0 := Y.kind; have y1 := Y.num (i := 1) (by omega) (by omega); have y2 := Y.num (i := 2) (by omega) (by omega); have y3 := Y.num (i := 3) (by omega) (by omega); have y4 := Y.num (i := 4) (by omega) (by omega); have y5 := Y.num (i := 5) (by omega) (by omega); have y6 := Y.num (i := 6) (by omega) (by omega); have y7 := Y.num (i := 7) (by omega) (by omega); have y8 := Y.num (i := 8) (by omega) (by omega); have y9 := Y.num (i := 9) (by omega) (by omega); have y10 := Y.c10; have y11 := Y.c11; have y12 := Y.c12; have y13 := Y.c13; simp [hp, y0, y1, y2, y3, y4, y5, y6, y7, y8, y9, y10, y11, y12, y13, execOp, go_sem]) ?_
    simp only [Act.put, List.setIfInBounds_toArray, List.set_cons_zero, List.set_cons_succ]
    refine tr_two ?_ ?_
    · refine tr_load hT 26 rfl (.slice A m c) (fun o hp => by have z := Hc5.out W r0; clear hT HF tail; simp [hp, z, execOp, go_sem]) ?_
      simp only [Act.put, List.setIfInBounds_toArray, List.set_cons_zero, List.set_cons_succ]
      refine tr_two ?_ ?_
      · refine tr_one hT (some 27) rfl (fun o hd hp => ?_)
        refine wp_appNil (base := W.heap.size) (A2 := A) (m := m) (c2 := c) (news := recsC l) (.tmp 26) recElem hp rfl (Hrs.out.src) Hb.out.1 Hb.out.2 (Nat.le_refl _) ?_
        intro A2 c2 wa hoa hma
        rw [hd]
        simp only [Act.put, List.setIfInBounds_toArray, List.set_cons_zero, List.set_cons_succ]
        clear o hd hp
        refine tr_one hT (some 29) rfl (fun o hd hp => ?_)
        simp [Oper.wp, execOp, hp, hd, go_sem]
        clear o hd hp
        exact tail.out _ _ _ _ (hoa.alloc _) (SrcN.rec1 wa r _) (hma.alloc _)
      · refine tr_one hT (some 29) rfl (fun o hd hp => ?_)
        simp [Oper.wp, execOp, hp, hd, go_sem]
        clear o hd hp
        refine tr_one hT (some 27) rfl (fun o hd hp => ?_)
        refine wp_appNil (base := W.heap.size) (A2 := A) (m := m) (c2 := c) (news := recsC l) (.tmp 26) recElem hp rfl ((Hrs.out.keep hml).src) Hb.out.1 Hb.out.2 hml.size ?_
        intro A2 c2 wa hoa hma
        rw [hd]
        simp only [Act.put, List.setIfInBounds_toArray, List.set_cons_zero, List.set_cons_succ]
        clear o hd hp
        exact tail.out _ _ _ _ hoa ((SrcN.rec1 W r _).keep hma) (hml.trans hma (fun _ _ h => h))
    · refine tr_one hT (some 29) rfl (fun o hd hp => ?_)
      simp [Oper.wp, execOp, hp, hd, go_sem]
      clear o hd hp
      refine tr_load hT 26 rfl (.slice A m c) (fun o hp => by have z := Hc5.out _ hml; clear hT HF tail; simp [hp, z, execOp, go_sem]) ?_
      simp only [Act.put, List.setIfInBounds_toArray, List.set_cons_zero, List.set_cons_succ]
      refine tr_one hT (some 27) rfl (fun o hd hp => ?_)
      refine wp_appNil (base := W.heap.size) (A2 := A) (m := m) (c2 := c) (news := recsC l) (.tmp 26) recElem hp rfl ((Hrs.out.keep hml).src) Hb.out.1 Hb.out.2 hml.size ?_
      intro A2 c2 wa hoa hma
      rw [hd]
      simp only [Act.put, List.setIfInBounds_toArray, List.set_cons_zero, List.set_cons_succ]
      clear o hd hp
      exact tail.out _ _ _ _ hoa ((SrcN.rec1 W r _).keep hma) (hml.trans hma (fun _ _ h => h))
end Go.Proofs.Ytidligegmhlikaa

namespace Go.Proofs.Ytidligegmhlikaa
open Go Go.RowKit Go.Shelf

def growR (q : RL) (k : Int) : Bool := decide (k ≤ q.n - (q.nx - q.st)) && decide (q.nx + k ≤ 16777215)
/-- What an append does to the document's log. -/
inductive RA (q : RL) (r : RcD) : Int → Int → RL → Prop
  | arg (h : mayB r = false) : RA q r 0 1 q
  | full (h : mayB r = true) (hf : (q.l = [] ∧ growR q 1 = false) ∨ (q.l ≠ [] ∧ fitsB (q.l ++ [r]) = false ∧ growR q 2 = false)) : RA q r 0 4 q
  | fit (A : Option Addr) (c : Nat) (h : mayB r = true) (hg : q.l = [] → growR q 1 = true) (hf : fitsB (q.l ++ [r]) = true) : RA q r (256 * q.nx + q.l.length) 0 { q with A := A, m := q.m + 1, c := c, l := q.l ++ [r] }
  | next (A : Option Addr) (c : Nat) (h : mayB r = true) (hl : q.l ≠ []) (hf : fitsB (q.l ++ [r]) = false) (hg : growR q 2 = true) : RA q r (256 * (q.nx + 1)) 0 { q with nx := q.nx + 1, A := A, m := 1, c := c, l := [r] }
structure RAns (w : World) (q : RL) (r : RcD) (e : Ending) (w' : World) : Prop where
  ex : ∃ q' a er b, e = .returned (.tuple #[q'.val, .int .i64 a, .int .i64 er, .bool b]) ∧ RA q r a er q' ∧ Rs w' q'.A q'.m q'.c q'.l ∧ (∀ k, blkOf q'.A = some k → blkOf q.A = some k ∨ w.heap.size ≤ k)
  old : Mod (fun _ => False) w w'
/-- The log's box. -/
def LIn (w : World) (q : RL) (g : Nat) : Prop := w.heap[g]? = some (.cells q.cells 35 (0, 0))
section
variable {w w' : World} {q : RL} {g : Nat}
theorem LIn.lt (h : LIn w q g) : g < w.heap.size := (Array.getElem?_eq_some_iff.1 h).1
theorem LIn.fz (h : LIn w q g) (i : Nat) : w.frozen? ⟨g, i, none⟩ = false := frozen_of_block h i
theorem LIn.keep (h : LIn w q g) (hm : Mod (fun _ => False) w w') : LIn w' q g := (hm.block g h.lt id).trans h
theorem LIn.c0 (h : LIn w q g) : w.cell? ⟨g, 0, none⟩ = some (.int .i64 q.n) := by rw [cell_of_row w g 0 _ _ _ h]; rfl
theorem LIn.c1 (h : LIn w q g) : w.cell? ⟨g, 1, none⟩ = some (.int .i64 q.ep) := by rw [cell_of_row w g 1 _ _ _ h]; rfl
theorem LIn.c2 (h : LIn w q g) : w.cell? ⟨g, 2, none⟩ = some (.int .i64 q.st) := by rw [cell_of_row w g 2 _ _ _ h]; rfl
theorem LIn.c3 (h : LIn w q g) : w.cell? ⟨g, 3, none⟩ = some (.int .i64 q.nx) := by rw [cell_of_row w g 3 _ _ _ h]; rfl
theorem LIn.c4 (h : LIn w q g) : w.cell? ⟨g, 4, none⟩ = some (.int .i64 q.du) := by rw [cell_of_row w g 4 _ _ _ h]; rfl
theorem LIn.c5 (h : LIn w q g) : w.cell? ⟨g, 5, none⟩ = some (.slice q.A q.m q.c) := by rw [cell_of_row w g 5 _ _ _ h]; rfl
end
/-- A whole log is stored. -/
def stLog (W : World) (b : Nat) (q : RL) : World := (((((W.setCell ⟨b, 0, none⟩ (.int .i64 q.n)).setCell ⟨b, 1, none⟩ (.int .i64 q.ep)).setCell ⟨b, 2, none⟩ (.int .i64 q.st)).setCell ⟨b, 3, none⟩ (.int .i64 q.nx)).setCell ⟨b, 4, none⟩ (.int .i64 q.du)).setCell ⟨b, 5, none⟩ (.slice q.A q.m q.c)
theorem stLog_mod (W : World) (b : Nat) (q : RL) : Mod (fun k => k = b) W (stLog W b q) := by
  unfold stLog
  iterate 6 refine Mod.one ?_ _ _
  exact Mod.refl _ _
theorem stLog_in {W : World} {b : Nat} {p : RL} (h : LIn W p b) (q : RL) : LIn (stLog W b q) q b := by
  unfold stLog
  show _ = _
  rw [heap_set (heap_set (heap_set (heap_set (heap_set (heap_set h 0 _) 1 _) 2 _) 3 _) 4 _) 5 _]
  rfl
def RL.zero : RL := ⟨0, 0, 0, 0, 0, none, 0, 0, []⟩

set_option maxRecDepth 100000 in
set_option maxHeartbeats 2000000 in
theorem ra_arg (w : World) (q : RL) (hk : q.Ok) (hq : Rs w q.A q.m q.c q.l) (r : RcD) (hr : r.At w) (hmb : mayB r = false) : Calls Try.prog 14 #[q.val, r.val] w (RAns w q r) := by
  obtain ⟨w1, hw1⟩ : ∃ w1, ((w.alloc (.cells q.cells 35)).alloc (.cells r.cells 40)).alloc (.cells #[.int .i64 0, .int .i64 0, .int .i64 0, .int .i64 0, .int .i64 0, .slice none 0 0] 35) = w1 := ⟨_, rfl⟩
  have hm1 : Mod (fun _ => False) w w1 := by rw [← hw1]; exact (((Mod.refl _ w).alloc _).alloc _).alloc _
  have hsz : w1.heap.size = w.heap.size + 3 := by rw [← hw1]; simp
  have h2 : LIn w1 q w.heap.size := by
    rw [← hw1]
    exact (Below.heap_alloc _ _ _ (by simp; omega)).trans ((Below.heap_alloc _ _ _ (by simp)).trans (heap_alloc_new w _))
  have h3 : r.In w1 (w.heap.size + 1) := by
    rw [← hw1]
    refine (Below.heap_alloc _ _ _ (by simp)).trans ?_
    have := heap_alloc_new (w.alloc (.cells q.cells 35)) (.cells r.cells 40)
    simpa using this
  have h4 : LIn w1 RL.zero (w.heap.size + 2) := by
    rw [← hw1]
    have h0 := heap_alloc_new ((w.alloc (.cells q.cells 35)).alloc (.cells r.cells 40)) (.cells #[.int .i64 0, .int .i64 0, .int .i64 0, .int .i64 0, .int .i64 0, .slice none 0 0] 35)
    rw [show ((w.alloc (.cells q.cells 35)).alloc (.cells r.cells 40)).heap.size = w.heap.size + 2 by simp] at h0
    exact h0
  have hmay := rmay_ok w1 r
  rw [hmb] at hmay
  have Hmay := Lib.hid hmay
  have Hw1 := Lib.hid hw1
  have Hm1 := Lib.hid hm1
  have Hsz := Lib.hid hsz
  have H2 := Lib.hid h2
  have H3 := Lib.hid h3
  have H4 := Lib.hid h4
  have Hk := Lib.hid hk
  have Hq := Lib.hid hq
  have Hr := Lib.hid hr
  have Hmb := Lib.hid hmb
  have y0 := h3.kind
  have y1 := h3.num (i := 1) (by omega) (by omega)
  have y2 := h3.num (i := 2) (by omega) (by omega)
  have y3 := h3.num (i := 3) (by omega) (by omega)
  have y4 := h3.num (i := 4) (by omega) (by omega)
  have y5 := h3.num (i := 5) (by omega) (by omega)
  have y6 := h3.num (i := 6) (by omega) (by omega)
  have y7 := h3.num (i := 7) (by omega) (by omega)
  have y8 := h3.num (i := 8) (by omega) (by omega)
  have y9 := h3.num (i := 9) (by omega) (by omega)
  have y10 := h3.c10
  have y11 := h3.c11
  have y12 := h3.c12
  have y13 := h3.c13
  clear hmay hw1 hm1 hsz h2 h3 h4 hk hq hr hmb
  go_enter Try.func14, Try.ntmps14
  go_wp2_with fail
  rw [Hw1.out]
  clear Hw1
  refine Hmay.out.mono ?_
  rintro e w2 ⟨rfl, hm2⟩
  have h22 := H2.out.keep hm2
  have h42 := H4.out.keep hm2
  have H22 := Lib.hid h22
  have H32 := Lib.hid (H3.out.keep hm2)
  have H42 := Lib.hid h42
  have Hm2 := Lib.hid (Hm1.out.trans hm2 (fun _ _ h => h))
  have Hs2 : Hid (w.heap.size + 3 ≤ w2.heap.size) := by rw [← Hsz.out]; exact hm2.size
  clear hm2 Hmay H2 H3 H4 Hm1 Hsz y0 y1 y2 y3 y4 y5 y6 y7 y8 y9 y10 y11 y12 y13
  have a0 := h22.c0
  have a1 := h22.c1
  have a2 := h22.c2
  have a3 := h22.c3
  have a4 := h22.c4
  have a5 := h22.c5
  have z0 := h42.c0
  have z1 := h42.c1
  have z2 := h42.c2
  have z3 := h42.c3
  have z4 := h42.c4
  have z5 := h42.c5
  have fz := h42.fz
  clear h22 h42
  go_wp2
  refine bodyPost_ret (v := .tuple #[q.val, .int .i64 0, .int .i64 1, .bool false]) (by simp [results, Try.results14, go_sem, z0, z1, z2, z3, z4, z5]) rfl ?_
  have hst : Mod (fun k => k = w.heap.size + 2) w2 (stLog w2 (w.heap.size + 2) q) := stLog_mod _ _ _
  have hmm := Hm2.out.trans hst (fun k hk e => by omega)
  exact ⟨⟨q, 0, 1, false, rfl, .arg Hmb.out, Hq.out.keep hmm, fun _ h => .inl h⟩, hmm⟩

set_option maxRecDepth 100000 in
set_option maxHeartbeats 4000000 in
theorem ra_full0a (w : World) (q : RL) (hk : q.Ok) (hq : Rs w q.A q.m q.c q.l) (r : RcD) (hr : r.At w) (hmb : mayB r = true) (hl : q.l = []) (hf : q.n - (q.nx - q.st) < 1) : Calls Try.prog 14 #[q.val, r.val] w (RAns w q r) := by
  have hm0 : q.m = 0 := by rw [← hk.lm, hl]; rfl
  have HL := Lib.hid hl
  have Hm0 := Lib.hid hm0
  have HH := Lib.hid hf
  clear hl hm0 hf
  obtain ⟨w1, hw1⟩ : ∃ w1, ((w.alloc (.cells q.cells 35)).alloc (.cells r.cells 40)).alloc (.cells #[.int .i64 0, .int .i64 0, .int .i64 0, .int .i64 0, .int .i64 0, .slice none 0 0] 35) = w1 := ⟨_, rfl⟩
  have hm1 : Mod (fun _ => False) w w1 := by rw [← hw1]; exact (((Mod.refl _ w).alloc _).alloc _).alloc _
  have hsz : w1.heap.size = w.heap.size + 3 := by rw [← hw1]; simp
  have h2 : LIn w1 q w.heap.size := by
    rw [← hw1]
    exact (Below.heap_alloc _ _ _ (by simp; omega)).trans ((Below.heap_alloc _ _ _ (by simp)).trans (heap_alloc_new w _))
  have h3 : r.In w1 (w.heap.size + 1) := by
    rw [← hw1]
    refine (Below.heap_alloc _ _ _ (by simp)).trans ?_
    have := heap_alloc_new (w.alloc (.cells q.cells 35)) (.cells r.cells 40)
    simpa using this
  have h4 : LIn w1 RL.zero (w.heap.size + 2) := by
    rw [← hw1]
    have h0 := heap_alloc_new ((w.alloc (.cells q.cells 35)).alloc (.cells r.cells 40)) (.cells #[.int .i64 0, .int .i64 0, .int .i64 0, .int .i64 0, .int .i64 0, .slice none 0 0] 35)
    rw [show ((w.alloc (.cells q.cells 35)).alloc (.cells r.cells 40)).heap.size = w.heap.size + 2 by simp] at h0
    exact h0
  have hmay := rmay_ok w1 r
  rw [hmb] at hmay
  have Hmay := Lib.hid hmay
  have Hw1 := Lib.hid hw1
  have Hm1 := Lib.hid hm1
  have Hsz := Lib.hid hsz
  have H2 := Lib.hid h2
  have H3 := Lib.hid h3
  have H4 := Lib.hid h4
  have Hk := Lib.hid hk
  have Hq := Lib.hid hq
  have Hr := Lib.hid hr
  have Hmb := Lib.hid hmb
  have y0 := h3.kind
  have y1 := h3.num (i := 1) (by omega) (by omega)
  have y2 := h3.num (i := 2) (by omega) (by omega)
  have y3 := h3.num (i := 3) (by omega) (by omega)
  have y4 := h3.num (i := 4) (by omega) (by omega)
  have y5 := h3.num (i := 5) (by omega) (by omega)
  have y6 := h3.num (i := 6) (by omega) (by omega)
  have y7 := h3.num (i := 7) (by omega) (by omega)
  have y8 := h3.num (i := 8) (by omega) (by omega)
  have y9 := h3.num (i := 9) (by omega) (by omega)
  have y10 := h3.c10
  have y11 := h3.c11
  have y12 := h3.c12
  have y13 := h3.c13
  clear hmay hw1 hm1 hsz h2 h3 h4 hk hq hr hmb
  go_enter Try.func14, Try.ntmps14
  go_wp2_with fail
  rw [Hw1.out]
  clear Hw1
  refine Hmay.out.mono ?_
  rintro e w2 ⟨rfl, hm2⟩
  have h22 := H2.out.keep hm2
  have h42 := H4.out.keep hm2
  have H22 := Lib.hid h22
  have H32 := Lib.hid (H3.out.keep hm2)
  have H42 := Lib.hid h42
  have Hm2 := Lib.hid (Hm1.out.trans hm2 (fun _ _ h => h))
  have Hs2 : Hid (w.heap.size + 3 ≤ w2.heap.size) := by rw [← Hsz.out]; exact hm2.size
  clear hm2 Hmay H2 H3 H4 Hm1 Hsz y0 y1 y2 y3 y4 y5 y6 y7 y8 y9 y10 y11 y12 y13
  obtain ⟨n0, n1, s0, sn, nm, room, lm, few, some_⟩ := Hk.out
  have a0 := h22.c0
  have a1 := h22.c1
  have a2 := h22.c2
  have a3 := h22.c3
  have a4 := h22.c4
  have a5 := h22.c5
  have FB : Hid (∀ z : Int, z = q.n - (q.nx - q.st) → True) := fun _ _ => trivial
  clear h22 h42 FB
  go_wp2_with fail
  refine wp_region_held (by kernel_rfl) (ra_region (W := w2.drew) (by kernel_rfl) (by kernel_rfl) (by kernel_rfl) ?panic w.heap.size (w.heap.size + 1) q.A q.m q.c q.l r _ _ _ _ _ _ _ _ _ _ _ _ _ _ _ _ _ _ _ _ _ _ _ _ _ _ _ _ _ _ _ _ _ _ _ _ _ _ _ _ _ _ _ _ _ _ _ _ _ _ _ _ _ _ _ _ _ _ _ _ _ _ _ _ _ _ _ _ _ _ _ _ _ _ _ _ _ H22.out.c5 H32.out ((Hq.out.keep Hm2.out).keep ((Mod.refl _ w2).drew)) (by omega) ?fin)
  case panic =>
    intro c a t u w' hq
    cases t <;> exact hq
  intro A4 c4 gl A3 c3 w3 ho3 hm3
  have Hm3 := Lib.hid (Hm2.out.drew.trans hm3 (fun _ _ h => h))
  have h23 := LIn.keep (w := w2.drew) H22.out hm3
  have h43 := LIn.keep (w := w2.drew) H42.out hm3
  have H23 := Lib.hid h23
  have H43 := Lib.hid h43
  have H33 := Lib.hid (RcD.In.keep (w := w2.drew) H32.out hm3)
  have Hs3 : Hid (w.heap.size + 3 ≤ w3.heap.size) := Nat.le_trans Hs2.out hm3.size
  have Hnew : Hid (∀ k, blkOf A3 = some k → w.heap.size + 3 ≤ k) := fun k e => Nat.le_trans Hs2.out (ho3.lt k e).1
  have hrs3 : Rs w3 A3 (q.m + 1) c3 (q.l ++ [r]) := ho3.recs (fun y hy => by
    rcases List.mem_append.1 hy with hy | hy
    · exact (Hq.out.keep Hm3.out).ats y hy
    · rw [List.mem_singleton] at hy; subst hy; exact Hr.out.keep Hm3.out)
  have Hrs3 := Lib.hid hrs3
  have hfi := rfits_ok w3 A3 (q.m + 1) c3 (q.l ++ [r]) hrs3 (by omega)
  have hfi : Calls Try.prog 41 #[.slice A3 (q.m + 1) c3] w3 fun e w' => e = .returned (.bool (fitsB (q.l ++ [r]))) ∧ Mod (fun _ => False) w3 w' := hfi
  have Hfi := Lib.hid hfi
  clear a0 a1 a2 a3 a4 a5 H22 H32 H42 Hm2 Hs2 ho3 hm3 hrs3 hfi
  have a0 := h23.c0
  have a1 := h23.c1
  have a2 := h23.c2
  have a3 := h23.c3
  have a4 := h23.c4
  have a5 := h23.c5
  have z0 := h43.c0
  have z1 := h43.c1
  have z2 := h43.c2
  have z3 := h43.c3
  have z4 := h43.c4
  have z5 := h43.c5
  have fz := h43.fz
  have fy := h23.fz
  clear h23 h43
  have k0 : ((q.m : Int) == 0) = true := by rw [Hm0.out]; rfl
  have k1 : decide (q.n - (q.nx - q.st) < 1) = true := by simpa using HH.out
  clear Hfi
  go_wp2
  refine bodyPost_ret (v := .tuple #[q.val, .int .i64 0, .int .i64 4, .bool false]) (by simp [results, Try.results14, go_sem, z0, z1, z2, z3, z4, z5]) rfl ?_
  have hst : Mod (fun k => k = w.heap.size + 2) w3 (stLog w3 (w.heap.size + 2) q) := stLog_mod _ _ _
  have hmm := Hm3.out.trans hst (fun k hk e => by omega)
  exact ⟨⟨q, 0, 4, false, rfl, .full Hmb.out (.inl ⟨HL.out, by have := HH.out; unfold growR; rw [decide_eq_false (by omega)]; rfl⟩), Hq.out.keep hmm, fun _ h => .inl h⟩, hmm⟩

set_option maxRecDepth 100000 in
set_option maxHeartbeats 4000000 in
theorem ra_full0b (w : World) (q : RL) (hk : q.Ok) (hq : Rs w q.A q.m q.c q.l) (r : RcD) (hr : r.At w) (hmb : mayB r = true) (hl : q.l = []) (hf : ¬ q.n - (q.nx - q.st) < 1 ∧ 16777215 < q.nx + 1) : Calls Try.prog 14 #[q.val, r.val] w (RAns w q r) := by
  have hm0 : q.m = 0 := by rw [← hk.lm, hl]; rfl
  have HL := Lib.hid hl
  have Hm0 := Lib.hid hm0
  have HH := Lib.hid hf
  clear hl hm0 hf
  obtain ⟨w1, hw1⟩ : ∃ w1, ((w.alloc (.cells q.cells 35)).alloc (.cells r.cells 40)).alloc (.cells #[.int .i64 0, .int .i64 0, .int .i64 0, .int .i64 0, .int .i64 0, .slice none 0 0] 35) = w1 := ⟨_, rfl⟩
  have hm1 : Mod (fun _ => False) w w1 := by rw [← hw1]; exact (((Mod.refl _ w).alloc _).alloc _).alloc _
  have hsz : w1.heap.size = w.heap.size + 3 := by rw [← hw1]; simp
  have h2 : LIn w1 q w.heap.size := by
    rw [← hw1]
    exact (Below.heap_alloc _ _ _ (by simp; omega)).trans ((Below.heap_alloc _ _ _ (by simp)).trans (heap_alloc_new w _))
  have h3 : r.In w1 (w.heap.size + 1) := by
    rw [← hw1]
    refine (Below.heap_alloc _ _ _ (by simp)).trans ?_
    have := heap_alloc_new (w.alloc (.cells q.cells 35)) (.cells r.cells 40)
    simpa using this
  have h4 : LIn w1 RL.zero (w.heap.size + 2) := by
    rw [← hw1]
    have h0 := heap_alloc_new ((w.alloc (.cells q.cells 35)).alloc (.cells r.cells 40)) (.cells #[.int .i64 0, .int .i64 0, .int .i64 0, .int .i64 0, .int .i64 0, .slice none 0 0] 35)
    rw [show ((w.alloc (.cells q.cells 35)).alloc (.cells r.cells 40)).heap.size = w.heap.size + 2 by simp] at h0
    exact h0
  have hmay := rmay_ok w1 r
  rw [hmb] at hmay
  have Hmay := Lib.hid hmay
  have Hw1 := Lib.hid hw1
  have Hm1 := Lib.hid hm1
  have Hsz := Lib.hid hsz
  have H2 := Lib.hid h2
  have H3 := Lib.hid h3
  have H4 := Lib.hid h4
  have Hk := Lib.hid hk
  have Hq := Lib.hid hq
  have Hr := Lib.hid hr
  have Hmb := Lib.hid hmb
  have y0 := h3.kind
  have y1 := h3.num (i := 1) (by omega) (by omega)
  have y2 := h3.num (i := 2) (by omega) (by omega)
  have y3 := h3.num (i := 3) (by omega) (by omega)
  have y4 := h3.num (i := 4) (by omega) (by omega)
  have y5 := h3.num (i := 5) (by omega) (by omega)
  have y6 := h3.num (i := 6) (by omega) (by omega)
  have y7 := h3.num (i := 7) (by omega) (by omega)
  have y8 := h3.num (i := 8) (by omega) (by omega)
  have y9 := h3.num (i := 9) (by omega) (by omega)
  have y10 := h3.c10
  have y11 := h3.c11
  have y12 := h3.c12
  have y13 := h3.c13
  clear hmay hw1 hm1 hsz h2 h3 h4 hk hq hr hmb
  go_enter Try.func14, Try.ntmps14
  go_wp2_with fail
  rw [Hw1.out]
  clear Hw1
  refine Hmay.out.mono ?_
  rintro e w2 ⟨rfl, hm2⟩
  have h22 := H2.out.keep hm2
  have h42 := H4.out.keep hm2
  have H22 := Lib.hid h22
  have H32 := Lib.hid (H3.out.keep hm2)
  have H42 := Lib.hid h42
  have Hm2 := Lib.hid (Hm1.out.trans hm2 (fun _ _ h => h))
  have Hs2 : Hid (w.heap.size + 3 ≤ w2.heap.size) := by rw [← Hsz.out]; exact hm2.size
  clear hm2 Hmay H2 H3 H4 Hm1 Hsz y0 y1 y2 y3 y4 y5 y6 y7 y8 y9 y10 y11 y12 y13
  obtain ⟨n0, n1, s0, sn, nm, room, lm, few, some_⟩ := Hk.out
  have a0 := h22.c0
  have a1 := h22.c1
  have a2 := h22.c2
  have a3 := h22.c3
  have a4 := h22.c4
  have a5 := h22.c5
  have FB : Hid (∀ z : Int, z = q.n - (q.nx - q.st) → True) := fun _ _ => trivial
  clear h22 h42 FB
  go_wp2_with fail
  refine wp_region_held (by kernel_rfl) (ra_region (W := w2.drew) (by kernel_rfl) (by kernel_rfl) (by kernel_rfl) ?panic w.heap.size (w.heap.size + 1) q.A q.m q.c q.l r _ _ _ _ _ _ _ _ _ _ _ _ _ _ _ _ _ _ _ _ _ _ _ _ _ _ _ _ _ _ _ _ _ _ _ _ _ _ _ _ _ _ _ _ _ _ _ _ _ _ _ _ _ _ _ _ _ _ _ _ _ _ _ _ _ _ _ _ _ _ _ _ _ _ _ _ _ H22.out.c5 H32.out ((Hq.out.keep Hm2.out).keep ((Mod.refl _ w2).drew)) (by omega) ?fin)
  case panic =>
    intro c a t u w' hq
    cases t <;> exact hq
  intro A4 c4 gl A3 c3 w3 ho3 hm3
  have Hm3 := Lib.hid (Hm2.out.drew.trans hm3 (fun _ _ h => h))
  have h23 := LIn.keep (w := w2.drew) H22.out hm3
  have h43 := LIn.keep (w := w2.drew) H42.out hm3
  have H23 := Lib.hid h23
  have H43 := Lib.hid h43
  have H33 := Lib.hid (RcD.In.keep (w := w2.drew) H32.out hm3)
  have Hs3 : Hid (w.heap.size + 3 ≤ w3.heap.size) := Nat.le_trans Hs2.out hm3.size
  have Hnew : Hid (∀ k, blkOf A3 = some k → w.heap.size + 3 ≤ k) := fun k e => Nat.le_trans Hs2.out (ho3.lt k e).1
  have hrs3 : Rs w3 A3 (q.m + 1) c3 (q.l ++ [r]) := ho3.recs (fun y hy => by
    rcases List.mem_append.1 hy with hy | hy
    · exact (Hq.out.keep Hm3.out).ats y hy
    · rw [List.mem_singleton] at hy; subst hy; exact Hr.out.keep Hm3.out)
  have Hrs3 := Lib.hid hrs3
  have hfi := rfits_ok w3 A3 (q.m + 1) c3 (q.l ++ [r]) hrs3 (by omega)
  have hfi : Calls Try.prog 41 #[.slice A3 (q.m + 1) c3] w3 fun e w' => e = .returned (.bool (fitsB (q.l ++ [r]))) ∧ Mod (fun _ => False) w3 w' := hfi
  have Hfi := Lib.hid hfi
  clear a0 a1 a2 a3 a4 a5 H22 H32 H42 Hm2 Hs2 ho3 hm3 hrs3 hfi
  have a0 := h23.c0
  have a1 := h23.c1
  have a2 := h23.c2
  have a3 := h23.c3
  have a4 := h23.c4
  have a5 := h23.c5
  have z0 := h43.c0
  have z1 := h43.c1
  have z2 := h43.c2
  have z3 := h43.c3
  have z4 := h43.c4
  have z5 := h43.c5
  have fz := h43.fz
  have fy := h23.fz
  clear h23 h43
  have k0 : ((q.m : Int) == 0) = true := by rw [Hm0.out]; rfl
  have k1 : decide (q.n - (q.nx - q.st) < 1) = false := by simpa using HH.out.1
  have k2 : decide (16777215 < q.nx + 1) = true := by simpa using HH.out.2
  clear Hfi
  go_wp2
  refine bodyPost_ret (v := .tuple #[q.val, .int .i64 0, .int .i64 4, .bool false]) (by simp [results, Try.results14, go_sem, z0, z1, z2, z3, z4, z5]) rfl ?_
  have hst : Mod (fun k => k = w.heap.size + 2) w3 (stLog w3 (w.heap.size + 2) q) := stLog_mod _ _ _
  have hmm := Hm3.out.trans hst (fun k hk e => by omega)
  exact ⟨⟨q, 0, 4, false, rfl, .full Hmb.out (.inl ⟨HL.out, by have := HH.out; unfold growR; rw [decide_eq_false (p := q.nx + 1 ≤ 16777215) (by omega), Bool.and_false]⟩), Hq.out.keep hmm, fun _ h => .inl h⟩, hmm⟩

theorem growR_iff {q : RL} {k : Int} : growR q k = true ↔ k ≤ q.n - (q.nx - q.st) ∧ q.nx + k ≤ 16777215 := by simp [growR]
end Go.Proofs.Ytidligegmhlikaa

namespace Go.Proofs.Ytidligegmhlikaa
open Go Go.RowKit Go.Shelf

def ra11Ops : List (Option Tmp × Op × Option (Nat × Bool)) := [(some 51, .load 35 (.tmp 2), none), (some 52, .fieldAddr 35 (.tmp 2) 3, none), (some 53, .load 3 (.tmp 52), none), (some 54, .binOp .mul 3 (.tmp 53) (.const (.int .i64 256)) 3, none), (some 55, .move (.tmp 10), none), (some 56, .call { callee := .builtin .len, args := #[.tmp 55], argTypes := #[33] }, none), (some 57, .binOp .add 3 (.tmp 54) (.tmp 56) 3, none), (some 58, .binOp .sub 3 (.tmp 57) (.const (.int .i64 1)) 3, none), (none, .store 35 (.tmp 4) (.tmp 51), none), (some 5, .assign (.tmp 58), none), (some 6, .assign (.const (.int .i64 0)), none), (some 7, .assign (.const (.bool false)), none)]
def ra11Tree : Tr := .take 0 (.take 1 (.take 2 (.take 3 (.take 4 (.take 5 (.take 6 (.take 7 (.one 8 (.take 9 (.take 10 (.take 11 .nil)))))))))))
set_option maxRecDepth 100000 in
set_option maxHeartbeats 4000000 in
theorem ra11_region {ops : Array Oper} {Q : Exit → Act → World → Prop} {W : World} (hT : ops.toList.map (fun o => (o.dst, o.op, o.guard)) = ra11Ops) (hB : ordT ops ra11Tree 12 (Array.replicate 12 false) = true) (hsel : Region.noSelect ops = true)
    (hQ : ∀ c a t v w, Q (.panic c) (a.put t v) w → Q (.panic c) a w) (b2 b4 : Nat) (hb : b2 ≠ b4) (q : RL) (A : Option Addr) (m c : Nat) (t0 t1 t3 t5 t6 t7 t8 t9 t11 t12 t13 t14 t15 t16 t17 t18 t19 t20 t21 t22 t23 t24 t25 t26 t27 t28 t29 t30 t31 t32 t33 t34 t35 t36 t37 t38 t39 t40 t41 t42 t43 t44 t45 t46 t47 t48 t49 t50 t51 t52 t53 t54 t55 t56 t57 t58 t59 t60 t61 t62 t63 t64 t65 t66 t67 t68 t69 t70 t71 t72 t73 t74 t75 t76 t77 t78 : Value) (hI : LIn W q b2) (hZ : LIn W RL.zero b4)
    (hF : Q .normal ⟨#[t0, t1, .pointer (some ⟨b2, 0, none⟩), t3, .pointer (some ⟨b4, 0, none⟩), .int .i64 (IntKind.i64.wrap (IntKind.i64.wrap (IntKind.i64.wrap (q.nx * 256) + (m : Int)) - 1)), .int .i64 0, .bool false, t8, t9, .slice A m c, t11, t12, t13, t14, t15, t16, t17, t18, t19, t20, t21, t22, t23, t24, t25, t26, t27, t28, t29, t30, t31, t32, t33, t34, t35, t36, t37, t38, t39, t40, t41, t42, t43, t44, t45, t46, t47, t48, t49, t50, q.val, .pointer (some ⟨b2, 3, none⟩), .int .i64 q.nx, .int .i64 (IntKind.i64.wrap (q.nx * 256)), .slice A m c, .int .i64 (m : Int), .int .i64 (IntKind.i64.wrap (IntKind.i64.wrap (q.nx * 256) + (m : Int))), .int .i64 (IntKind.i64.wrap (IntKind.i64.wrap (IntKind.i64.wrap (q.nx * 256) + (m : Int)) - 1)), t59, t60, t61, t62, t63, t64, t65, t66, t67, t68, t69, t70, t71, t72, t73, t74, t75, t76, t77, t78], []⟩ (stLog W b4 q)) :
    wpAnyH Try.prog .any ops Q (fun w' => LIn w' q b2) 12 (Array.replicate 12 false) ⟨#[t0, t1, .pointer (some ⟨b2, 0, none⟩), t3, .pointer (some ⟨b4, 0, none⟩), t5, t6, t7, t8, t9, .slice A m c, t11, t12, t13, t14, t15, t16, t17, t18, t19, t20, t21, t22, t23, t24, t25, t26, t27, t28, t29, t30, t31, t32, t33, t34, t35, t36, t37, t38, t39, t40, t41, t42, t43, t44, t45, t46, t47, t48, t49, t50, t51, t52, t53, t54, t55, t56, t57, t58, t59, t60, t61, t62, t63, t64, t65, t66, t67, t68, t69, t70, t71, t72, t73, t74, t75, t76, t77, t78], []⟩ W := by
  refine any_of_treeS hsel hQ ra11Tree _ _ _ _ hB ?_
  have HF := Lib.hid hF
  clear hF hB hsel hQ
  unfold ra11Tree
  refine ts_take hT 51 rfl (q.val) (fun o hp w' hw' => by have a0 := hw'.c0; have a1 := hw'.c1; have a2 := hw'.c2; have a3 := hw'.c3; have a4 := hw'.c4; have a5 := hw'.c5; clear hT HF hI; simp [hp, a0, a1, a2, a3, a4, a5, execOp, go_sem]) hI ?_
  simp only [Act.put, List.setIfInBounds_toArray, List.set_cons_zero, List.set_cons_succ]
  refine ts_take hT 52 rfl (.pointer (some ⟨b2, 3, none⟩)) (fun o hp w' _ => by clear hT HF hI; simp [hp, execOp, go_sem]) hI ?_
  simp only [Act.put, List.setIfInBounds_toArray, List.set_cons_zero, List.set_cons_succ]
  refine ts_take hT 53 rfl (.int .i64 q.nx) (fun o hp w' hw' => by have a3 := hw'.c3; clear hT HF hI; simp [hp, a3, execOp, go_sem]) hI ?_
  simp only [Act.put, List.setIfInBounds_toArray, List.set_cons_zero, List.set_cons_succ]
  refine ts_take hT 54 rfl (.int .i64 (IntKind.i64.wrap (q.nx * 256))) (fun o hp w' _ => by clear hT HF hI; simp [hp, execOp, go_sem]) hI ?_
  simp only [Act.put, List.setIfInBounds_toArray, List.set_cons_zero, List.set_cons_succ]
  refine ts_take hT 55 rfl (.slice A m c) (fun o hp w' _ => by clear hT HF hI; simp [hp, execOp, go_sem]) hI ?_
  simp only [Act.put, List.setIfInBounds_toArray, List.set_cons_zero, List.set_cons_succ]
  refine ts_take hT 56 rfl (.int .i64 (m : Int)) (fun o hp w' _ => by clear hT HF hI; simp [hp, execOp, go_sem]) hI ?_
  simp only [Act.put, List.setIfInBounds_toArray, List.set_cons_zero, List.set_cons_succ]
  refine ts_take hT 57 rfl (.int .i64 (IntKind.i64.wrap (IntKind.i64.wrap (q.nx * 256) + (m : Int)))) (fun o hp w' _ => by clear hT HF hI; simp [hp, execOp, go_sem]) hI ?_
  simp only [Act.put, List.setIfInBounds_toArray, List.set_cons_zero, List.set_cons_succ]
  refine ts_take hT 58 rfl (.int .i64 (IntKind.i64.wrap (IntKind.i64.wrap (IntKind.i64.wrap (q.nx * 256) + (m : Int)) - 1))) (fun o hp w' _ => by clear hT HF hI; simp [hp, execOp, go_sem]) hI ?_
  simp only [Act.put, List.setIfInBounds_toArray, List.set_cons_zero, List.set_cons_succ]
  have z0 := hZ.c0
  have z1 := hZ.c1
  have z2 := hZ.c2
  have z3 := hZ.c3
  have z4 := hZ.c4
  have z5 := hZ.c5
  have fz := hZ.fz
  have hI2 : LIn (stLog W b4 q) q b2 := ((stLog_mod W b4 q).block b2 hI.lt hb).trans hI
  have HI2 := Lib.hid hI2
  refine ts_one hT none rfl (fun o hd hp => ?_)
  clear hI hI2 hZ
  simp [Oper.wp, execOp, hp, hd, go_sem, z0, z1, z2, z3, z4, z5, fz]
  clear o hd hp z0 z1 z2 z3 z4 z5 fz
  refine ⟨HI2.out, ?_⟩
  refine ts_take hT 5 rfl (.int .i64 (IntKind.i64.wrap (IntKind.i64.wrap (IntKind.i64.wrap (q.nx * 256) + (m : Int)) - 1))) (fun o hp w' _ => by clear hT HF HI2; simp [hp, execOp, go_sem]) HI2.out ?_
  simp only [Act.put, List.setIfInBounds_toArray, List.set_cons_zero, List.set_cons_succ]
  refine ts_take hT 6 rfl (.int .i64 0) (fun o hp w' _ => by clear hT HF HI2; simp [hp, execOp, go_sem]) HI2.out ?_
  simp only [Act.put, List.setIfInBounds_toArray, List.set_cons_zero, List.set_cons_succ]
  refine ts_take hT 7 rfl (.bool false) (fun o hp w' _ => by clear hT HF HI2; simp [hp, execOp, go_sem]) HI2.out ?_
  simp only [Act.put, List.setIfInBounds_toArray, List.set_cons_zero, List.set_cons_succ]
  exact HF.out

def ra16Ops : List (Option Tmp × Op × Option (Nat × Bool)) := [(some 75, .load 35 (.tmp 2), none), (some 76, .fieldAddr 35 (.tmp 2) 3, none), (some 77, .load 3 (.tmp 76), none), (some 78, .binOp .mul 3 (.tmp 77) (.const (.int .i64 256)) 3, none), (none, .store 35 (.tmp 4) (.tmp 75), none), (some 5, .assign (.tmp 78), none), (some 6, .assign (.const (.int .i64 0)), none), (some 7, .assign (.const (.bool true)), none)]
def ra16Tree : Tr := .take 0 (.take 1 (.take 2 (.take 3 (.one 4 (.take 5 (.take 6 (.take 7 .nil)))))))
set_option maxRecDepth 100000 in
set_option maxHeartbeats 4000000 in
theorem ra16_region {ops : Array Oper} {Q : Exit → Act → World → Prop} {W : World} (hT : ops.toList.map (fun o => (o.dst, o.op, o.guard)) = ra16Ops) (hB : ordT ops ra16Tree 8 (Array.replicate 8 false) = true) (hsel : Region.noSelect ops = true)
    (hQ : ∀ c a t v w, Q (.panic c) (a.put t v) w → Q (.panic c) a w) (b2 b4 : Nat) (hb : b2 ≠ b4) (q : RL)  (t0 t1 t3 t5 t6 t7 t8 t9 t10 t11 t12 t13 t14 t15 t16 t17 t18 t19 t20 t21 t22 t23 t24 t25 t26 t27 t28 t29 t30 t31 t32 t33 t34 t35 t36 t37 t38 t39 t40 t41 t42 t43 t44 t45 t46 t47 t48 t49 t50 t51 t52 t53 t54 t55 t56 t57 t58 t59 t60 t61 t62 t63 t64 t65 t66 t67 t68 t69 t70 t71 t72 t73 t74 t75 t76 t77 t78 : Value) (hI : LIn W q b2) (hZ : LIn W RL.zero b4)
    (hF : Q .normal ⟨#[t0, t1, .pointer (some ⟨b2, 0, none⟩), t3, .pointer (some ⟨b4, 0, none⟩), .int .i64 (IntKind.i64.wrap (q.nx * 256)), .int .i64 0, .bool true, t8, t9, t10, t11, t12, t13, t14, t15, t16, t17, t18, t19, t20, t21, t22, t23, t24, t25, t26, t27, t28, t29, t30, t31, t32, t33, t34, t35, t36, t37, t38, t39, t40, t41, t42, t43, t44, t45, t46, t47, t48, t49, t50, t51, t52, t53, t54, t55, t56, t57, t58, t59, t60, t61, t62, t63, t64, t65, t66, t67, t68, t69, t70, t71, t72, t73, t74, q.val, .pointer (some ⟨b2, 3, none⟩), .int .i64 q.nx, .int .i64 (IntKind.i64.wrap (q.nx * 256))], []⟩ (stLog W b4 q)) :
    wpAnyH Try.prog .any ops Q (fun w' => LIn w' q b2) 8 (Array.replicate 8 false) ⟨#[t0, t1, .pointer (some ⟨b2, 0, none⟩), t3, .pointer (some ⟨b4, 0, none⟩), t5, t6, t7, t8, t9, t10, t11, t12, t13, t14, t15, t16, t17, t18, t19, t20, t21, t22, t23, t24, t25, t26, t27, t28, t29, t30, t31, t32, t33, t34, t35, t36, t37, t38, t39, t40, t41, t42, t43, t44, t45, t46, t47, t48, t49, t50, t51, t52, t53, t54, t55, t56, t57, t58, t59, t60, t61, t62, t63, t64, t65, t66, t67, t68, t69, t70, t71, t72, t73, t74, t75, t76, t77, t78], []⟩ W := by
  refine any_of_treeS hsel hQ ra16Tree _ _ _ _ hB ?_
  have HF := Lib.hid hF
  clear hF hB hsel hQ
  unfold ra16Tree
  refine ts_take hT 75 rfl (q.val) (fun o hp w' hw' => by have a0 := hw'.c0; have a1 := hw'.c1; have a2 := hw'.c2; have a3 := hw'.c3; have a4 := hw'.c4; have a5 := hw'.c5; clear hT HF hI; simp [hp, a0, a1, a2, a3, a4, a5, execOp, go_sem]) hI ?_
  simp only [Act.put, List.setIfInBounds_toArray, List.set_cons_zero, List.set_cons_succ]
  refine ts_take hT 76 rfl (.pointer (some ⟨b2, 3, none⟩)) (fun o hp w' _ => by clear hT HF hI; simp [hp, execOp, go_sem]) hI ?_
  simp only [Act.put, List.setIfInBounds_toArray, List.set_cons_zero, List.set_cons_succ]
  refine ts_take hT 77 rfl (.int .i64 q.nx) (fun o hp w' hw' => by have a3 := hw'.c3; clear hT HF hI; simp [hp, a3, execOp, go_sem]) hI ?_
  simp only [Act.put, List.setIfInBounds_toArray, List.set_cons_zero, List.set_cons_succ]
  refine ts_take hT 78 rfl (.int .i64 (IntKind.i64.wrap (q.nx * 256))) (fun o hp w' _ => by clear hT HF hI; simp [hp, execOp, go_sem]) hI ?_
  simp only [Act.put, List.setIfInBounds_toArray, List.set_cons_zero, List.set_cons_succ]
  have z0 := hZ.c0
  have z1 := hZ.c1
  have z2 := hZ.c2
  have z3 := hZ.c3
  have z4 := hZ.c4
  have z5 := hZ.c5
  have fz := hZ.fz
  have hI2 : LIn (stLog W b4 q) q b2 := ((stLog_mod W b4 q).block b2 hI.lt hb).trans hI
  have HI2 := Lib.hid hI2
  refine ts_one hT none rfl (fun o hd hp => ?_)
  clear hI hI2 hZ
  simp [Oper.wp, execOp, hp, hd, go_sem, z0, z1, z2, z3, z4, z5, fz]
  clear o hd hp z0 z1 z2 z3 z4 z5 fz
  refine ⟨HI2.out, ?_⟩
  refine ts_take hT 5 rfl (.int .i64 (IntKind.i64.wrap (q.nx * 256))) (fun o hp w' _ => by clear hT HF HI2; simp [hp, execOp, go_sem]) HI2.out ?_
  simp only [Act.put, List.setIfInBounds_toArray, List.set_cons_zero, List.set_cons_succ]
  refine ts_take hT 6 rfl (.int .i64 0) (fun o hp w' _ => by clear hT HF HI2; simp [hp, execOp, go_sem]) HI2.out ?_
  simp only [Act.put, List.setIfInBounds_toArray, List.set_cons_zero, List.set_cons_succ]
  refine ts_take hT 7 rfl (.bool true) (fun o hp w' _ => by clear hT HF HI2; simp [hp, execOp, go_sem]) HI2.out ?_
  simp only [Act.put, List.setIfInBounds_toArray, List.set_cons_zero, List.set_cons_succ]
  exact HF.out

end Go.Proofs.Ytidligegmhlikaa
