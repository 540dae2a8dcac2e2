/-
  The drawn regions of wal.Read's loop body.
-/
import Derived.Test.YtnbamljaiahmdaaGreatQRd
import Derived.Test.YtnbamljaiahmdaaGreatQRdR
namespace Go.Proofs.YtnbamljaiahmdaaGreat
open Go Go.RowKit Go.Shelf

/-- A record with its LSN. -/
structure LgD where
  a : Int
  r : RcD
abbrev LgD.cells (y : LgD) : Array Value := #[.int .i64 y.a, .int .i64 y.r.k, .int .i64 (y.r.f 1), .int .i64 (y.r.f 2), .int .i64 (y.r.f 3), .int .i64 (y.r.f 4), .int .i64 (y.r.f 5), .int .i64 (y.r.f 6), .int .i64 (y.r.f 7), .int .i64 (y.r.f 8), .int .i64 (y.r.f 9), .bool y.r.o.is, .slice y.r.o.B y.r.o.m y.r.o.d, .bool y.r.v.is, .slice y.r.v.B y.r.v.m y.r.v.d]
def LgD.p (y : LgD) : Int × Rc := (y.a, y.r.p)
def lgC (l : List LgD) : List Value := l.flatMap fun y => y.cells.toList
theorem lgC_snoc (l : List LgD) (y : LgD) : lgC (l ++ [y]) = lgC l ++ y.cells.toList := by simp [lgC]
theorem lgElem : ElemN Tryz.prog 30 71 (.agg #[.int .i64 0, .int .i64 0, .int .i64 0, .int .i64 0, .int .i64 0, .int .i64 0, .int .i64 0, .int .i64 0, .int .i64 0, .int .i64 0, .int .i64 0, .bool false, .slice none 0 0, .bool false, .slice none 0 0]) 15 152 :=
  ElemN.mk_ Tryz.underlying30 rfl (by decide) (by kernel_rfl)
theorem lg_one (y : LgD) : ∀ u ∈ y.cells.toList, u.oneCell' = true := by
  intro u hu
  simp at hu
  rcases hu with rfl | rfl | rfl | rfl | rfl | rfl | rfl | rfl | rfl | rfl | rfl | rfl | rfl | rfl | rfl <;> rfl

def ra13Ops : List (Option Tmp × Op × Option (Nat × Bool)) := [(some 50, .load 30 (.tmp 14), none), (some 51, .fieldAddr 68 (.tmp 17) 1, none), (some 52, .load 3 (.tmp 51), none), (some 53, .move (.tmp 18), none), (some 54, .call { callee := .value (.func 25), args := #[.tmp 52, .tmp 53], argTypes := #[3, 3] }, none), (some 55, .load 47 (.tmp 19), none), (some 56, .build 71 #[(0, .tmp 54), (1, .tmp 55)], none), (some 57, .buildSlice 30 1 #[(0, .tmp 56)], none), (some 58, .call { callee := .builtin .append, args := #[.tmp 50, .tmp 57], argTypes := #[30, 30] }, none), (none, .store 30 (.tmp 14) (.tmp 58), none)]
def ra13Tree : Tr := .take 1 (.take 2 (.take 3 (.take 5 (.two 0 (.one 4 (.take 6 (.one 7 (.one 8 (.one 9 .nil))))) 4 (.take 6 (.two 0 (.one 7 (.one 8 (.one 9 .nil))) 7 (.one 0 (.one 8 (.one 9 .nil)))))))))
set_option maxRecDepth 100000 in
set_option maxHeartbeats 4000000 in
theorem rda13_region {ops : Array Oper} {Q : Exit → Act → World → Prop} {W : World} (hT : ops.toList.map (fun o => (o.dst, o.op, o.guard)) = ra13Ops) (hB : ordT ops ra13Tree 10 (Array.replicate 10 false) = true) (hsel : Region.noSelect ops = true)
    (hQ : ∀ c a t v w, Q (.panic c) (a.put t v) w → Q (.panic c) a w) (z : BtD) (x : RcD) (gX gY Bo n0 : Nat) (i : Int) (A : Option Addr) (k c : Nat) (vs : List Value) (t0 t1 t2 t3 t4 t5 t6 t7 t8 t9 t10 t11 t12 t13 t15 t16 t20 t21 t22 t23 t24 t25 t26 t27 t28 t29 t30 t31 t32 t33 t34 t35 t36 t37 t38 t39 t40 t41 t42 t43 t44 t45 t46 t47 t48 t49 t50 t51 t52 t53 t54 t55 t56 t57 t58 t59 t60 t61 t62 t63 t64 t65 t66 t67 : Value) (hI : (fun w' => z.In w' gX ∧ x.In w' gY) W)
    (ho : OwN W n0 71 15 A k c vs) (hk : k ≤ 1000000) (hn0 : n0 ≤ W.heap.size) (hbo : W.heap[Bo]? = some (.cells #[.slice A k c] 30 (0, 0))) (hA : ∀ g, blkOf A = some g → g ≠ Bo ∧ g ≠ gX ∧ g ≠ gY) (hoX : Bo ≠ gX) (hoY : Bo ≠ gY)
    (hF : ∀ A' c' V, OwN V n0 71 15 A' (k + 1) c' (vs ++ (⟨lsnV z.s i, x⟩ : LgD).cells.toList) → (W.alloc (.cells (⟨lsnV z.s i, x⟩ : LgD).cells 71)).grownBy V (blkOf A) → (blkOf A' = blkOf A ∨ blkOf A' = some (W.heap.size + 1)) → Q .normal ⟨#[t0, t1, t2, t3, t4, t5, t6, t7, t8, t9, t10, t11, t12, t13, .pointer (some ⟨Bo, 0, none⟩), t15, t16, .pointer (some ⟨gX, 0, none⟩), .int .i64 i, .pointer (some ⟨gY, 0, none⟩), t20, t21, t22, t23, t24, t25, t26, t27, t28, t29, t30, t31, t32, t33, t34, t35, t36, t37, t38, t39, t40, t41, t42, t43, t44, t45, t46, t47, t48, t49, .slice A k c, .pointer (some ⟨gX, 1, none⟩), .int .i64 z.s, .int .i64 i, .int .i64 (lsnV z.s i), .agg x.cells, .agg (⟨lsnV z.s i, x⟩ : LgD).cells, .slice (some ⟨W.heap.size, 0, none⟩) 1 1, .slice A' (k + 1) c', t59, t60, t61, t62, t63, t64, t65, t66, t67], []⟩ (V.setCell ⟨Bo, 0, none⟩ (.slice A' (k + 1) c'))) :
    wpAnyH Tryz.prog .any ops Q (fun w' => z.In w' gX ∧ x.In w' gY) 10 (Array.replicate 10 false) ⟨#[t0, t1, t2, t3, t4, t5, t6, t7, t8, t9, t10, t11, t12, t13, .pointer (some ⟨Bo, 0, none⟩), t15, t16, .pointer (some ⟨gX, 0, none⟩), .int .i64 i, .pointer (some ⟨gY, 0, none⟩), t20, t21, t22, t23, t24, t25, t26, t27, t28, t29, t30, t31, t32, t33, t34, t35, t36, t37, t38, t39, t40, t41, t42, t43, t44, t45, t46, t47, t48, t49, t50, t51, t52, t53, t54, t55, t56, t57, t58, t59, t60, t61, t62, t63, t64, t65, t66, t67], []⟩ W := by
  refine any_of_treeS hsel hQ ra13Tree _ _ _ _ hB ?_
  have HF := Lib.hid hF
  have HIW := Lib.hid hI
  have Hlsn : Hid (∀ V, Calls Tryz.prog 25 #[.int .i64 z.s, .int .i64 i] V fun e w' => e = .returned (.int .i64 (lsnV z.s i)) ∧ V = w') := fun V => lsn_ok V z.s i
  obtain ⟨WL, hWL⟩ : ∃ WL, W.alloc (.cells (⟨lsnV z.s i, x⟩ : LgD).cells 71) = WL := ⟨_, rfl⟩
  have hmL : Mod (fun _ => False) W WL := by rw [← hWL]; exact (Mod.refl _ W).alloc _
  have HIL : Hid ((fun w' => z.In w' gX ∧ x.In w' gY) WL) := ⟨hI.1.keep hmL, hI.2.mod hmL id⟩
  have Hsrc : Hid (SrcN WL (some ⟨W.heap.size, 0, none⟩) 1 15 (⟨lsnV z.s i, x⟩ : LgD).cells.toList) := by rw [← hWL]; exact SrcN.lit W (⟨lsnV z.s i, x⟩ : LgD).cells.toList 71 (lg_one _)
  have HoW : Hid (OwN WL n0 71 15 A k c vs) := ho.mod hmL (fun _ _ => id)
  have hbL : WL.heap[Bo]? = some (.cells #[.slice A k c] 30 (0, 0)) := (hmL.block Bo (Array.getElem?_eq_some_iff.1 hbo).1 id).trans hbo
  have hcW : W.cell? ⟨Bo, 0, none⟩ = some (.slice A k c) := by rw [cell_of_row _ _ _ _ _ _ hbo]; rfl
  have hcL : WL.cell? ⟨Bo, 0, none⟩ = some (.slice A k c) := by rw [cell_of_row _ _ _ _ _ _ hbL]; rfl
  have hsL : WL.heap.size = W.heap.size + 1 := by rw [← hWL, World.size_alloc]
  have HbL := Lib.hid hbL
  have tail : Hid (wpS Tryz.prog ops Q (fun w' => z.In w' gX ∧ x.In w' gY) (.one 8 (.one 9 .nil)) ⟨#[t0, t1, t2, t3, t4, t5, t6, t7, t8, t9, t10, t11, t12, t13, .pointer (some ⟨Bo, 0, none⟩), t15, t16, .pointer (some ⟨gX, 0, none⟩), .int .i64 i, .pointer (some ⟨gY, 0, none⟩), t20, t21, t22, t23, t24, t25, t26, t27, t28, t29, t30, t31, t32, t33, t34, t35, t36, t37, t38, t39, t40, t41, t42, t43, t44, t45, t46, t47, t48, t49, .slice A k c, .pointer (some ⟨gX, 1, none⟩), .int .i64 z.s, .int .i64 i, .int .i64 (lsnV z.s i), .agg x.cells, .agg (⟨lsnV z.s i, x⟩ : LgD).cells, .slice (some ⟨W.heap.size, 0, none⟩) 1 1, t58, t59, t60, t61, t62, t63, t64, t65, t66, t67], []⟩ WL) := by
    refine ts_one hT (some 58) rfl (fun o hd hp => ?_)
    refine wp_appN (base := n0) (A := A) (n := k) (c := c) (vs := vs) (A2 := some ⟨W.heap.size, 0, none⟩) (m := 1) (c2 := 1) (news := (⟨lsnV z.s i, x⟩ : LgD).cells.toList) (.tmp 50) (.tmp 57) lgElem hp rfl rfl HoW.out Hsrc.out (by omega) (by unfold maxLen; omega) (by omega) ?_
    intro A' c' V h1 h2 h3
    rw [hd]
    have hI3 : (fun w' => z.In w' gX ∧ x.In w' gY) V := by
      obtain ⟨i1, i2⟩ := HIL.out
      exact ⟨(h2.block gX i1.lt (fun e => (hA gX e.symm).2.1 rfl)).trans i1, (h2.block gY (Array.getElem?_eq_some_iff.1 i2).1 (fun e => (hA gY e.symm).2.2 rfl)).trans i2⟩
    have hbV : V.heap[Bo]? = some (.cells #[.slice A k c] 30 (0, 0)) := (h2.block Bo (Array.getElem?_eq_some_iff.1 HbL.out).1 (fun e => (hA Bo e.symm).1 rfl)).trans HbL.out
    have hcV : V.cell? ⟨Bo, 0, none⟩ = some (.slice A k c) := by rw [cell_of_row _ _ _ _ _ _ hbV]; rfl
    have hfV := frozen_of_block hbV 0
    have hfin := HF.out A' c' V h1 (by rw [hWL]; exact h2) (by rw [← hsL]; exact h3)
    have Hfin := Lib.hid hfin
    have hI4 : (fun w' => z.In w' gX ∧ x.In w' gY) (V.setCell ⟨Bo, 0, none⟩ (.slice A' (k + 1) c')) := by
      have hm : Mod (fun j => j = Bo) V (V.setCell ⟨Bo, 0, none⟩ (.slice A' (k + 1) c')) := (Mod.refl _ V).one _ _
      exact ⟨hI3.1.mod hm (fun e => hoX e.symm), hI3.2.mod hm (fun e => hoY e.symm)⟩
    have HI4 := Lib.hid hI4
    refine ⟨hI3, ?_⟩
    simp only [Act.put, List.setIfInBounds_toArray, List.set_cons_zero, List.set_cons_succ]
    clear HF h1 h2 h3 hI3 hbV hI4 hfin HIW HIL Hsrc HoW Hlsn o hd hp hcW hcL
    refine ts_one hT none rfl (fun o hd hp => ?_)
    simp [Oper.wp, execOp, hp, hd, go_sem, hcV, hfV]
    exact ⟨HI4.out, Hfin.out⟩
  have hWL' : W.alloc (.cells (⟨lsnV z.s i, x⟩ : LgD).cells 71) = WL := hWL
  clear hF hB hsel hQ hI ho hbo hbL hWL hmL
  unfold ra13Tree
  refine ts_take hT 51 rfl (.pointer (some ⟨gX, 1, none⟩)) (fun o hp w' hS => by clear hT HF HIW HIL Hsrc HoW Hlsn tail hcW hcL; simp [hp, execOp, go_sem]) HIW.out ?_
  simp only [Act.put, List.setIfInBounds_toArray, List.set_cons_zero, List.set_cons_succ]
  refine ts_take hT 52 rfl (.int .i64 z.s) (fun o hp w' hS => by have a1 := hS.1.c1; clear hT HF HIW HIL Hsrc HoW Hlsn tail hcW hcL; simp [hp, a1, execOp, go_sem]) HIW.out ?_
  simp only [Act.put, List.setIfInBounds_toArray, List.set_cons_zero, List.set_cons_succ]
  refine ts_take hT 53 rfl (.int .i64 i) (fun o hp w' hS => by clear hT HF HIW HIL Hsrc HoW Hlsn tail hcW hcL; simp [hp, execOp, go_sem]) HIW.out ?_
  simp only [Act.put, List.setIfInBounds_toArray, List.set_cons_zero, List.set_cons_succ]
  refine ts_take hT 55 rfl (.agg x.cells) (fun o hp w' hS => by
    have p0 := hS.2.kind
    have p1 := hS.2.num (i := 1) (by omega) (by omega)
    have p2 := hS.2.num (i := 2) (by omega) (by omega)
    have p3 := hS.2.num (i := 3) (by omega) (by omega)
    have p4 := hS.2.num (i := 4) (by omega) (by omega)
    have p5 := hS.2.num (i := 5) (by omega) (by omega)
    have p6 := hS.2.num (i := 6) (by omega) (by omega)
    have p7 := hS.2.num (i := 7) (by omega) (by omega)
    have p8 := hS.2.num (i := 8) (by omega) (by omega)
    have p9 := hS.2.num (i := 9) (by omega) (by omega)
    have p10 := hS.2.c10
    have p11 := hS.2.c11
    have p12 := hS.2.c12
    have p13 := hS.2.c13
    clear hT HF HIW HIL Hsrc HoW Hlsn tail hcW hcL
    simp [hp, p0, p1, p2, p3, p4, p5, p6, p7, p8, p9, p10, p11, p12, p13, execOp, go_sem]) HIW.out ?_
  simp only [Act.put, List.setIfInBounds_toArray, List.set_cons_zero, List.set_cons_succ]
  refine ⟨?_, ?_⟩
  · show wpS Tryz.prog ops Q _ (.one 0 _) _ _
    refine ts_one hT (some 50) rfl (fun o hd hp => ?_)
    simp [Oper.wp, execOp, hp, hd, go_sem, hcW]
    clear o hd hp
    refine ⟨HIW.out, ?_⟩
    refine ts_one hT (some 54) rfl (fun o hd hp => ?_)
    simp [Oper.wp, execOp, hp, hd, resolve, invoke, go_sem]
    refine (Hlsn.out W).mono ?_
    rintro e w1 ⟨rfl, rfl⟩
    clear o hd hp
    refine ⟨HIW.out, ?_⟩
    refine ts_take hT 56 rfl (.agg (⟨lsnV z.s i, x⟩ : LgD).cells) (fun o hp w' hS => by clear hT HF HIW HIL Hsrc HoW Hlsn tail hcW hcL; simp [hp, execOp, go_sem]) HIW.out ?_
    simp only [Act.put, List.setIfInBounds_toArray, List.set_cons_zero, List.set_cons_succ]
    refine ts_one hT (some 57) rfl (fun o hd hp => ?_)
    simp [Oper.wp, execOp, hp, hd, go_sem]
    clear o hd hp
    rw [show W.alloc (.cells #[.int .i64 (lsnV z.s i), .int .i64 x.k, .int .i64 (x.f 1), .int .i64 (x.f 2), .int .i64 (x.f 3), .int .i64 (x.f 4), .int .i64 (x.f 5), .int .i64 (x.f 6), .int .i64 (x.f 7), .int .i64 (x.f 8), .int .i64 (x.f 9), .bool x.o.is, .slice x.o.B x.o.m x.o.d, .bool x.v.is, .slice x.v.B x.v.m x.v.d] 71) = WL from hWL']
    refine ⟨HIL.out, ?_⟩
    exact tail.out
  · show wpS Tryz.prog ops Q _ (.one 4 _) _ _
    refine ts_one hT (some 54) rfl (fun o hd hp => ?_)
    simp [Oper.wp, execOp, hp, hd, resolve, invoke, go_sem]
    refine (Hlsn.out W).mono ?_
    rintro e w1 ⟨rfl, rfl⟩
    clear o hd hp
    refine ⟨HIW.out, ?_⟩
    refine ts_take hT 56 rfl (.agg (⟨lsnV z.s i, x⟩ : LgD).cells) (fun o hp w' hS => by clear hT HF HIW HIL Hsrc HoW Hlsn tail hcW hcL; simp [hp, execOp, go_sem]) HIW.out ?_
    simp only [Act.put, List.setIfInBounds_toArray, List.set_cons_zero, List.set_cons_succ]
    refine ⟨?_, ?_⟩
    · show wpS Tryz.prog ops Q _ (.one 0 _) _ _
      refine ts_one hT (some 50) rfl (fun o hd hp => ?_)
      simp [Oper.wp, execOp, hp, hd, go_sem, hcW]
      clear o hd hp
      refine ⟨HIW.out, ?_⟩
      refine ts_one hT (some 57) rfl (fun o hd hp => ?_)
      simp [Oper.wp, execOp, hp, hd, go_sem]
      clear o hd hp
      rw [show W.alloc (.cells #[.int .i64 (lsnV z.s i), .int .i64 x.k, .int .i64 (x.f 1), .int .i64 (x.f 2), .int .i64 (x.f 3), .int .i64 (x.f 4), .int .i64 (x.f 5), .int .i64 (x.f 6), .int .i64 (x.f 7), .int .i64 (x.f 8), .int .i64 (x.f 9), .bool x.o.is, .slice x.o.B x.o.m x.o.d, .bool x.v.is, .slice x.v.B x.v.m x.v.d] 71) = WL from hWL']
      refine ⟨HIL.out, ?_⟩
      exact tail.out
    · show wpS Tryz.prog ops Q _ (.one 7 _) _ _
      refine ts_one hT (some 57) rfl (fun o hd hp => ?_)
      simp [Oper.wp, execOp, hp, hd, go_sem]
      clear o hd hp
      rw [show W.alloc (.cells #[.int .i64 (lsnV z.s i), .int .i64 x.k, .int .i64 (x.f 1), .int .i64 (x.f 2), .int .i64 (x.f 3), .int .i64 (x.f 4), .int .i64 (x.f 5), .int .i64 (x.f 6), .int .i64 (x.f 7), .int .i64 (x.f 8), .int .i64 (x.f 9), .bool x.o.is, .slice x.o.B x.o.m x.o.d, .bool x.v.is, .slice x.v.B x.v.m x.v.d] 71) = WL from hWL']
      refine ⟨HIL.out, ?_⟩
      refine ts_one hT (some 50) rfl (fun o hd hp => ?_)
      simp [Oper.wp, execOp, hp, hd, go_sem, hcL]
      clear o hd hp
      refine ⟨HIL.out, ?_⟩
      exact tail.out

def ra15Ops : List (Option Tmp × Op × Option (Nat × Bool)) := [(some 60, .fieldAddr 68 (.tmp 17) 1, none), (some 61, .load 3 (.tmp 60), none), (some 62, .binOp .add 3 (.tmp 61) (.const (.int .i64 1)) 3, none), (some 63, .fieldAddr 68 (.tmp 17) 0, none), (some 64, .load 3 (.tmp 63), none), (none, .store 3 (.tmp 15) (.tmp 62), none), (none, .store 3 (.tmp 16) (.tmp 64), none)]
def ra15Tree : Tr := .take 0 (.take 1 (.take 2 (.take 3 (.take 4 (.one 5 (.one 6 .nil))))))
set_option maxRecDepth 100000 in
set_option maxHeartbeats 4000000 in
theorem rda15_region {ops : Array Oper} {Q : Exit → Act → World → Prop} {W : World} (hT : ops.toList.map (fun o => (o.dst, o.op, o.guard)) = ra15Ops) (hB : ordT ops ra15Tree 7 (Array.replicate 7 false) = true) (hsel : Region.noSelect ops = true)
    (hQ : ∀ c a t v w, Q (.panic c) (a.put t v) w → Q (.panic c) a w) (z : BtD) (gX Be Bp : Nat) (e0 p0 : Int) (t0 t1 t2 t3 t4 t5 t6 t7 t8 t9 t10 t11 t12 t13 t14 t18 t19 t20 t21 t22 t23 t24 t25 t26 t27 t28 t29 t30 t31 t32 t33 t34 t35 t36 t37 t38 t39 t40 t41 t42 t43 t44 t45 t46 t47 t48 t49 t50 t51 t52 t53 t54 t55 t56 t57 t58 t59 t60 t61 t62 t63 t64 t65 t66 t67 : Value) (hI : (fun w' => z.In w' gX) W) (he : W.heap[Be]? = some (.cells #[.int .i64 e0] 3 (0, 0))) (hpp : W.heap[Bp]? = some (.cells #[.int .i64 p0] 3 (0, 0))) (hne : ¬ gX = Be) (hnp : ¬ gX = Bp) (hep : ¬ Bp = Be) (hw : IntKind.i64.wrap (z.s + 1) = z.s + 1)
    (hF : Q .normal ⟨#[t0, t1, t2, t3, t4, t5, t6, t7, t8, t9, t10, t11, t12, t13, t14, .pointer (some ⟨Be, 0, none⟩), .pointer (some ⟨Bp, 0, none⟩), .pointer (some ⟨gX, 0, none⟩), t18, t19, t20, t21, t22, t23, t24, t25, t26, t27, t28, t29, t30, t31, t32, t33, t34, t35, t36, t37, t38, t39, t40, t41, t42, t43, t44, t45, t46, t47, t48, t49, t50, t51, t52, t53, t54, t55, t56, t57, t58, t59, .pointer (some ⟨gX, 1, none⟩), .int .i64 z.s, .int .i64 (z.s + 1), .pointer (some ⟨gX, 0, none⟩), .int .i64 z.e, t65, t66, t67], []⟩ ((W.setCell ⟨Be, 0, none⟩ (.int .i64 (z.s + 1))).setCell ⟨Bp, 0, none⟩ (.int .i64 z.e))) :
    wpAnyH Tryz.prog .any ops Q (fun w' => z.In w' gX) 7 (Array.replicate 7 false) ⟨#[t0, t1, t2, t3, t4, t5, t6, t7, t8, t9, t10, t11, t12, t13, t14, .pointer (some ⟨Be, 0, none⟩), .pointer (some ⟨Bp, 0, none⟩), .pointer (some ⟨gX, 0, none⟩), t18, t19, t20, t21, t22, t23, t24, t25, t26, t27, t28, t29, t30, t31, t32, t33, t34, t35, t36, t37, t38, t39, t40, t41, t42, t43, t44, t45, t46, t47, t48, t49, t50, t51, t52, t53, t54, t55, t56, t57, t58, t59, t60, t61, t62, t63, t64, t65, t66, t67], []⟩ W := by
  refine any_of_treeS hsel hQ ra15Tree _ _ _ _ hB ?_
  have HF := Lib.hid hF
  clear hF hB hsel hQ
  unfold ra15Tree
  refine ts_take hT 60 rfl (.pointer (some ⟨gX, 1, none⟩)) (fun o hp w' hS => by clear hT HF hI; simp [hp, execOp, go_sem]) hI ?_
  simp only [Act.put, List.setIfInBounds_toArray, List.set_cons_zero, List.set_cons_succ]
  refine ts_take hT 61 rfl (.int .i64 z.s) (fun o hp w' hS => by have a1 := hS.c1; clear hT HF hI; simp [hp, a1, execOp, go_sem]) hI ?_
  simp only [Act.put, List.setIfInBounds_toArray, List.set_cons_zero, List.set_cons_succ]
  refine ts_take hT 62 rfl (.int .i64 (z.s + 1)) (fun o hp w' hS => by clear hT HF hI; simp [hp, hw, execOp, go_sem]) hI ?_
  simp only [Act.put, List.setIfInBounds_toArray, List.set_cons_zero, List.set_cons_succ]
  refine ts_take hT 63 rfl (.pointer (some ⟨gX, 0, none⟩)) (fun o hp w' hS => by clear hT HF hI; simp [hp, execOp, go_sem]) hI ?_
  simp only [Act.put, List.setIfInBounds_toArray, List.set_cons_zero, List.set_cons_succ]
  refine ts_take hT 64 rfl (.int .i64 z.e) (fun o hp w' hS => by have a0 := hS.c0; clear hT HF hI; simp [hp, a0, execOp, go_sem]) hI ?_
  simp only [Act.put, List.setIfInBounds_toArray, List.set_cons_zero, List.set_cons_succ]
  refine ts_one hT none rfl (fun o hd hp => ?_)
  have fz := frozen_of_block he 0
  have cz : W.cell? ⟨Be, 0, none⟩ = some (.int .i64 e0) := by rw [cell_of_row _ _ _ _ _ _ he]; rfl
  simp [Oper.wp, execOp, hp, hd, go_sem, fz, cz]
  clear o hd hp fz cz
  have hI2 : z.In (W.setCell ⟨Be, 0, none⟩ (.int .i64 (z.s + 1))) gX := hI.mod ((Mod.refl (fun j => j = Be) W).one _ _) hne
  have hp2 : (W.setCell ⟨Be, 0, none⟩ (.int .i64 (z.s + 1))).heap[Bp]? = some (.cells #[.int .i64 p0] 3 (0, 0)) := (((Mod.refl (fun j => j = Be) W).one 0 (.int .i64 (z.s + 1))).block Bp (Array.getElem?_eq_some_iff.1 hpp).1 hep).trans hpp
  refine ⟨hI2, ?_⟩
  refine ts_one hT none rfl (fun o hd hp => ?_)
  have fz := frozen_of_block hp2 0
  have cz : (W.setCell ⟨Be, 0, none⟩ (.int .i64 (z.s + 1))).cell? ⟨Bp, 0, none⟩ = some (.int .i64 p0) := by rw [cell_of_row _ _ _ _ _ _ hp2]; rfl
  have hI3 : z.In ((W.setCell ⟨Be, 0, none⟩ (.int .i64 (z.s + 1))).setCell ⟨Bp, 0, none⟩ (.int .i64 z.e)) gX := hI2.mod ((Mod.refl (fun j => j = Bp) _).one _ _) hnp
  simp [Oper.wp, execOp, hp, hd, go_sem, fz, cz]
  refine ⟨hI3, ?_⟩
  exact HF.out

end Go.Proofs.YtnbamljaiahmdaaGreat
