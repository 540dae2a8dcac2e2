/-
  Trees of orders with operations that are guarded ('&&', '||').
  The drawn region of wal.ring.batch.
-/
import Derived.Test.YtnbamljaiahmdaaGreatQRR
import Derived.Test.YtnbamljaiahmdaaGreatQRd
namespace Go.Proofs.YtnbamljaiahmdaaGreat
open Go Go.RowKit

section
variable {P : Program} {ops : Array Oper} {Q : Exit → Act → World → Prop} {S : World → Prop} {i : Nat} {t : Tr} {a : Act} {w : World} {L : List (Option Tmp × Op × Option (Nat × Bool))}
theorem wanted_guard (h : ops.toList.map (fun o => (o.dst, o.op, o.guard)) = L) {o : Oper} {ts : Array Value} {gi : Nat} {gb b : Bool} {gd : Tmp} {gp : Op} {gq : Option (Nat × Bool)} (hg : o.guard = some (gi, gb)) (eg : L[gi]? = some (some gd, gp, gq)) (hv : ts[gd]? = some (.bool b)) :
    Region.wanted o (yielded ops ts) = (b == gb) := by
  obtain ⟨og, ho, hd, _, _⟩ := spec_at h eg
  unfold Region.wanted
  rw [hg]
  dsimp only
  have hy : yielded ops ts gi = some b := by
    unfold yielded
    rw [ho]
    simp [hd, hv]
  rw [hy]
  cases b <;> cases gb <;> rfl
theorem gs_take (h : ops.toList.map (fun o => (o.dst, o.op, o.guard)) = L) (d : Tmp) {p gp : Op} {gi : Nat} {gb : Bool} {gd : Tmp} {gq : Option (Nat × Bool)} (e : L[i]? = some (some d, p, some (gi, gb))) (eg : L[gi]? = some (some gd, gp, gq)) (hv : a.tmps[gd]? = some (.bool gb)) (v : Value)
    (hy : ∀ o : Oper, o.op = p → ∀ w, S w → (execOp a.eval o).run P w = .ok (.value v) w) (hS : S w) (hr : wpS P ops Q S t (a.put (some d) v) w) : wpS P ops Q S (.take i t) a w := by
  obtain ⟨o, ho, hd, hp, hg⟩ := spec_at h e
  refine ⟨o, v, ho, .inl ⟨by rw [wanted_guard h hg eg hv]; cases gb <;> rfl, hy o hp⟩, hS, ?_⟩
  rw [hd]
  exact hr
theorem gs_skip (h : ops.toList.map (fun o => (o.dst, o.op, o.guard)) = L) (d : Tmp) {p gp : Op} {gi : Nat} {gb b : Bool} {gd : Tmp} {gq : Option (Nat × Bool)} (e : L[i]? = some (some d, p, some (gi, gb))) (eg : L[gi]? = some (some gd, gp, gq)) (hv : a.tmps[gd]? = some (.bool b)) (hb : (b == gb) = false)
    (hS : S w) (hr : wpS P ops Q S t (a.put (some d) undef) w) : wpS P ops Q S (.take i t) a w := by
  obtain ⟨o, ho, hd, hp, hg⟩ := spec_at h e
  refine ⟨o, undef, ho, .inr ⟨by rw [wanted_guard h hg eg hv, hb], rfl⟩, hS, ?_⟩
  rw [hd]
  exact hr
theorem gs_one (h : ops.toList.map (fun o => (o.dst, o.op, o.guard)) = L) (d : Option Tmp) {p gp : Op} {gi : Nat} {gb : Bool} {gd : Tmp} {gq : Option (Nat × Bool)} (e : L[i]? = some (d, p, some (gi, gb))) (eg : L[gi]? = some (some gd, gp, gq)) (hv : a.tmps[gd]? = some (.bool gb))
    (hw : ∀ o : Oper, o.dst = d → o.op = p → o.wp P a w (fun a' w' => S w' ∧ wpS P ops Q S t a' w') Q) : wpS P ops Q S (.one i t) a w := by
  obtain ⟨o, ho, hd, hp, hg⟩ := spec_at h e
  exact ⟨o, ho, by rw [wanted_guard h hg eg hv]; cases gb <;> rfl, hw o hd hp⟩
end
end Go.Proofs.YtnbamljaiahmdaaGreat

namespace Go.Proofs.YtnbamljaiahmdaaGreat
open Go Go.RowKit Go.Shelf

def rdOps : List (Option Tmp × Op × Option (Nat × Bool)) := [(some 35, .load 68 (.tmp 11), none), (some 36, .move (.tmp 10), none), (some 37, .binOp .eql 25 (.tmp 36) (.const (.int .i64 0)) 25, none), (some 38, .move (.tmp 37), none), (some 39, .fieldAddr 68 (.tmp 11) 1, some (3, true)), (some 40, .load 3 (.tmp 39), some (3, true)), (some 41, .move (.tmp 1), some (3, true)), (some 42, .binOp .eql 3 (.tmp 40) (.tmp 41) 3, some (3, true)), (some 43, .pick (.tmp 38) (.tmp 42) (.const (.bool false)), none), (some 44, .move (.tmp 43), none), (some 45, .move (.tmp 9), some (9, true)), (some 46, .fieldAddr 68 (.tmp 11) 0, some (9, true)), (some 47, .load 3 (.tmp 46), some (9, true)), (some 48, .fieldAddr 68 (.tmp 11) 1, some (9, true)), (some 49, .load 3 (.tmp 48), some (9, true)), (some 50, .call { callee := .value (.func 59), args := #[.tmp 47, .tmp 49], argTypes := #[3, 3] }, some (9, true)), (some 51, .binOp .eql 3 (.tmp 45) (.tmp 50) 3, some (9, true)), (some 52, .pick (.tmp 44) (.tmp 51) (.const (.bool false)), none), (some 53, .move (.tmp 52), none), (some 54, .fieldAddr 68 (.tmp 11) 0, some (18, true)), (some 55, .load 3 (.tmp 54), some (18, true)), (some 56, .binOp .geq 3 (.tmp 55) (.const (.int .i64 1)) 3, some (18, true)), (some 57, .pick (.tmp 53) (.tmp 56) (.const (.bool false)), none), (none, .store 68 (.tmp 4) (.tmp 35), none), (some 5, .assign (.tmp 57), none)]
def rdTree0 : Tr := .take 0 (.take 1 (.take 2 (.take 3 (.take 4 (.take 5 (.take 6 (.take 7 (.take 8 (.take 9 (.take 10 (.take 11 (.take 12 (.take 13 (.take 14 (.take 15 (.take 16 (.take 17 (.take 18 (.take 19 (.take 20 (.take 21 (.take 22 (.one 23 (.take 24 .nil))))))))))))))))))))))))
set_option maxRecDepth 100000 in
set_option maxHeartbeats 4000000 in
theorem rd_region0 {ops : Array Oper} {Q : Exit → Act → World → Prop} {W : World} (hT : ops.toList.map (fun o => (o.dst, o.op, o.guard)) = rdOps) (hB : ordT ops rdTree0 25 (Array.replicate 25 false) = true) (hsel : Region.noSelect ops = true)
    (hQ : ∀ c a t v w, Q (.panic c) (a.put t v) w → Q (.panic c) a w) (z : BtD) (gX gR : Nat) (q M er : Int) (t0 t2 t3 t5 t6 t7 t8 t12 t13 t14 t15 t16 t17 t18 t19 t20 t21 t22 t23 t24 t25 t26 t27 t28 t29 t30 t31 t32 t33 t34 t35 t36 t37 t38 t39 t40 t41 t42 t43 t44 t45 t46 t47 t48 t49 t50 t51 t52 t53 t54 t55 t56 t57 : Value) (hI : (fun w' => z.In w' gX) W) (p0 : (er == 0) = false) (hZ : BtD.zero.In W gR) (hne : ¬ gX = gR)
    (hF : Q .normal ⟨#[t0, .int .i64 q, t2, t3, .pointer (some ⟨gR, 0, none⟩), .bool false, t6, t7, t8, .int .i64 M, .int .i64 er, .pointer (some ⟨gX, 0, none⟩), t12, t13, t14, t15, t16, t17, t18, t19, t20, t21, t22, t23, t24, t25, t26, t27, t28, t29, t30, t31, t32, t33, t34, .agg z.cells, .int .i64 er, .bool false, .bool false, undef, undef, undef, undef, .bool false, .bool false, undef, undef, undef, undef, undef, undef, undef, .bool false, .bool false, undef, undef, undef, .bool false], []⟩ (stBat W gR z)) :
    wpAnyH Tryz.prog .any ops Q (fun w' => z.In w' gX) 25 (Array.replicate 25 false) ⟨#[t0, .int .i64 q, t2, t3, .pointer (some ⟨gR, 0, none⟩), t5, t6, t7, t8, .int .i64 M, .int .i64 er, .pointer (some ⟨gX, 0, none⟩), t12, t13, t14, t15, t16, t17, t18, t19, t20, t21, t22, t23, t24, t25, t26, t27, t28, t29, t30, t31, t32, t33, t34, t35, t36, t37, t38, t39, t40, t41, t42, t43, t44, t45, t46, t47, t48, t49, t50, t51, t52, t53, t54, t55, t56, t57], []⟩ W := by
  refine any_of_treeS hsel hQ rdTree0 _ _ _ _ hB ?_
  have HF := Lib.hid hF
  clear hF hB hsel hQ
  unfold rdTree0
  refine ts_take hT 35 rfl (.agg z.cells) (fun o hp w' hS => by have a0 := hS.c0; have a1 := hS.c1; have a2 := hS.c2; have a3 := hS.c3; clear hT HF hI; simp [hp, a0, a1, a2, a3, execOp, go_sem]) hI ?_
  simp only [Act.put, List.setIfInBounds_toArray, List.set_cons_zero, List.set_cons_succ]
  refine ts_take hT 36 rfl (.int .i64 er) (fun o hp w' hS => by clear hT HF hI; simp [hp, execOp, go_sem]) hI ?_
  simp only [Act.put, List.setIfInBounds_toArray, List.set_cons_zero, List.set_cons_succ]
  refine ts_take hT 37 rfl (.bool false) (fun o hp w' hS => by clear hT HF hI; simp [hp, p0, execOp, go_sem]) hI ?_
  simp only [Act.put, List.setIfInBounds_toArray, List.set_cons_zero, List.set_cons_succ]
  refine ts_take hT 38 rfl (.bool false) (fun o hp w' hS => by clear hT HF hI; simp [hp, execOp, go_sem]) hI ?_
  simp only [Act.put, List.setIfInBounds_toArray, List.set_cons_zero, List.set_cons_succ]
  refine gs_skip hT 39 rfl rfl rfl rfl hI ?_
  simp only [Act.put, List.setIfInBounds_toArray, List.set_cons_zero, List.set_cons_succ]
  refine gs_skip hT 40 rfl rfl rfl rfl hI ?_
  simp only [Act.put, List.setIfInBounds_toArray, List.set_cons_zero, List.set_cons_succ]
  refine gs_skip hT 41 rfl rfl rfl rfl hI ?_
  simp only [Act.put, List.setIfInBounds_toArray, List.set_cons_zero, List.set_cons_succ]
  refine gs_skip hT 42 rfl rfl rfl rfl hI ?_
  simp only [Act.put, List.setIfInBounds_toArray, List.set_cons_zero, List.set_cons_succ]
  refine ts_take hT 43 rfl (.bool false) (fun o hp w' hS => by clear hT HF hI; simp [hp, execOp, go_sem]) hI ?_
  simp only [Act.put, List.setIfInBounds_toArray, List.set_cons_zero, List.set_cons_succ]
  refine ts_take hT 44 rfl (.bool false) (fun o hp w' hS => by clear hT HF hI; simp [hp, execOp, go_sem]) hI ?_
  simp only [Act.put, List.setIfInBounds_toArray, List.set_cons_zero, List.set_cons_succ]
  refine gs_skip hT 45 rfl rfl rfl rfl hI ?_
  simp only [Act.put, List.setIfInBounds_toArray, List.set_cons_zero, List.set_cons_succ]
  refine gs_skip hT 46 rfl rfl rfl rfl hI ?_
  simp only [Act.put, List.setIfInBounds_toArray, List.set_cons_zero, List.set_cons_succ]
  refine gs_skip hT 47 rfl rfl rfl rfl hI ?_
  simp only [Act.put, List.setIfInBounds_toArray, List.set_cons_zero, List.set_cons_succ]
  refine gs_skip hT 48 rfl rfl rfl rfl hI ?_
  simp only [Act.put, List.setIfInBounds_toArray, List.set_cons_zero, List.set_cons_succ]
  refine gs_skip hT 49 rfl rfl rfl rfl hI ?_
  simp only [Act.put, List.setIfInBounds_toArray, List.set_cons_zero, List.set_cons_succ]
  refine gs_skip hT 50 rfl rfl rfl rfl hI ?_
  simp only [Act.put, List.setIfInBounds_toArray, List.set_cons_zero, List.set_cons_succ]
  refine gs_skip hT 51 rfl rfl rfl rfl hI ?_
  simp only [Act.put, List.setIfInBounds_toArray, List.set_cons_zero, List.set_cons_succ]
  refine ts_take hT 52 rfl (.bool false) (fun o hp w' hS => by clear hT HF hI; simp [hp, execOp, go_sem]) hI ?_
  simp only [Act.put, List.setIfInBounds_toArray, List.set_cons_zero, List.set_cons_succ]
  refine ts_take hT 53 rfl (.bool false) (fun o hp w' hS => by clear hT HF hI; simp [hp, execOp, go_sem]) hI ?_
  simp only [Act.put, List.setIfInBounds_toArray, List.set_cons_zero, List.set_cons_succ]
  refine gs_skip hT 54 rfl rfl rfl rfl hI ?_
  simp only [Act.put, List.setIfInBounds_toArray, List.set_cons_zero, List.set_cons_succ]
  refine gs_skip hT 55 rfl rfl rfl rfl hI ?_
  simp only [Act.put, List.setIfInBounds_toArray, List.set_cons_zero, List.set_cons_succ]
  refine gs_skip hT 56 rfl rfl rfl rfl hI ?_
  simp only [Act.put, List.setIfInBounds_toArray, List.set_cons_zero, List.set_cons_succ]
  refine ts_take hT 57 rfl (.bool false) (fun o hp w' hS => by clear hT HF hI; simp [hp, execOp, go_sem]) hI ?_
  simp only [Act.put, List.setIfInBounds_toArray, List.set_cons_zero, List.set_cons_succ]
  refine ts_one hT none rfl (fun o hd hp => ?_)
  have z0 := hZ.c0
  have z1 := hZ.c1
  have z2 := hZ.c2
  have z3 := hZ.c3
  have fz := hZ.fz
  have hI2 : z.In (stBat W gR z) gX := hI.mod (stBat_mod W gR z) hne
  clear hI hZ
  simp [Oper.wp, execOp, hp, hd, go_sem, z0, z1, z2, z3, fz]
  clear o hd hp z0 z1 z2 z3 fz
  have hI := hI2
  clear hI2
  refine ⟨hI, ?_⟩
  refine ts_take hT 5 rfl (.bool false) (fun o hp w' hS => by clear hT HF hI; simp [hp, execOp, go_sem]) hI ?_
  simp only [Act.put, List.setIfInBounds_toArray, List.set_cons_zero, List.set_cons_succ]
  exact HF.out

def rdTree1 : Tr := .take 0 (.take 1 (.take 2 (.take 3 (.take 4 (.take 5 (.take 6 (.take 7 (.take 8 (.take 9 (.take 10 (.take 11 (.take 12 (.take 13 (.take 14 (.take 15 (.take 16 (.take 17 (.take 18 (.take 19 (.take 20 (.take 21 (.take 22 (.one 23 (.take 24 .nil))))))))))))))))))))))))
set_option maxRecDepth 100000 in
set_option maxHeartbeats 4000000 in
theorem rd_region1 {ops : Array Oper} {Q : Exit → Act → World → Prop} {W : World} (hT : ops.toList.map (fun o => (o.dst, o.op, o.guard)) = rdOps) (hB : ordT ops rdTree1 25 (Array.replicate 25 false) = true) (hsel : Region.noSelect ops = true)
    (hQ : ∀ c a t v w, Q (.panic c) (a.put t v) w → Q (.panic c) a w) (z : BtD) (gX gR : Nat) (q M er : Int) (t0 t2 t3 t5 t6 t7 t8 t12 t13 t14 t15 t16 t17 t18 t19 t20 t21 t22 t23 t24 t25 t26 t27 t28 t29 t30 t31 t32 t33 t34 t35 t36 t37 t38 t39 t40 t41 t42 t43 t44 t45 t46 t47 t48 t49 t50 t51 t52 t53 t54 t55 t56 t57 : Value) (hI : (fun w' => z.In w' gX) W) (p0 : (er == 0) = true) (p1 : (z.s == q) = false) (hZ : BtD.zero.In W gR) (hne : ¬ gX = gR)
    (hF : Q .normal ⟨#[t0, .int .i64 q, t2, t3, .pointer (some ⟨gR, 0, none⟩), .bool false, t6, t7, t8, .int .i64 M, .int .i64 er, .pointer (some ⟨gX, 0, none⟩), t12, t13, t14, t15, t16, t17, t18, t19, t20, t21, t22, t23, t24, t25, t26, t27, t28, t29, t30, t31, t32, t33, t34, .agg z.cells, .int .i64 er, .bool true, .bool true, .pointer (some ⟨gX, 1, none⟩), .int .i64 z.s, .int .i64 q, .bool false, .bool false, .bool false, undef, undef, undef, undef, undef, undef, undef, .bool false, .bool false, undef, undef, undef, .bool false], []⟩ (stBat W gR z)) :
    wpAnyH Tryz.prog .any ops Q (fun w' => z.In w' gX) 25 (Array.replicate 25 false) ⟨#[t0, .int .i64 q, t2, t3, .pointer (some ⟨gR, 0, none⟩), t5, t6, t7, t8, .int .i64 M, .int .i64 er, .pointer (some ⟨gX, 0, none⟩), t12, t13, t14, t15, t16, t17, t18, t19, t20, t21, t22, t23, t24, t25, t26, t27, t28, t29, t30, t31, t32, t33, t34, t35, t36, t37, t38, t39, t40, t41, t42, t43, t44, t45, t46, t47, t48, t49, t50, t51, t52, t53, t54, t55, t56, t57], []⟩ W := by
  refine any_of_treeS hsel hQ rdTree1 _ _ _ _ hB ?_
  have HF := Lib.hid hF
  clear hF hB hsel hQ
  unfold rdTree1
  refine ts_take hT 35 rfl (.agg z.cells) (fun o hp w' hS => by have a0 := hS.c0; have a1 := hS.c1; have a2 := hS.c2; have a3 := hS.c3; clear hT HF hI; simp [hp, a0, a1, a2, a3, execOp, go_sem]) hI ?_
  simp only [Act.put, List.setIfInBounds_toArray, List.set_cons_zero, List.set_cons_succ]
  refine ts_take hT 36 rfl (.int .i64 er) (fun o hp w' hS => by clear hT HF hI; simp [hp, execOp, go_sem]) hI ?_
  simp only [Act.put, List.setIfInBounds_toArray, List.set_cons_zero, List.set_cons_succ]
  refine ts_take hT 37 rfl (.bool true) (fun o hp w' hS => by clear hT HF hI; simp [hp, p0, execOp, go_sem]) hI ?_
  simp only [Act.put, List.setIfInBounds_toArray, List.set_cons_zero, List.set_cons_succ]
  refine ts_take hT 38 rfl (.bool true) (fun o hp w' hS => by clear hT HF hI; simp [hp, execOp, go_sem]) hI ?_
  simp only [Act.put, List.setIfInBounds_toArray, List.set_cons_zero, List.set_cons_succ]
  refine gs_take hT 39 rfl rfl rfl (.pointer (some ⟨gX, 1, none⟩)) (fun o hp w' hS => by clear hT HF hI; simp [hp, execOp, go_sem]) hI ?_
  simp only [Act.put, List.setIfInBounds_toArray, List.set_cons_zero, List.set_cons_succ]
  refine gs_take hT 40 rfl rfl rfl (.int .i64 z.s) (fun o hp w' hS => by have a1 := hS.c1; clear hT HF hI; simp [hp, a1, execOp, go_sem]) hI ?_
  simp only [Act.put, List.setIfInBounds_toArray, List.set_cons_zero, List.set_cons_succ]
  refine gs_take hT 41 rfl rfl rfl (.int .i64 q) (fun o hp w' hS => by clear hT HF hI; simp [hp, execOp, go_sem]) hI ?_
  simp only [Act.put, List.setIfInBounds_toArray, List.set_cons_zero, List.set_cons_succ]
  refine gs_take hT 42 rfl rfl rfl (.bool false) (fun o hp w' hS => by clear hT HF hI; simp [hp, p1, execOp, go_sem]) hI ?_
  simp only [Act.put, List.setIfInBounds_toArray, List.set_cons_zero, List.set_cons_succ]
  refine ts_take hT 43 rfl (.bool false) (fun o hp w' hS => by clear hT HF hI; simp [hp, execOp, go_sem]) hI ?_
  simp only [Act.put, List.setIfInBounds_toArray, List.set_cons_zero, List.set_cons_succ]
  refine ts_take hT 44 rfl (.bool false) (fun o hp w' hS => by clear hT HF hI; simp [hp, execOp, go_sem]) hI ?_
  simp only [Act.put, List.setIfInBounds_toArray, List.set_cons_zero, List.set_cons_succ]
  refine gs_skip hT 45 rfl rfl rfl rfl hI ?_
  simp only [Act.put, List.setIfInBounds_toArray, List.set_cons_zero, List.set_cons_succ]
  refine gs_skip hT 46 rfl rfl rfl rfl hI ?_
  simp only [Act.put, List.setIfInBounds_toArray, List.set_cons_zero, List.set_cons_succ]
  refine gs_skip hT 47 rfl rfl rfl rfl hI ?_
  simp only [Act.put, List.setIfInBounds_toArray, List.set_cons_zero, List.set_cons_succ]
  refine gs_skip hT 48 rfl rfl rfl rfl hI ?_
  simp only [Act.put, List.setIfInBounds_toArray, List.set_cons_zero, List.set_cons_succ]
  refine gs_skip hT 49 rfl rfl rfl rfl hI ?_
  simp only [Act.put, List.setIfInBounds_toArray, List.set_cons_zero, List.set_cons_succ]
  refine gs_skip hT 50 rfl rfl rfl rfl hI ?_
  simp only [Act.put, List.setIfInBounds_toArray, List.set_cons_zero, List.set_cons_succ]
  refine gs_skip hT 51 rfl rfl rfl rfl hI ?_
  simp only [Act.put, List.setIfInBounds_toArray, List.set_cons_zero, List.set_cons_succ]
  refine ts_take hT 52 rfl (.bool false) (fun o hp w' hS => by clear hT HF hI; simp [hp, execOp, go_sem]) hI ?_
  simp only [Act.put, List.setIfInBounds_toArray, List.set_cons_zero, List.set_cons_succ]
  refine ts_take hT 53 rfl (.bool false) (fun o hp w' hS => by clear hT HF hI; simp [hp, execOp, go_sem]) hI ?_
  simp only [Act.put, List.setIfInBounds_toArray, List.set_cons_zero, List.set_cons_succ]
  refine gs_skip hT 54 rfl rfl rfl rfl hI ?_
  simp only [Act.put, List.setIfInBounds_toArray, List.set_cons_zero, List.set_cons_succ]
  refine gs_skip hT 55 rfl rfl rfl rfl hI ?_
  simp only [Act.put, List.setIfInBounds_toArray, List.set_cons_zero, List.set_cons_succ]
  refine gs_skip hT 56 rfl rfl rfl rfl hI ?_
  simp only [Act.put, List.setIfInBounds_toArray, List.set_cons_zero, List.set_cons_succ]
  refine ts_take hT 57 rfl (.bool false) (fun o hp w' hS => by clear hT HF hI; simp [hp, execOp, go_sem]) hI ?_
  simp only [Act.put, List.setIfInBounds_toArray, List.set_cons_zero, List.set_cons_succ]
  refine ts_one hT none rfl (fun o hd hp => ?_)
  have z0 := hZ.c0
  have z1 := hZ.c1
  have z2 := hZ.c2
  have z3 := hZ.c3
  have fz := hZ.fz
  have hI2 : z.In (stBat W gR z) gX := hI.mod (stBat_mod W gR z) hne
  clear hI hZ
  simp [Oper.wp, execOp, hp, hd, go_sem, z0, z1, z2, z3, fz]
  clear o hd hp z0 z1 z2 z3 fz
  have hI := hI2
  clear hI2
  refine ⟨hI, ?_⟩
  refine ts_take hT 5 rfl (.bool false) (fun o hp w' hS => by clear hT HF hI; simp [hp, execOp, go_sem]) hI ?_
  simp only [Act.put, List.setIfInBounds_toArray, List.set_cons_zero, List.set_cons_succ]
  exact HF.out

def rdTree2 : Tr := .take 0 (.take 1 (.take 2 (.take 3 (.take 4 (.take 5 (.take 6 (.take 7 (.take 8 (.take 9 (.take 10 (.take 11 (.take 12 (.take 13 (.take 14 (.one 15 (.take 16 (.take 17 (.take 18 (.take 19 (.take 20 (.take 21 (.take 22 (.one 23 (.take 24 .nil))))))))))))))))))))))))
set_option maxRecDepth 100000 in
set_option maxHeartbeats 4000000 in
theorem rd_region2 {ops : Array Oper} {Q : Exit → Act → World → Prop} {W : World} (hT : ops.toList.map (fun o => (o.dst, o.op, o.guard)) = rdOps) (hB : ordT ops rdTree2 25 (Array.replicate 25 false) = true) (hsel : Region.noSelect ops = true)
    (hQ : ∀ c a t v w, Q (.panic c) (a.put t v) w → Q (.panic c) a w) (z : BtD) (gX gR : Nat) (q M er : Int) (t0 t2 t3 t5 t6 t7 t8 t12 t13 t14 t15 t16 t17 t18 t19 t20 t21 t22 t23 t24 t25 t26 t27 t28 t29 t30 t31 t32 t33 t34 t35 t36 t37 t38 t39 t40 t41 t42 t43 t44 t45 t46 t47 t48 t49 t50 t51 t52 t53 t54 t55 t56 t57 : Value) (hI : (fun w' => z.In w' gX) W) (p0 : (er == 0) = true) (p1 : (z.s == q) = true) (p2 : (M == 16777216 * z.e + z.s) = false) (hst : ∀ W, Calls Tryz.prog 59 #[.int .i64 z.e, .int .i64 z.s] W fun r w' => r = .returned (.int .i64 (16777216 * z.e + z.s)) ∧ W = w') (hZ : BtD.zero.In W gR) (hne : ¬ gX = gR)
    (hF : Q .normal ⟨#[t0, .int .i64 q, t2, t3, .pointer (some ⟨gR, 0, none⟩), .bool false, t6, t7, t8, .int .i64 M, .int .i64 er, .pointer (some ⟨gX, 0, none⟩), t12, t13, t14, t15, t16, t17, t18, t19, t20, t21, t22, t23, t24, t25, t26, t27, t28, t29, t30, t31, t32, t33, t34, .agg z.cells, .int .i64 er, .bool true, .bool true, .pointer (some ⟨gX, 1, none⟩), .int .i64 z.s, .int .i64 q, .bool true, .bool true, .bool true, .int .i64 M, .pointer (some ⟨gX, 0, none⟩), .int .i64 z.e, .pointer (some ⟨gX, 1, none⟩), .int .i64 z.s, .int .i64 (16777216 * z.e + z.s), .bool false, .bool false, .bool false, undef, undef, undef, .bool false], []⟩ (stBat W gR z)) :
    wpAnyH Tryz.prog .any ops Q (fun w' => z.In w' gX) 25 (Array.replicate 25 false) ⟨#[t0, .int .i64 q, t2, t3, .pointer (some ⟨gR, 0, none⟩), t5, t6, t7, t8, .int .i64 M, .int .i64 er, .pointer (some ⟨gX, 0, none⟩), t12, t13, t14, t15, t16, t17, t18, t19, t20, t21, t22, t23, t24, t25, t26, t27, t28, t29, t30, t31, t32, t33, t34, t35, t36, t37, t38, t39, t40, t41, t42, t43, t44, t45, t46, t47, t48, t49, t50, t51, t52, t53, t54, t55, t56, t57], []⟩ W := by
  refine any_of_treeS hsel hQ rdTree2 _ _ _ _ hB ?_
  have HF := Lib.hid hF
  clear hF hB hsel hQ
  unfold rdTree2
  refine ts_take hT 35 rfl (.agg z.cells) (fun o hp w' hS => by have a0 := hS.c0; have a1 := hS.c1; have a2 := hS.c2; have a3 := hS.c3; clear hT HF hI; simp [hp, a0, a1, a2, a3, execOp, go_sem]) hI ?_
  simp only [Act.put, List.setIfInBounds_toArray, List.set_cons_zero, List.set_cons_succ]
  refine ts_take hT 36 rfl (.int .i64 er) (fun o hp w' hS => by clear hT HF hI; simp [hp, execOp, go_sem]) hI ?_
  simp only [Act.put, List.setIfInBounds_toArray, List.set_cons_zero, List.set_cons_succ]
  refine ts_take hT 37 rfl (.bool true) (fun o hp w' hS => by clear hT HF hI; simp [hp, p0, execOp, go_sem]) hI ?_
  simp only [Act.put, List.setIfInBounds_toArray, List.set_cons_zero, List.set_cons_succ]
  refine ts_take hT 38 rfl (.bool true) (fun o hp w' hS => by clear hT HF hI; simp [hp, execOp, go_sem]) hI ?_
  simp only [Act.put, List.setIfInBounds_toArray, List.set_cons_zero, List.set_cons_succ]
  refine gs_take hT 39 rfl rfl rfl (.pointer (some ⟨gX, 1, none⟩)) (fun o hp w' hS => by clear hT HF hI; simp [hp, execOp, go_sem]) hI ?_
  simp only [Act.put, List.setIfInBounds_toArray, List.set_cons_zero, List.set_cons_succ]
  refine gs_take hT 40 rfl rfl rfl (.int .i64 z.s) (fun o hp w' hS => by have a1 := hS.c1; clear hT HF hI; simp [hp, a1, execOp, go_sem]) hI ?_
  simp only [Act.put, List.setIfInBounds_toArray, List.set_cons_zero, List.set_cons_succ]
  refine gs_take hT 41 rfl rfl rfl (.int .i64 q) (fun o hp w' hS => by clear hT HF hI; simp [hp, execOp, go_sem]) hI ?_
  simp only [Act.put, List.setIfInBounds_toArray, List.set_cons_zero, List.set_cons_succ]
  refine gs_take hT 42 rfl rfl rfl (.bool true) (fun o hp w' hS => by clear hT HF hI; simp [hp, p1, execOp, go_sem]) hI ?_
  simp only [Act.put, List.setIfInBounds_toArray, List.set_cons_zero, List.set_cons_succ]
  refine ts_take hT 43 rfl (.bool true) (fun o hp w' hS => by clear hT HF hI; simp [hp, execOp, go_sem]) hI ?_
  simp only [Act.put, List.setIfInBounds_toArray, List.set_cons_zero, List.set_cons_succ]
  refine ts_take hT 44 rfl (.bool true) (fun o hp w' hS => by clear hT HF hI; simp [hp, execOp, go_sem]) hI ?_
  simp only [Act.put, List.setIfInBounds_toArray, List.set_cons_zero, List.set_cons_succ]
  refine gs_take hT 45 rfl rfl rfl (.int .i64 M) (fun o hp w' hS => by clear hT HF hI; simp [hp, execOp, go_sem]) hI ?_
  simp only [Act.put, List.setIfInBounds_toArray, List.set_cons_zero, List.set_cons_succ]
  refine gs_take hT 46 rfl rfl rfl (.pointer (some ⟨gX, 0, none⟩)) (fun o hp w' hS => by clear hT HF hI; simp [hp, execOp, go_sem]) hI ?_
  simp only [Act.put, List.setIfInBounds_toArray, List.set_cons_zero, List.set_cons_succ]
  refine gs_take hT 47 rfl rfl rfl (.int .i64 z.e) (fun o hp w' hS => by have a0 := hS.c0; clear hT HF hI; simp [hp, a0, execOp, go_sem]) hI ?_
  simp only [Act.put, List.setIfInBounds_toArray, List.set_cons_zero, List.set_cons_succ]
  refine gs_take hT 48 rfl rfl rfl (.pointer (some ⟨gX, 1, none⟩)) (fun o hp w' hS => by clear hT HF hI; simp [hp, execOp, go_sem]) hI ?_
  simp only [Act.put, List.setIfInBounds_toArray, List.set_cons_zero, List.set_cons_succ]
  refine gs_take hT 49 rfl rfl rfl (.int .i64 z.s) (fun o hp w' hS => by have a1 := hS.c1; clear hT HF hI; simp [hp, a1, execOp, go_sem]) hI ?_
  simp only [Act.put, List.setIfInBounds_toArray, List.set_cons_zero, List.set_cons_succ]
  refine gs_one hT (some 50) rfl rfl rfl (fun o hd hp => ?_)
  simp [Oper.wp, execOp, hp, hd, resolve, invoke, go_sem]
  refine (hst W).mono ?_
  rintro e w1 ⟨rfl, rfl⟩
  clear o hd hp
  refine ⟨hI, ?_⟩
  refine gs_take hT 51 rfl rfl rfl (.bool false) (fun o hp w' hS => by clear hT HF hI; simp [hp, p2, execOp, go_sem]) hI ?_
  simp only [Act.put, List.setIfInBounds_toArray, List.set_cons_zero, List.set_cons_succ]
  refine ts_take hT 52 rfl (.bool false) (fun o hp w' hS => by clear hT HF hI; simp [hp, execOp, go_sem]) hI ?_
  simp only [Act.put, List.setIfInBounds_toArray, List.set_cons_zero, List.set_cons_succ]
  refine ts_take hT 53 rfl (.bool false) (fun o hp w' hS => by clear hT HF hI; simp [hp, execOp, go_sem]) hI ?_
  simp only [Act.put, List.setIfInBounds_toArray, List.set_cons_zero, List.set_cons_succ]
  refine gs_skip hT 54 rfl rfl rfl rfl hI ?_
  simp only [Act.put, List.setIfInBounds_toArray, List.set_cons_zero, List.set_cons_succ]
  refine gs_skip hT 55 rfl rfl rfl rfl hI ?_
  simp only [Act.put, List.setIfInBounds_toArray, List.set_cons_zero, List.set_cons_succ]
  refine gs_skip hT 56 rfl rfl rfl rfl hI ?_
  simp only [Act.put, List.setIfInBounds_toArray, List.set_cons_zero, List.set_cons_succ]
  refine ts_take hT 57 rfl (.bool false) (fun o hp w' hS => by clear hT HF hI; simp [hp, execOp, go_sem]) hI ?_
  simp only [Act.put, List.setIfInBounds_toArray, List.set_cons_zero, List.set_cons_succ]
  refine ts_one hT none rfl (fun o hd hp => ?_)
  have z0 := hZ.c0
  have z1 := hZ.c1
  have z2 := hZ.c2
  have z3 := hZ.c3
  have fz := hZ.fz
  have hI2 : z.In (stBat W gR z) gX := hI.mod (stBat_mod W gR z) hne
  clear hI hZ
  simp [Oper.wp, execOp, hp, hd, go_sem, z0, z1, z2, z3, fz]
  clear o hd hp z0 z1 z2 z3 fz
  have hI := hI2
  clear hI2
  refine ⟨hI, ?_⟩
  refine ts_take hT 5 rfl (.bool false) (fun o hp w' hS => by clear hT HF hI; simp [hp, execOp, go_sem]) hI ?_
  simp only [Act.put, List.setIfInBounds_toArray, List.set_cons_zero, List.set_cons_succ]
  exact HF.out

def rdTree3 : Tr := .take 0 (.take 1 (.take 2 (.take 3 (.take 4 (.take 5 (.take 6 (.take 7 (.take 8 (.take 9 (.take 10 (.take 11 (.take 12 (.take 13 (.take 14 (.one 15 (.take 16 (.take 17 (.take 18 (.take 19 (.take 20 (.take 21 (.take 22 (.one 23 (.take 24 .nil))))))))))))))))))))))))
set_option maxRecDepth 100000 in
set_option maxHeartbeats 4000000 in
theorem rd_region3 {ops : Array Oper} {Q : Exit → Act → World → Prop} {W : World} (hT : ops.toList.map (fun o => (o.dst, o.op, o.guard)) = rdOps) (hB : ordT ops rdTree3 25 (Array.replicate 25 false) = true) (hsel : Region.noSelect ops = true)
    (hQ : ∀ c a t v w, Q (.panic c) (a.put t v) w → Q (.panic c) a w) (z : BtD) (gX gR : Nat) (q M er : Int) (t0 t2 t3 t5 t6 t7 t8 t12 t13 t14 t15 t16 t17 t18 t19 t20 t21 t22 t23 t24 t25 t26 t27 t28 t29 t30 t31 t32 t33 t34 t35 t36 t37 t38 t39 t40 t41 t42 t43 t44 t45 t46 t47 t48 t49 t50 t51 t52 t53 t54 t55 t56 t57 : Value) (hI : (fun w' => z.In w' gX) W) (p0 : (er == 0) = true) (p1 : (z.s == q) = true) (p2 : (M == 16777216 * z.e + z.s) = true) (p3 : decide (1 ≤ z.e) = false) (hst : ∀ W, Calls Tryz.prog 59 #[.int .i64 z.e, .int .i64 z.s] W fun r w' => r = .returned (.int .i64 (16777216 * z.e + z.s)) ∧ W = w') (hZ : BtD.zero.In W gR) (hne : ¬ gX = gR)
    (hF : Q .normal ⟨#[t0, .int .i64 q, t2, t3, .pointer (some ⟨gR, 0, none⟩), .bool false, t6, t7, t8, .int .i64 M, .int .i64 er, .pointer (some ⟨gX, 0, none⟩), t12, t13, t14, t15, t16, t17, t18, t19, t20, t21, t22, t23, t24, t25, t26, t27, t28, t29, t30, t31, t32, t33, t34, .agg z.cells, .int .i64 er, .bool true, .bool true, .pointer (some ⟨gX, 1, none⟩), .int .i64 z.s, .int .i64 q, .bool true, .bool true, .bool true, .int .i64 M, .pointer (some ⟨gX, 0, none⟩), .int .i64 z.e, .pointer (some ⟨gX, 1, none⟩), .int .i64 z.s, .int .i64 (16777216 * z.e + z.s), .bool true, .bool true, .bool true, .pointer (some ⟨gX, 0, none⟩), .int .i64 z.e, .bool false, .bool false], []⟩ (stBat W gR z)) :
    wpAnyH Tryz.prog .any ops Q (fun w' => z.In w' gX) 25 (Array.replicate 25 false) ⟨#[t0, .int .i64 q, t2, t3, .pointer (some ⟨gR, 0, none⟩), t5, t6, t7, t8, .int .i64 M, .int .i64 er, .pointer (some ⟨gX, 0, none⟩), t12, t13, t14, t15, t16, t17, t18, t19, t20, t21, t22, t23, t24, t25, t26, t27, t28, t29, t30, t31, t32, t33, t34, t35, t36, t37, t38, t39, t40, t41, t42, t43, t44, t45, t46, t47, t48, t49, t50, t51, t52, t53, t54, t55, t56, t57], []⟩ W := by
  refine any_of_treeS hsel hQ rdTree3 _ _ _ _ hB ?_
  have HF := Lib.hid hF
  clear hF hB hsel hQ
  unfold rdTree3
  refine ts_take hT 35 rfl (.agg z.cells) (fun o hp w' hS => by have a0 := hS.c0; have a1 := hS.c1; have a2 := hS.c2; have a3 := hS.c3; clear hT HF hI; simp [hp, a0, a1, a2, a3, execOp, go_sem]) hI ?_
  simp only [Act.put, List.setIfInBounds_toArray, List.set_cons_zero, List.set_cons_succ]
  refine ts_take hT 36 rfl (.int .i64 er) (fun o hp w' hS => by clear hT HF hI; simp [hp, execOp, go_sem]) hI ?_
  simp only [Act.put, List.setIfInBounds_toArray, List.set_cons_zero, List.set_cons_succ]
  refine ts_take hT 37 rfl (.bool true) (fun o hp w' hS => by clear hT HF hI; simp [hp, p0, execOp, go_sem]) hI ?_
  simp only [Act.put, List.setIfInBounds_toArray, List.set_cons_zero, List.set_cons_succ]
  refine ts_take hT 38 rfl (.bool true) (fun o hp w' hS => by clear hT HF hI; simp [hp, execOp, go_sem]) hI ?_
  simp only [Act.put, List.setIfInBounds_toArray, List.set_cons_zero, List.set_cons_succ]
  refine gs_take hT 39 rfl rfl rfl (.pointer (some ⟨gX, 1, none⟩)) (fun o hp w' hS => by clear hT HF hI; simp [hp, execOp, go_sem]) hI ?_
  simp only [Act.put, List.setIfInBounds_toArray, List.set_cons_zero, List.set_cons_succ]
  refine gs_take hT 40 rfl rfl rfl (.int .i64 z.s) (fun o hp w' hS => by have a1 := hS.c1; clear hT HF hI; simp [hp, a1, execOp, go_sem]) hI ?_
  simp only [Act.put, List.setIfInBounds_toArray, List.set_cons_zero, List.set_cons_succ]
  refine gs_take hT 41 rfl rfl rfl (.int .i64 q) (fun o hp w' hS => by clear hT HF hI; simp [hp, execOp, go_sem]) hI ?_
  simp only [Act.put, List.setIfInBounds_toArray, List.set_cons_zero, List.set_cons_succ]
  refine gs_take hT 42 rfl rfl rfl (.bool true) (fun o hp w' hS => by clear hT HF hI; simp [hp, p1, execOp, go_sem]) hI ?_
  simp only [Act.put, List.setIfInBounds_toArray, List.set_cons_zero, List.set_cons_succ]
  refine ts_take hT 43 rfl (.bool true) (fun o hp w' hS => by clear hT HF hI; simp [hp, execOp, go_sem]) hI ?_
  simp only [Act.put, List.setIfInBounds_toArray, List.set_cons_zero, List.set_cons_succ]
  refine ts_take hT 44 rfl (.bool true) (fun o hp w' hS => by clear hT HF hI; simp [hp, execOp, go_sem]) hI ?_
  simp only [Act.put, List.setIfInBounds_toArray, List.set_cons_zero, List.set_cons_succ]
  refine gs_take hT 45 rfl rfl rfl (.int .i64 M) (fun o hp w' hS => by clear hT HF hI; simp [hp, execOp, go_sem]) hI ?_
  simp only [Act.put, List.setIfInBounds_toArray, List.set_cons_zero, List.set_cons_succ]
  refine gs_take hT 46 rfl rfl rfl (.pointer (some ⟨gX, 0, none⟩)) (fun o hp w' hS => by clear hT HF hI; simp [hp, execOp, go_sem]) hI ?_
  simp only [Act.put, List.setIfInBounds_toArray, List.set_cons_zero, List.set_cons_succ]
  refine gs_take hT 47 rfl rfl rfl (.int .i64 z.e) (fun o hp w' hS => by have a0 := hS.c0; clear hT HF hI; simp [hp, a0, execOp, go_sem]) hI ?_
  simp only [Act.put, List.setIfInBounds_toArray, List.set_cons_zero, List.set_cons_succ]
  refine gs_take hT 48 rfl rfl rfl (.pointer (some ⟨gX, 1, none⟩)) (fun o hp w' hS => by clear hT HF hI; simp [hp, execOp, go_sem]) hI ?_
  simp only [Act.put, List.setIfInBounds_toArray, List.set_cons_zero, List.set_cons_succ]
  refine gs_take hT 49 rfl rfl rfl (.int .i64 z.s) (fun o hp w' hS => by have a1 := hS.c1; clear hT HF hI; simp [hp, a1, execOp, go_sem]) hI ?_
  simp only [Act.put, List.setIfInBounds_toArray, List.set_cons_zero, List.set_cons_succ]
  refine gs_one hT (some 50) rfl rfl rfl (fun o hd hp => ?_)
  simp [Oper.wp, execOp, hp, hd, resolve, invoke, go_sem]
  refine (hst W).mono ?_
  rintro e w1 ⟨rfl, rfl⟩
  clear o hd hp
  refine ⟨hI, ?_⟩
  refine gs_take hT 51 rfl rfl rfl (.bool true) (fun o hp w' hS => by clear hT HF hI; simp [hp, p2, execOp, go_sem]) hI ?_
  simp only [Act.put, List.setIfInBounds_toArray, List.set_cons_zero, List.set_cons_succ]
  refine ts_take hT 52 rfl (.bool true) (fun o hp w' hS => by clear hT HF hI; simp [hp, execOp, go_sem]) hI ?_
  simp only [Act.put, List.setIfInBounds_toArray, List.set_cons_zero, List.set_cons_succ]
  refine ts_take hT 53 rfl (.bool true) (fun o hp w' hS => by clear hT HF hI; simp [hp, execOp, go_sem]) hI ?_
  simp only [Act.put, List.setIfInBounds_toArray, List.set_cons_zero, List.set_cons_succ]
  refine gs_take hT 54 rfl rfl rfl (.pointer (some ⟨gX, 0, none⟩)) (fun o hp w' hS => by clear hT HF hI; simp [hp, execOp, go_sem]) hI ?_
  simp only [Act.put, List.setIfInBounds_toArray, List.set_cons_zero, List.set_cons_succ]
  refine gs_take hT 55 rfl rfl rfl (.int .i64 z.e) (fun o hp w' hS => by have a0 := hS.c0; clear hT HF hI; simp [hp, a0, execOp, go_sem]) hI ?_
  simp only [Act.put, List.setIfInBounds_toArray, List.set_cons_zero, List.set_cons_succ]
  refine gs_take hT 56 rfl rfl rfl (.bool false) (fun o hp w' hS => by clear hT HF hI; simp [hp, p3, execOp, go_sem]) hI ?_
  simp only [Act.put, List.setIfInBounds_toArray, List.set_cons_zero, List.set_cons_succ]
  refine ts_take hT 57 rfl (.bool false) (fun o hp w' hS => by clear hT HF hI; simp [hp, execOp, go_sem]) hI ?_
  simp only [Act.put, List.setIfInBounds_toArray, List.set_cons_zero, List.set_cons_succ]
  refine ts_one hT none rfl (fun o hd hp => ?_)
  have z0 := hZ.c0
  have z1 := hZ.c1
  have z2 := hZ.c2
  have z3 := hZ.c3
  have fz := hZ.fz
  have hI2 : z.In (stBat W gR z) gX := hI.mod (stBat_mod W gR z) hne
  clear hI hZ
  simp [Oper.wp, execOp, hp, hd, go_sem, z0, z1, z2, z3, fz]
  clear o hd hp z0 z1 z2 z3 fz
  have hI := hI2
  clear hI2
  refine ⟨hI, ?_⟩
  refine ts_take hT 5 rfl (.bool false) (fun o hp w' hS => by clear hT HF hI; simp [hp, execOp, go_sem]) hI ?_
  simp only [Act.put, List.setIfInBounds_toArray, List.set_cons_zero, List.set_cons_succ]
  exact HF.out

def rdTree4 : Tr := .take 0 (.take 1 (.take 2 (.take 3 (.take 4 (.take 5 (.take 6 (.take 7 (.take 8 (.take 9 (.take 10 (.take 11 (.take 12 (.take 13 (.take 14 (.one 15 (.take 16 (.take 17 (.take 18 (.take 19 (.take 20 (.take 21 (.take 22 (.one 23 (.take 24 .nil))))))))))))))))))))))))
set_option maxRecDepth 100000 in
set_option maxHeartbeats 4000000 in
theorem rd_region4 {ops : Array Oper} {Q : Exit → Act → World → Prop} {W : World} (hT : ops.toList.map (fun o => (o.dst, o.op, o.guard)) = rdOps) (hB : ordT ops rdTree4 25 (Array.replicate 25 false) = true) (hsel : Region.noSelect ops = true)
    (hQ : ∀ c a t v w, Q (.panic c) (a.put t v) w → Q (.panic c) a w) (z : BtD) (gX gR : Nat) (q M er : Int) (t0 t2 t3 t5 t6 t7 t8 t12 t13 t14 t15 t16 t17 t18 t19 t20 t21 t22 t23 t24 t25 t26 t27 t28 t29 t30 t31 t32 t33 t34 t35 t36 t37 t38 t39 t40 t41 t42 t43 t44 t45 t46 t47 t48 t49 t50 t51 t52 t53 t54 t55 t56 t57 : Value) (hI : (fun w' => z.In w' gX) W) (p0 : (er == 0) = true) (p1 : (z.s == q) = true) (p2 : (M == 16777216 * z.e + z.s) = true) (p3 : decide (1 ≤ z.e) = true) (hst : ∀ W, Calls Tryz.prog 59 #[.int .i64 z.e, .int .i64 z.s] W fun r w' => r = .returned (.int .i64 (16777216 * z.e + z.s)) ∧ W = w') (hZ : BtD.zero.In W gR) (hne : ¬ gX = gR)
    (hF : Q .normal ⟨#[t0, .int .i64 q, t2, t3, .pointer (some ⟨gR, 0, none⟩), .bool true, t6, t7, t8, .int .i64 M, .int .i64 er, .pointer (some ⟨gX, 0, none⟩), t12, t13, t14, t15, t16, t17, t18, t19, t20, t21, t22, t23, t24, t25, t26, t27, t28, t29, t30, t31, t32, t33, t34, .agg z.cells, .int .i64 er, .bool true, .bool true, .pointer (some ⟨gX, 1, none⟩), .int .i64 z.s, .int .i64 q, .bool true, .bool true, .bool true, .int .i64 M, .pointer (some ⟨gX, 0, none⟩), .int .i64 z.e, .pointer (some ⟨gX, 1, none⟩), .int .i64 z.s, .int .i64 (16777216 * z.e + z.s), .bool true, .bool true, .bool true, .pointer (some ⟨gX, 0, none⟩), .int .i64 z.e, .bool true, .bool true], []⟩ (stBat W gR z)) :
    wpAnyH Tryz.prog .any ops Q (fun w' => z.In w' gX) 25 (Array.replicate 25 false) ⟨#[t0, .int .i64 q, t2, t3, .pointer (some ⟨gR, 0, none⟩), t5, t6, t7, t8, .int .i64 M, .int .i64 er, .pointer (some ⟨gX, 0, none⟩), t12, t13, t14, t15, t16, t17, t18, t19, t20, t21, t22, t23, t24, t25, t26, t27, t28, t29, t30, t31, t32, t33, t34, t35, t36, t37, t38, t39, t40, t41, t42, t43, t44, t45, t46, t47, t48, t49, t50, t51, t52, t53, t54, t55, t56, t57], []⟩ W := by
  refine any_of_treeS hsel hQ rdTree4 _ _ _ _ hB ?_
  have HF := Lib.hid hF
  clear hF hB hsel hQ
  unfold rdTree4
  refine ts_take hT 35 rfl (.agg z.cells) (fun o hp w' hS => by have a0 := hS.c0; have a1 := hS.c1; have a2 := hS.c2; have a3 := hS.c3; clear hT HF hI; simp [hp, a0, a1, a2, a3, execOp, go_sem]) hI ?_
  simp only [Act.put, List.setIfInBounds_toArray, List.set_cons_zero, List.set_cons_succ]
  refine ts_take hT 36 rfl (.int .i64 er) (fun o hp w' hS => by clear hT HF hI; simp [hp, execOp, go_sem]) hI ?_
  simp only [Act.put, List.setIfInBounds_toArray, List.set_cons_zero, List.set_cons_succ]
  refine ts_take hT 37 rfl (.bool true) (fun o hp w' hS => by clear hT HF hI; simp [hp, p0, execOp, go_sem]) hI ?_
  simp only [Act.put, List.setIfInBounds_toArray, List.set_cons_zero, List.set_cons_succ]
  refine ts_take hT 38 rfl (.bool true) (fun o hp w' hS => by clear hT HF hI; simp [hp, execOp, go_sem]) hI ?_
  simp only [Act.put, List.setIfInBounds_toArray, List.set_cons_zero, List.set_cons_succ]
  refine gs_take hT 39 rfl rfl rfl (.pointer (some ⟨gX, 1, none⟩)) (fun o hp w' hS => by clear hT HF hI; simp [hp, execOp, go_sem]) hI ?_
  simp only [Act.put, List.setIfInBounds_toArray, List.set_cons_zero, List.set_cons_succ]
  refine gs_take hT 40 rfl rfl rfl (.int .i64 z.s) (fun o hp w' hS => by have a1 := hS.c1; clear hT HF hI; simp [hp, a1, execOp, go_sem]) hI ?_
  simp only [Act.put, List.setIfInBounds_toArray, List.set_cons_zero, List.set_cons_succ]
  refine gs_take hT 41 rfl rfl rfl (.int .i64 q) (fun o hp w' hS => by clear hT HF hI; simp [hp, execOp, go_sem]) hI ?_
  simp only [Act.put, List.setIfInBounds_toArray, List.set_cons_zero, List.set_cons_succ]
  refine gs_take hT 42 rfl rfl rfl (.bool true) (fun o hp w' hS => by clear hT HF hI; simp [hp, p1, execOp, go_sem]) hI ?_
  simp only [Act.put, List.setIfInBounds_toArray, List.set_cons_zero, List.set_cons_succ]
  refine ts_take hT 43 rfl (.bool true) (fun o hp w' hS => by clear hT HF hI; simp [hp, execOp, go_sem]) hI ?_
  simp only [Act.put, List.setIfInBounds_toArray, List.set_cons_zero, List.set_cons_succ]
  refine ts_take hT 44 rfl (.bool true) (fun o hp w' hS => by clear hT HF hI; simp [hp, execOp, go_sem]) hI ?_
  simp only [Act.put, List.setIfInBounds_toArray, List.set_cons_zero, List.set_cons_succ]
  refine gs_take hT 45 rfl rfl rfl (.int .i64 M) (fun o hp w' hS => by clear hT HF hI; simp [hp, execOp, go_sem]) hI ?_
  simp only [Act.put, List.setIfInBounds_toArray, List.set_cons_zero, List.set_cons_succ]
  refine gs_take hT 46 rfl rfl rfl (.pointer (some ⟨gX, 0, none⟩)) (fun o hp w' hS => by clear hT HF hI; simp [hp, execOp, go_sem]) hI ?_
  simp only [Act.put, List.setIfInBounds_toArray, List.set_cons_zero, List.set_cons_succ]
  refine gs_take hT 47 rfl rfl rfl (.int .i64 z.e) (fun o hp w' hS => by have a0 := hS.c0; clear hT HF hI; simp [hp, a0, execOp, go_sem]) hI ?_
  simp only [Act.put, List.setIfInBounds_toArray, List.set_cons_zero, List.set_cons_succ]
  refine gs_take hT 48 rfl rfl rfl (.pointer (some ⟨gX, 1, none⟩)) (fun o hp w' hS => by clear hT HF hI; simp [hp, execOp, go_sem]) hI ?_
  simp only [Act.put, List.setIfInBounds_toArray, List.set_cons_zero, List.set_cons_succ]
  refine gs_take hT 49 rfl rfl rfl (.int .i64 z.s) (fun o hp w' hS => by have a1 := hS.c1; clear hT HF hI; simp [hp, a1, execOp, go_sem]) hI ?_
  simp only [Act.put, List.setIfInBounds_toArray, List.set_cons_zero, List.set_cons_succ]
  refine gs_one hT (some 50) rfl rfl rfl (fun o hd hp => ?_)
  simp [Oper.wp, execOp, hp, hd, resolve, invoke, go_sem]
  refine (hst W).mono ?_
  rintro e w1 ⟨rfl, rfl⟩
  clear o hd hp
  refine ⟨hI, ?_⟩
  refine gs_take hT 51 rfl rfl rfl (.bool true) (fun o hp w' hS => by clear hT HF hI; simp [hp, p2, execOp, go_sem]) hI ?_
  simp only [Act.put, List.setIfInBounds_toArray, List.set_cons_zero, List.set_cons_succ]
  refine ts_take hT 52 rfl (.bool true) (fun o hp w' hS => by clear hT HF hI; simp [hp, execOp, go_sem]) hI ?_
  simp only [Act.put, List.setIfInBounds_toArray, List.set_cons_zero, List.set_cons_succ]
  refine ts_take hT 53 rfl (.bool true) (fun o hp w' hS => by clear hT HF hI; simp [hp, execOp, go_sem]) hI ?_
  simp only [Act.put, List.setIfInBounds_toArray, List.set_cons_zero, List.set_cons_succ]
  refine gs_take hT 54 rfl rfl rfl (.pointer (some ⟨gX, 0, none⟩)) (fun o hp w' hS => by clear hT HF hI; simp [hp, execOp, go_sem]) hI ?_
  simp only [Act.put, List.setIfInBounds_toArray, List.set_cons_zero, List.set_cons_succ]
  refine gs_take hT 55 rfl rfl rfl (.int .i64 z.e) (fun o hp w' hS => by have a0 := hS.c0; clear hT HF hI; simp [hp, a0, execOp, go_sem]) hI ?_
  simp only [Act.put, List.setIfInBounds_toArray, List.set_cons_zero, List.set_cons_succ]
  refine gs_take hT 56 rfl rfl rfl (.bool true) (fun o hp w' hS => by clear hT HF hI; simp [hp, p3, execOp, go_sem]) hI ?_
  simp only [Act.put, List.setIfInBounds_toArray, List.set_cons_zero, List.set_cons_succ]
  refine ts_take hT 57 rfl (.bool true) (fun o hp w' hS => by clear hT HF hI; simp [hp, execOp, go_sem]) hI ?_
  simp only [Act.put, List.setIfInBounds_toArray, List.set_cons_zero, List.set_cons_succ]
  refine ts_one hT none rfl (fun o hd hp => ?_)
  have z0 := hZ.c0
  have z1 := hZ.c1
  have z2 := hZ.c2
  have z3 := hZ.c3
  have fz := hZ.fz
  have hI2 : z.In (stBat W gR z) gX := hI.mod (stBat_mod W gR z) hne
  clear hI hZ
  simp [Oper.wp, execOp, hp, hd, go_sem, z0, z1, z2, z3, fz]
  clear o hd hp z0 z1 z2 z3 fz
  have hI := hI2
  clear hI2
  refine ⟨hI, ?_⟩
  refine ts_take hT 5 rfl (.bool true) (fun o hp w' hS => by clear hT HF hI; simp [hp, execOp, go_sem]) hI ?_
  simp only [Act.put, List.setIfInBounds_toArray, List.set_cons_zero, List.set_cons_succ]
  exact HF.out

end Go.Proofs.YtnbamljaiahmdaaGreat
