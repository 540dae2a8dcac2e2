/-
  The body of Disk.Crash's loop: after[w.at], _ = frame.Part(after[w.at], w.s, k).
  The contract of Disk.Crash.
  A device in a law's own memory: every call in one form. The chapter's example (awake).
-/
import Derived.Test.YtkigpicjhklioaaQD
namespace Go.Proofs.Ytkigpicjhklioaa
open Go Go.RowKit

/-- The operations of the body's one region: where each lays its value, what it is. -/
def crashOps : List (Option Tmp × Op × Option (Nat × Bool)) := [(some 21, .load 54 (.tmp 5), none), (some 22, .fieldAddr 67 (.tmp 6) 0, none), (some 23, .load 3 (.tmp 22), none), (some 24, .load 54 (.tmp 5), none), (some 25, .fieldAddr 67 (.tmp 6) 0, none), (some 26, .load 3 (.tmp 25), none), (some 27, .indexAddr 54 (.tmp 24) (.tmp 26), none), (some 28, .load 52 (.tmp 27), none), (some 29, .fieldAddr 67 (.tmp 6) 1, none), (some 30, .load 52 (.tmp 29), none), (some 31, .move (.tmp 7), none), (some 32, .call { callee := .value (.func 33), args := #[.tmp 28, .tmp 30, .tmp 31], argTypes := #[32, 32, 3] }, none), (some 20, .move (.tmp 32), none), (some 33, .extract (.tmp 20) 0, none), (some 34, .extract (.tmp 20) 1, none), (some 35, .indexAddr 54 (.tmp 21) (.tmp 23), none), (none, .store 52 (.tmp 35) (.tmp 33), none)]
def crashOrder : List (Nat × Bool) := [(0, true), (1, true), (2, true), (3, true), (4, true), (5, true), (6, true), (8, true), (9, true), (10, true), (7, false), (11, false), (12, true), (13, true), (14, true), (15, true), (16, false)]

set_option maxRecDepth 100000 in
set_option maxHeartbeats 2000000 in
theorem crash_region {ops : Array Oper} {Q : Exit → Act → World → Prop} {W : World} (hT : ops.toList.map (fun o => (o.dst, o.op, o.guard)) = crashOps) (hB : orderB ops crashOrder (Array.replicate 17 false) = true) (hsel : Region.noSelect ops = true)
    (hQ : ∀ c a a' w, Q (.panic c) a w → Q (.panic c) a' w) (n g Ba Bx cS i c d : Nat) (k : Nat) (hk : k ≤ 256) (A B : Option Addr) (xs ys : List UInt8) (t0 t1 t2 t3 t4 t8 t9 t10 t11 t12 t13 t14 t15 t16 t17 t18 t19 t20 t21 t22 t23 t24 t25 t26 t27 t28 t29 t30 t31 t32 t33 t34 t35 t36 t37 : Value) (ds : List Deferred)
    (hi : i < n) (hS : (fun w' : World => w'.cell? ⟨Ba, 0, none⟩ = some (.slice (some ⟨g, 0, none⟩) n cS) ∧ w'.cell? ⟨Bx, 0, none⟩ = some (.int .i64 i) ∧ w'.cell? ⟨Bx, 1, none⟩ = some (.slice B 256 d)) W) (hc : W.cell? ⟨g, i, none⟩ = some (.slice A 256 c)) (hf : W.frozen? ⟨g, i, none⟩ = false) (hA : Sl W A 256 c xs) (hBs : Sl W B 256 d ys) (hBa : Ba ≠ g) (hBx : Bx ≠ g)
    (hF : ∀ g' w' a', Sec W w' g' (partOf xs ys k) → Q .normal a' (w'.setCell ⟨g, i, none⟩ (.slice (some ⟨g', 0, none⟩) 256 256))) :
    wpAnyH Try.prog .any ops Q (fun w' : World => w'.cell? ⟨Ba, 0, none⟩ = some (.slice (some ⟨g, 0, none⟩) n cS) ∧ w'.cell? ⟨Bx, 0, none⟩ = some (.int .i64 i) ∧ w'.cell? ⟨Bx, 1, none⟩ = some (.slice B 256 d)) 17 (Array.replicate 17 false) { tmps := #[t0, t1, t2, t3, t4, .pointer (some ⟨Ba, 0, none⟩), .pointer (some ⟨Bx, 0, none⟩), .int .i64 k, t8, t9, t10, t11, t12, t13, t14, t15, t16, t17, t18, t19, t20, t21, t22, t23, t24, t25, t26, t27, t28, t29, t30, t31, t32, t33, t34, t35, t36, t37], defers := ds } W := by
  refine held_of_seq hsel hQ crashOrder _ _ _ hB ?_
  unfold crashOrder
  have hi' : (i : Int) < n := by omega
  have HF := Lib.hid hF
  have HQ := Lib.hid hQ
  clear hF hB hsel hQ
  refine seq_take hT 21 _ rfl (.slice (some ⟨g, 0, none⟩) n cS) ?_ hS ?_
  · rintro o hp w' ⟨q1, q2, q3⟩
    clear hS hc hf hT
    simp [*, execOp, go_sem]
  simp only [Act.put, List.setIfInBounds_toArray, List.set_cons_zero, List.set_cons_succ]
  refine seq_take hT 22 _ rfl (.pointer (some ⟨Bx, 0, none⟩)) ?_ hS ?_
  · rintro o hp w' ⟨q1, q2, q3⟩
    clear hS hc hf hT
    simp [*, execOp, go_sem]
  simp only [Act.put, List.setIfInBounds_toArray, List.set_cons_zero, List.set_cons_succ]
  refine seq_take hT 23 _ rfl (.int .i64 i) ?_ hS ?_
  · rintro o hp w' ⟨q1, q2, q3⟩
    clear hS hc hf hT
    simp [*, execOp, go_sem]
  simp only [Act.put, List.setIfInBounds_toArray, List.set_cons_zero, List.set_cons_succ]
  refine seq_take hT 24 _ rfl (.slice (some ⟨g, 0, none⟩) n cS) ?_ hS ?_
  · rintro o hp w' ⟨q1, q2, q3⟩
    clear hS hc hf hT
    simp [*, execOp, go_sem]
  simp only [Act.put, List.setIfInBounds_toArray, List.set_cons_zero, List.set_cons_succ]
  refine seq_take hT 25 _ rfl (.pointer (some ⟨Bx, 0, none⟩)) ?_ hS ?_
  · rintro o hp w' ⟨q1, q2, q3⟩
    clear hS hc hf hT
    simp [*, execOp, go_sem]
  simp only [Act.put, List.setIfInBounds_toArray, List.set_cons_zero, List.set_cons_succ]
  refine seq_take hT 26 _ rfl (.int .i64 i) ?_ hS ?_
  · rintro o hp w' ⟨q1, q2, q3⟩
    clear hS hc hf hT
    simp [*, execOp, go_sem]
  simp only [Act.put, List.setIfInBounds_toArray, List.set_cons_zero, List.set_cons_succ]
  refine seq_take hT 27 _ rfl (.pointer (some ⟨g, i, none⟩)) ?_ hS ?_
  · rintro o hp w' ⟨q1, q2, q3⟩
    clear hS hc hf hT
    simp [*, execOp, go_sem]
  simp only [Act.put, List.setIfInBounds_toArray, List.set_cons_zero, List.set_cons_succ]
  refine seq_take hT 29 _ rfl (.pointer (some ⟨Bx, 1, none⟩)) ?_ hS ?_
  · rintro o hp w' ⟨q1, q2, q3⟩
    clear hS hc hf hT
    simp [*, execOp, go_sem]
  simp only [Act.put, List.setIfInBounds_toArray, List.set_cons_zero, List.set_cons_succ]
  refine seq_take hT 30 _ rfl (.slice B 256 d) ?_ hS ?_
  · rintro o hp w' ⟨q1, q2, q3⟩
    clear hS hc hf hT
    simp [*, execOp, go_sem]
  simp only [Act.put, List.setIfInBounds_toArray, List.set_cons_zero, List.set_cons_succ]
  refine seq_take hT 31 _ rfl (.int .i64 k) ?_ hS ?_
  · rintro o hp w' ⟨q1, q2, q3⟩
    clear hS hc hf hT
    simp [*, execOp, go_sem]
  simp only [Act.put, List.setIfInBounds_toArray, List.set_cons_zero, List.set_cons_succ]
  refine seq_one hT (some 28) _ rfl ?_
  intro o hd hp
  simp [Oper.wp, execOp, hp, hd, go_sem, hc]
  refine ⟨hS, ?_⟩
  clear o hd hp
  refine seq_one hT (some 32) _ rfl ?_
  intro o hd hp
  simp [Oper.wp, execOp, hp, hd, resolve, invoke, go_sem]
  refine (part_ok W A B c d xs ys hA hBs k hk).mono ?_
  rintro e w1 ⟨g', rfl, hsec⟩
  clear o hd hp
  have hm := hsec.2.2
  have keep : ∀ (b j : Nat) (v : Value), W.cell? ⟨b, j, none⟩ = some v → w1.cell? ⟨b, j, none⟩ = some v := fun b j v hv =>
    (World.cell?_of_block (hm.block b (World.block_lt_of_cell? W _ hv) id)).trans hv
  have hS1 : w1.cell? ⟨Ba, 0, none⟩ = some (.slice (some ⟨g, 0, none⟩) n cS) ∧ w1.cell? ⟨Bx, 0, none⟩ = some (.int .i64 i) ∧ w1.cell? ⟨Bx, 1, none⟩ = some (.slice B 256 d) :=
    ⟨keep _ _ _ hS.1, keep _ _ _ hS.2.1, keep _ _ _ hS.2.2⟩
  have hc1 := keep _ _ _ hc
  have hf1 : w1.frozen? ⟨g, i, none⟩ = false := by
    have hb := hm.block g (World.block_lt_of_cell? W _ hc) id
    unfold World.frozen? at hf ⊢
    simp only at hb hf ⊢
    rw [hb]
    exact hf
  refine ⟨hS1, ?_⟩
  clear hS hc hf keep hA hBs hm
  refine seq_take hT 20 _ rfl ((.tuple #[.slice (some ⟨g', 0, none⟩) 256 256, .int .i64 0])) ?_ hS1 ?_
  · rintro o hp w' ⟨q1, q2, q3⟩
    clear hS1 hc1 hf1 hT
    simp [*, execOp, go_sem]
  simp only [Act.put, List.setIfInBounds_toArray, List.set_cons_zero, List.set_cons_succ]
  refine seq_take hT 33 _ rfl ((.slice (some ⟨g', 0, none⟩) 256 256)) ?_ hS1 ?_
  · rintro o hp w' ⟨q1, q2, q3⟩
    clear hS1 hc1 hf1 hT
    simp [*, execOp, go_sem]
  simp only [Act.put, List.setIfInBounds_toArray, List.set_cons_zero, List.set_cons_succ]
  refine seq_take hT 34 _ rfl (.int .i64 0) ?_ hS1 ?_
  · rintro o hp w' ⟨q1, q2, q3⟩
    clear hS1 hc1 hf1 hT
    simp [*, execOp, go_sem]
  simp only [Act.put, List.setIfInBounds_toArray, List.set_cons_zero, List.set_cons_succ]
  refine seq_take hT 35 _ rfl (.pointer (some ⟨g, i, none⟩)) ?_ hS1 ?_
  · rintro o hp w' ⟨q1, q2, q3⟩
    clear hS1 hc1 hf1 hT
    simp [*, execOp, go_sem]
  simp only [Act.put, List.setIfInBounds_toArray, List.set_cons_zero, List.set_cons_succ]
  refine seq_one hT none _ rfl ?_
  intro o hd hp
  simp [Oper.wp, execOp, hp, hd, go_sem, hc1, hf1]
  refine ⟨?_, HF.out g' w1 _ hsec⟩
  exact hS1
end Go.Proofs.Ytkigpicjhklioaa

namespace Go.Proofs.Ytkigpicjhklioaa
open Go Go.RowKit Go.Shelf
attribute [local go_sem] Oper.semAt_some

/-- What survivors leave of the sectors. -/
def applySv (D : List (List UInt8)) (zs : List Sv) : List (List UInt8) := zs.foldl (fun D z => D.set z.i (partOf (D.getD z.i []) z.s.xs z.k)) D
theorem applySv_snoc (D : List (List UInt8)) (zs : List Sv) (z : Sv) : applySv D (zs ++ [z]) = (applySv D zs).set z.i (partOf ((applySv D zs).getD z.i []) z.s.xs z.k) := by simp [applySv]
theorem set_getD (D : List (List UInt8)) (i : Nat) : D.set i (D.getD i []) = D := by
  apply List.ext_getElem (by simp)
  intro j h1 h2
  rw [List.getElem_set]
  split
  · rename_i e; subst e; simp at h1; simp [h1]
  · rfl
theorem applySv_surv (f : Nat → Nat) (W : List (Nat × Sct)) : ∀ (i : Nat) (D : List (List UInt8)), applySv D (survGo f i W) = crashGo f i (W.map fun y => (y.1, y.2.xs)) D := by
  induction W with
  | nil => intro i D; rfl
  | cons y W ih =>
    intro i D
    show applySv D (if 0 < f i then _ else _) = crashGo f (i + 1) _ (D.set y.1 (partOf (D.getD y.1 []) y.2.xs (f i)))
    split
    · exact ih (i + 1) _
    · rename_i h
      have h0 : f i = 0 := by omega
      rw [ih, h0, part_zero, set_getD]

/-! ### What a turn of a block that is no cells leaves -/
section
variable {W W' : World} {row : Option Nat}
theorem blk_kept {k : Nat} {cs : Array Value} {t : TypeId} {fr : Nat × Nat} (h : W.heap[k]? = some (.cells cs t fr)) (hg : W.grownBy W' row) (hr : ∀ r, row = some r → ∃ o : Obj, W.heap[r]? = some o ∧ o.isCells = false) : W'.heap[k]? = some (.cells cs t fr) := by
  refine (hg.block k (Array.getElem?_eq_some_iff.1 h).1 (fun e => ?_)).trans h
  obtain ⟨o, ho, hc⟩ := hr k e.symm
  rw [h] at ho
  injection ho with ho
  subst ho
  cases hc
theorem Sl.own {A : Option Addr} {n c : Nat} {xs : List UInt8} (h : Sl W A n c xs) (hg : W.grownBy W' row) (hr : ∀ r, row = some r → ∃ o : Obj, W.heap[r]? = some o ∧ o.isCells = false) : Sl W' A n c xs := by
  refine ⟨h.1, h.2.1, fun hn => ?_⟩
  obtain ⟨b, o, rfl, hc⟩ := h.2.2 hn
  exact ⟨b, o, rfl, fun j hj => cell_kept (hc j hj) hg hr⟩
theorem OwV.own {base : Nat} {e : TypeId} {g n c : Nat} {vs : List Value} (h : OwV W base e (some ⟨g, 0, none⟩) n c vs) (hg : W.grownBy W' row) (hr : ∀ r, row = some r → ∃ o : Obj, W.heap[r]? = some o ∧ o.isCells = false) : OwV W' base e (some ⟨g, 0, none⟩) n c vs := by
  have hl := h.1
  obtain ⟨_, cur, hb, h1, h2, h3, h4⟩ := h.block rfl
  exact ⟨hl, .inr ⟨g, c, cur, rfl, (h.lt g rfl).1, blk_kept hb hg hr, h1, h2, by simpa using h3, by simpa using h4⟩⟩
theorem OwN.own {base : Nat} {e : TypeId} {size : Nat} {A : Option Addr} {n c : Nat} {vs : List Value} (h : OwN W base e size A n c vs) (hg : W.grownBy W' row) (hr : ∀ r, row = some r → ∃ o : Obj, W.heap[r]? = some o ∧ o.isCells = false) : OwN W' base e size A n c vs := by
  refine ⟨h.1, ?_⟩
  rcases h.2 with hn | ⟨g, cap, cur, hv, hb, hgg, rest⟩
  · exact .inl hn
  · exact .inr ⟨g, cap, cur, hv, hb, blk_kept hgg hg hr, rest⟩
theorem DV.At.own {base : Nat} {x : DV} (h : x.At W base) (hg : W.grownBy W' row) (hr : ∀ r, row = some r → ∃ o : Obj, W.heap[r]? = some o ∧ o.isCells = false) : x.At W' base where
  obj := blk_kept h.obj hg hr
  dur := h.dur.own hg hr
  now := h.now.own hg hr
  pend := h.pend.own hg hr
  secs := fun s hs => ⟨(h.secs s hs).1.own hg hr, (h.secs s hs).2⟩
  wsecs := fun y hy => ⟨(h.wsecs y hy).1, (h.wsecs y hy).2.1.own hg hr, (h.wsecs y hy).2.2⟩
  pb := h.pb
  d1 := h.d1
  d2 := h.d2
  d3 := h.d3
  d4 := h.d4
  pos := h.pos
  few := h.few
  lft := h.lft
theorem Mod.turn {F : Nat → Prop} {w : World} (h : Mod F w W) (hg : W.grownBy W' row) (hr : ∀ r, row = some r → r < w.heap.size → F r) : Mod F w W' := h.grown hg hr
end

/-- The sectors of the device that is being made. -/
structure Aft (w : World) (W : World) (g n c : Nat) (D' : List Sct) : Prop where
  own : OwV W w.heap.size 52 (some ⟨g, 0, none⟩) n c (D'.map Sct.v)
  secs : ∀ s ∈ D', s.At W (fun k => k = g)
theorem Aft.own_ {w W W' : World} {row : Option Nat} {g n c : Nat} {D' : List Sct} (h : Aft w W g n c D') (hg : W.grownBy W' row) (hr : ∀ r, row = some r → ∃ o : Obj, W.heap[r]? = some o ∧ o.isCells = false) : Aft w W' g n c D' :=
  ⟨h.own.own hg hr, fun s hs => ⟨(h.secs s hs).1.own hg hr, (h.secs s hs).2⟩⟩
theorem Aft.keep {w W W' : World} {g n c : Nat} {D' : List Sct} (h : Aft w W g n c D') (hm : Mod (fun _ => False) W W') : Aft w W' g n c D' :=
  ⟨h.own.mod hm (fun _ _ => id), fun s hs => (h.secs s hs).keep hm⟩
theorem Aft.len {w W : World} {g n c : Nat} {D' : List Sct} (h : Aft w W g n c D') : D'.length = n := by have := h.own.len; simpa using this

def noDefer (ops : Array Oper) : Bool := ops.all fun o => match o.op with
  | .defer _ => false
  | _ => true
theorem noDefer_spec {ops : Array Oper} (h : noDefer ops = true) : ∀ (i : Nat) (o : Oper), ops[i]? = some o → ∀ c, o.op ≠ .defer c := by
  intro i o ho c hc
  obtain ⟨hi, e⟩ := Array.getElem?_eq_some_iff.1 ho
  have := Array.all_eq_true.1 h i hi
  rw [e, hc] at this
  cases this

set_option maxRecDepth 100000 in
set_option maxHeartbeats 4000000 in
theorem crash_ok (w : World) (base : Nat) (x : DV) (h : x.At w base) (hW : x.W.length ≤ 1000) (kA : Option Addr) (kn kc : Nat) (ks : List Bool) (torn kk : Int) (hk : Bl w kA kn kc ks) (hkn : kn ≤ 9223372036854775807) :
    Calls Try.prog 15 #[.pointer (some ⟨x.p, 0, none⟩), .agg #[.slice kA kn kc, .int .i64 torn, .int .i64 kk]] w fun e w' => ∃ x', e = .returned (.pointer (some ⟨x'.p, 0, none⟩)) ∧ Made w w' w.heap.size x' (x.dk.crash (keptN ks torn kk)) := by
  refine (callsIn_wide (n := 8)).1 ?_
  have hmA : Mod (fun _ => False) w (w.alloc (.cells #[.slice kA kn kc, .int .i64 torn, .int .i64 kk] 37)) := (Mod.refl _ w).alloc _
  have hA := h.keep hmA
  obtain ⟨c0, c1, c2, c3, c4, c5⟩ := hA.cells
  have hcl := sclone_ok _ _ _ _ _ hA.dur h.few h.pos
  have Hcl := Lib.hid hcl
  have HmA := Lib.hid hmA
  have H := Lib.hid h
  have Hk := Lib.hid hk
  clear c1 c2 c3 c4 c5 hcl hmA hA h hk
  refine callsIn_of_wp_marks Try.func15 rfl trivial ?_ rfl
  simp only [Try.ntmps15, List.size_toArray, List.length_cons, List.length_nil, Nat.reduceAdd, Nat.reduceSub, Array.replicate_succ, Array.replicate_zero, List.push_toArray, List.append_toArray, List.nil_append, List.cons_append]
  gi_wp2_with fail
  refine ⟨trivial, ?_⟩
  refine (callsIn_wide.2 Hcl.out).mono ?_
  rintro e wB ⟨g, cS, rfl, hf, hmB⟩
  have Hf := Lib.hid hf
  have HmB := Lib.hid hmB
  have hmC : Mod (fun _ => False) w (wB.alloc (.cells #[.slice (some ⟨g, 0, none⟩) x.D.length cS] 54)) := (HmA.out.trans hmB (fun _ _ h => h)).alloc _
  have hb3 : (wB.alloc (.cells #[.slice (some ⟨g, 0, none⟩) x.D.length cS] 54)).heap[w.heap.size]? = some (.cells #[.slice kA kn kc, .int .i64 torn, .int .i64 kk] 37 (0, 0)) := by
    have h1 := heap_alloc_new w (.cells #[.slice kA kn kc, .int .i64 torn, .int .i64 kk] 37)
    have h2 := (hmB.block w.heap.size (by rw [World.size_alloc]; omega) id).trans h1
    exact (Below.heap_alloc wB _ _ (Array.getElem?_eq_some_iff.1 h2).1).trans h2
  have d0 : (wB.alloc (.cells #[.slice (some ⟨g, 0, none⟩) x.D.length cS] 54)).cell? ⟨w.heap.size, 0, none⟩ = some (.slice kA kn kc) := by rw [cell_of_row _ _ _ _ _ _ hb3]; rfl
  have d1 : (wB.alloc (.cells #[.slice (some ⟨g, 0, none⟩) x.D.length cS] 54)).cell? ⟨w.heap.size, 1, none⟩ = some (.int .i64 torn) := by rw [cell_of_row _ _ _ _ _ _ hb3]; rfl
  have d2 : (wB.alloc (.cells #[.slice (some ⟨g, 0, none⟩) x.D.length cS] 54)).cell? ⟨w.heap.size, 2, none⟩ = some (.int .i64 kk) := by rw [cell_of_row _ _ _ _ _ _ hb3]; rfl
  have HmC := Lib.hid hmC
  clear hf hmB Hcl hb3 hmC c0
  gi_wp2_with fail
  refine ⟨trivial, ?_⟩
  refine (callsIn_wide.2 (survivors_ok _ _ _ _ _ _ _)).mono ?_
  rintro e wD ⟨rfl, hwD⟩
  clear d0 d1 d2
  obtain ⟨wC, hwC⟩ : ∃ wC, wC = wB.alloc (.cells #[.slice (some ⟨g, 0, none⟩) x.D.length cS] 54) := ⟨_, rfl⟩
  rw [← hwC] at hwD HmC ⊢
  have hsC : wC.heap.size = wB.heap.size + 1 := by rw [hwC, World.size_alloc]
  have hbox : wC.heap[wB.heap.size]? = some (.cells #[.slice (some ⟨g, 0, none⟩) x.D.length cS] 54 (0, 0)) := by rw [hwC]; exact heap_alloc_new wB _
  have hmCD : Mod (fun _ => False) wC wD := by rw [hwD]; exact ((Mod.refl _ _).alloc _).alloc _
  have hsD : wD.heap.size = wC.heap.size + 2 := by rw [hwD, World.size_alloc, World.size_alloc]
  have hboxD : wD.heap[wC.heap.size]? = some (.cells #[.pointer (some ⟨x.p, 0, none⟩)] 25 (0, 0)) := by
    rw [hwD]
    exact (Below.heap_alloc _ _ _ (by rw [World.size_alloc]; omega)).trans (heap_alloc_new wC _)
  have hboxC : wD.heap[wC.heap.size + 1]? = some (.cells #[.slice kA kn kc, .int .i64 torn, .int .i64 kk] 37 (0, 0)) := by
    rw [hwD]
    have := heap_alloc_new (wC.alloc (.cells #[.pointer (some ⟨x.p, 0, none⟩)] 25)) (.cells #[.slice kA kn kc, .int .i64 torn, .int .i64 kk] 37)
    rw [World.size_alloc] at this
    exact this
  have hmD : Mod (fun _ => False) w wD := HmC.out.trans hmCD (fun _ _ h => h)
  have hbox' : Boxed wD wB.heap.size 54 (.slice (some ⟨g, 0, none⟩) x.D.length cS) := (hmCD.block _ (by omega) id).trans hbox
  have hgB := Hf.out.lt g rfl
  have hgw : w.heap.size + 1 ≤ g ∧ g < wB.heap.size := by have h1 := hgB.1; rw [World.size_alloc] at h1; exact ⟨h1, hgB.2⟩
  have hownD : OwV wD w.heap.size 52 (some ⟨g, 0, none⟩) x.D.length cS (x.D.map Sct.v) := by
    refine (((Hf.out.rebase (fun k hk => ?_)).alloc (.cells #[.slice (some ⟨g, 0, none⟩) x.D.length cS] 54)).mod (w' := wD) (by rw [← hwC]; exact hmCD) (fun _ _ => id))
    simp [blkOf] at hk
    omega
  have hmlt : ∀ k, x.M k → k < w.heap.size := fun k hk => (H.out.M_lt hk).2
  have hD := H.out.keep hmD
  have hIts : Its wD g wD.heap.size wC.heap.size (wC.heap.size + 1) x kA kn kc ks torn kk := by
    refine ⟨by rw [cell_of_row _ _ _ _ _ _ hboxD]; rfl, by rw [cell_of_row _ _ _ _ _ _ hboxC]; rfl, by rw [cell_of_row _ _ _ _ _ _ hboxC]; rfl, by rw [cell_of_row _ _ _ _ _ _ hboxC]; rfl, Hk.out.keep hmD, ?_, hD.cells.2.2.1, fun j y hy => hD.pendAt j y hy, by omega, by omega, ?_, ?_⟩
    · intro k hk' hn
      obtain ⟨b, o, e, hc⟩ := Hk.out.2.2 hn
      rw [e] at hk'
      simp [blkOf] at hk'
      have := World.block_lt_of_cell? w _ (hc 0 hn)
      simp only at this
      omega
    · have := hmlt x.p (.inl rfl); omega
    · intro b hb; have := hmlt b (.inr (.inr (.inr hb))); omega
  have HIts := Lib.hid hIts
  have HmD := Lib.hid hmD
  have Hbox := Lib.hid hbox'
  have HownD := Lib.hid hownD
  have HD := Lib.hid hD
  have HsC := Lib.hid hsC
  have HsD := Lib.hid hsD
  have Hgw := Lib.hid hgw
  obtain ⟨Bd, hBd⟩ : ∃ Bd, Bd = wC.heap.size := ⟨_, rfl⟩
  obtain ⟨Ba, hBa⟩ : ∃ Ba, Ba = wB.heap.size := ⟨_, rfl⟩
  obtain ⟨B3, hB3⟩ : ∃ B3, B3 = w.heap.size := ⟨_, rfl⟩
  rw [← hBd] at HIts HsC HsD ⊢
  rw [← hBa] at HsC Hbox Hgw ⊢
  have HBd := Lib.hid hBd
  have HBa := Lib.hid hBa
  clear hIts hmD hbox' hownD hD hsC hsD hgw hgB hboxD hboxC hmCD hbox hwC hwD hmlt hBd hBa HmC Hf HmB HmA
  gi_wp2_with fail
  have hP : ∀ j y, x.W[j]? = some y → (fun z : Sv => z.i < x.D.length ∧ z.s.At wD (fun k => k = g) ∧ z.k ≤ 256) ⟨y.1, y.2, keptN ks torn kk j⟩ := by
    intro j y hy
    have h1 := H.out.wsecs y (List.mem_of_getElem? hy)
    refine ⟨h1.1, ⟨h1.2.1.mod HmD.out (fun _ _ _ => id), fun k hk e => ?_⟩, keptN_le _ _ _ _⟩
    obtain ⟨b, o, hA, hb⟩ := h1.2.1.lt (by omega)
    rw [hA] at hk
    simp [blkOf] at hk
    have := Hgw.out
    omega
  refine wpIn_rangeFunc_ownH (α := { z : Sv // z.i < x.D.length ∧ z.s.At wD (fun k => k = g) ∧ z.k ≤ 256 }) rfl (by omega) (gf := 46) (lb := #[.pointer (some ⟨Bd, 0, none⟩), .pointer (some ⟨Bd + 1, 0, none⟩)]) rfl trivial (enters_of Try.func46 (by kernel_rfl) rfl)
    (surv_stops 7 g wD.heap.size Bd (Bd + 1) (by omega) x kA kn kc ks torn kk _ hkn hW hP wD rfl HIts.out)
    (fun h k => Mod.trans h k (fun _ _ e => e))
    (fun W l o o' hl ho _ _ => ⟨rfl, rfl, rfl, by simp, fun k hk hn => World.putObj_heap_other (fun e => hn (.inr (by omega)))⟩)
    (Below.refl _ _) (fun _ => rfl)
    (fun pre W => (∃ D', Aft w W g x.D.length cS D' ∧ D'.map Sct.xs = applySv (x.D.map Sct.xs) (pre.map Subtype.val)) ∧ Boxed W Ba 54 (.slice (some ⟨g, 0, none⟩) x.D.length cS) ∧ Kp g wD.heap.size wD W)
    (fun _ _ _ => False)
    ?hI (fun _ _ _ _ _ hs _ _ => hs) ?h0
    (fun z a' W => ∃ Bx, wD.heap.size ≤ Bx ∧ W.heap[Bx]? = some (.cells #[.int .i64 z.1.i, .slice z.1.s.A 256 z.1.s.c] 67 (0, 0)) ∧ a' = { tmps := #[.pointer (some ⟨x.p, 0, none⟩), .agg #[.slice kA kn kc, .int .i64 torn, .int .i64 kk], undef, .pointer (some ⟨w.heap.size, 0, none⟩), .pointer none, .pointer (some ⟨Ba, 0, none⟩), .pointer (some ⟨Bx, 0, none⟩), .int .i64 z.1.k, .pointer (some ⟨x.p, 0, none⟩), .bool false, .pointer (some ⟨x.p, 0, none⟩), .pointer (some ⟨x.p, 0, none⟩), .pointer (some ⟨x.p, 0, none⟩), .slice (some ⟨x.bd, 0, none⟩) x.D.length x.cd, .slice (some ⟨g, 0, none⟩) x.D.length cS, .pointer (some ⟨x.p, 0, none⟩), .agg #[.slice kA kn kc, .int .i64 torn, .int .i64 kk], .func (.func 46) #[] #[.pointer (some ⟨Bd, 0, none⟩), .pointer (some ⟨Bd + 1, 0, none⟩)], .agg #[.int .i64 z.1.i, .slice z.1.s.A 256 z.1.s.c], .int .i64 z.1.k, undef, undef, undef, undef, undef, undef, undef, undef, undef, undef, undef, undef, undef, undef, undef, undef, undef, undef], defers := [] })
    ?hAx ?assign ?body ?done ?stop
  case hI =>
    rintro pre A B row ⟨⟨D', ha, hd⟩, hb, hk⟩ hg hr
    exact ⟨⟨D', ha.own_ hg (fun r e => (hr r e).2), hd⟩, blk_kept hb hg (fun r e => (hr r e).2), hk.turn hg (fun r e _ => .inr (hr r e).1)⟩
  case h0 =>
    refine ⟨⟨x.D, ⟨HownD.out, fun s hs => ?_⟩, rfl⟩, Hbox.out, Mod.refl _ _⟩
    have h1 := H.out.secs s hs
    refine ⟨h1.1.mod HmD.out (fun _ _ _ => id), fun k hk e => ?_⟩
    obtain ⟨b, o, hA, hb⟩ := h1.1.lt (by omega)
    rw [hA] at hk
    simp [blkOf] at hk
    have := Hgw.out
    omega
  case hAx =>
    rintro z a' _ A B row ⟨Bx, h1, h2, h3⟩ hg hr
    exact ⟨Bx, h1, blk_kept h2 hg (fun r e => (hr r e).2), h3⟩
  case assign =>
    rintro l pre z W K ⟨⟨D', ha, hd⟩, hb, hk⟩ hK
    have HK := Lib.hid hK
    clear hK
    dsimp only [Sv.encs]
    gi_wp2
    refine HK.out _ _ ((KeepsOthers.alloc _ _).from _) ((Mod.refl _ W).alloc _) ⟨⟨D', ha.keep ((Mod.refl _ W).alloc _), hd⟩, hb.alloc _, hk.alloc _⟩ ⟨W.heap.size, hk.size, heap_alloc_new W _, rfl⟩
  case stop =>
    rintro D c pre W _ _ h _
    exact h.elim
  case done =>
    rintro D zs W hD hzs ⟨⟨D', ha, hd⟩, hb, hk⟩ hK
    have cb := hb.cell
    have hlen := ha.len
    have hWw : Mod (fun _ => False) w W := HmD.out.trans hk (fun i hi e => by have := Hgw.out; have := HmD.out.size; rcases e with e | e <;> omega)
    have hmd := made_ok W w.heap.size g cS D' (by rw [hlen]; exact ha.own) (by rw [hlen]; exact H.out.few) (by rw [hlen]; exact H.out.pos) hWw.size ha.secs
    rw [hlen, hd, hzs, applySv_surv] at hmd
    have Hmd := Lib.hid hmd
    have HK := Lib.hid hK
    have HWw := Lib.hid hWw
    have HhD := Lib.hid hD
    clear hmd hK hWw ha hd hb hk hlen hzs hD
    gi_wp2_with fail
    refine ⟨trivial, ?_⟩
    refine (callsIn_wide.2 Hmd.out).mono ?_
    rintro e w2 ⟨x', rfl, hM⟩
    have hK2 : w2.heap[D]? = some (.deferred (some [])) := (hM.2.2.2.block D (Array.getElem?_eq_some_iff.1 HK.out).1 id).trans HK.out
    have HM := Lib.hid hM
    have HK2 := Lib.hid hK2
    clear hM hK2 cb
    gi_wp2
    refine ⟨by simp, .inl ⟨_, _, rfl, run_takeDeferred HK2.out, ?_⟩⟩
    refine ⟨_, results_tmp rfl _ _ _, x', rfl, ?_⟩
    have hg2 := grownBy_putObj' w2 D (.deferred none)
    have hr2 : ∀ r, some D = some r → ∃ o : Obj, w2.heap[r]? = some o ∧ o.isCells = false := fun r e => by cases e; exact ⟨_, HK2.out, rfl⟩
    refine ⟨HM.out.1.own hg2 hr2, HM.out.2.1, HM.out.2.2.1, ?_⟩
    refine (HWw.out.trans HM.out.2.2.2 (fun _ _ h => h)).turn hg2 (fun r e hr => ?_)
    cases e
    have := HhD.out
    have := HmD.out.size
    omega
  case body =>
    rintro l pre z a' W hl _ ⟨⟨D', ha, hd⟩, hb, hk⟩ ⟨Bx, hBx, hbx, rfl⟩ _
    gi_wp2
    have hz := z.2
    obtain ⟨s0, hs0⟩ : ∃ s0, D'[z.1.i]? = some s0 := ⟨_, List.getElem?_eq_getElem (by rw [ha.len]; exact hz.1)⟩
    obtain ⟨⟨u, cu, hu⟩, fu⟩ := ha.own.spot z.1.i hz.1
    rw [List.getElem?_map, hs0] at hu
    injection hu with hu
    have cu' : W.drew.cell? ⟨g, z.1.i, none⟩ = some (.slice s0.A 256 s0.c) := by rw [← hu] at cu; exact cu
    have hsat := ha.secs s0 (List.mem_of_getElem? hs0)
    have hS : W.drew.cell? ⟨Ba, 0, none⟩ = some (.slice (some ⟨g, 0, none⟩) x.D.length cS) ∧ W.drew.cell? ⟨Bx, 0, none⟩ = some (.int .i64 z.1.i) ∧ W.drew.cell? ⟨Bx, 1, none⟩ = some (.slice z.1.s.A 256 z.1.s.c) :=
      ⟨hb.cell, by show W.cell? _ = _; rw [cell_of_row _ _ _ _ _ _ hbx]; rfl, by show W.cell? _ = _; rw [cell_of_row _ _ _ _ _ _ hbx]; rfl⟩
    have hz1 : (z.1.i : Int) < x.D.length := by have := hz.1; omega
    have hz0 := hz.1
    have hzs : Sl W.drew z.1.s.A 256 z.1.s.c z.1.s.xs := by
      refine hz.2.1.1.mod hk.drew (fun k hk' _ e => ?_)
      obtain ⟨b, o, hA, hbl⟩ := hz.2.1.1.lt (by omega)
      rcases e with e | e
      · exact hz.2.1.2 k hk' e
      · rw [hA] at hk'
        simp [blkOf] at hk'
        omega
    refine wpIn_region_any (by kernel_rfl) (roundOps (noDefer_spec (by kernel_rfl)) ?letsout _ _ _ _ (wpAny_of_held _ _ _ _
      (crash_region (W := W.drew) (by kernel_rfl) (by kernel_rfl) (by kernel_rfl) ?panic x.D.length g Ba Bx cS z.1.i s0.c z.1.s.c z.1.k hz.2.2 s0.A z.1.s.A s0.xs z.1.s.xs _ _ _ _ _ _ _ _ _ _ _ _ _ _ _ _ _ _ _ _ _ _ _ _ _ _ _ _ _ _ _ _ _ _ _ _ hz.1 hS cu' fu hsat.1 hzs ?n1 ?n2 ?fin)))
    case letsout =>
      rintro ⟨a, w', hq⟩
      exact hq
    case panic =>
      intro c a a' w' hq
      exact hq
    case n1 => have := Hgw.out; omega
    case n2 => have := Hgw.out; have := HsC.out; have := HsD.out; omega
    case fin =>
      intro g' w' a' hsec
      have hgl : g < W.heap.size := (ha.own.lt g rfl).2
      have hm1 : Mod (fun _ => False) W w' := (Mod.refl _ W).drew.trans hsec.2.2 (fun _ _ h => h)
      have hg' : g' ≠ g := by have : W.heap.size ≤ g' := hsec.1; omega
      have hm2 : Mod (fun k => k = g) w' (w'.setCell ⟨g, z.1.i, none⟩ (.slice (some ⟨g', 0, none⟩) 256 256)) := (Mod.refl _ w').one _ _
      have hmW : Mod (fun k => k = g) W (w'.setCell ⟨g, z.1.i, none⟩ (.slice (some ⟨g', 0, none⟩) 256 256)) := (hm1.mono (fun _ _ h => h.elim)).trans hm2 (fun _ _ e => e)
      have hgc : ∃ cur, W.heap[g]? = some (.cells cur 52 (0, 0)) := by
        obtain ⟨_, cur, hc, _⟩ := ha.own.block rfl
        exact ⟨cur, hc⟩
      have hBg : Ba ≠ g := by have := Hgw.out; omega
      have hl0 : s0.xs.length = 256 := hsat.len
      have hl1 : z.1.s.xs.length = 256 := hz.2.1.len
      refine ⟨⟨hmW.size, fun k o _ hk' ho => ?_⟩, hmW.mono (fun _ _ e => .inl e), ⟨D'.set z.1.i ⟨some ⟨g', 0, none⟩, 256, partOf s0.xs z.1.s.xs z.1.k⟩, ⟨?_, fun s hs => ?_⟩, ?_⟩, (hmW.block Ba hb.lt hBg).trans hb, hk.trans (hmW.mono (fun _ _ e => .inl e)) (fun _ _ e => e)⟩
      · refine (hmW.block k (Array.getElem?_eq_some_iff.1 hk').1 (fun e => ?_)).trans hk'
        obtain ⟨cur, hc⟩ := hgc
        rw [e, hc] at hk'
        injection hk' with hk'
        subst hk'
        cases ho
      · have h1 := (ha.own.mod hm1 (fun _ _ => id)).set z.1.i (.slice (some ⟨g', 0, none⟩) 256 256)
        rw [← map_set_v]
        exact h1
      · rcases List.mem_or_eq_of_mem_set hs with h1 | h1
        · exact (ha.secs s h1).mod hmW
        · subst h1
          refine ⟨(hsec.sl (partOf_len _ _ _ hl0 hl1 hz.2.2)).mod hm2 (fun k hk' _ e => ?_), fun k hk' e => ?_⟩
          · simp [blkOf] at hk'; omega
          · simp [blkOf] at hk'; omega
      · rw [List.map_append, List.map_cons, List.map_nil, applySv_snoc, ← hd, List.map_set, List.getD_eq_getElem?_getD, List.getElem?_map, hs0]
        rfl
end Go.Proofs.Ytkigpicjhklioaa

namespace Go.Proofs.Ytkigpicjhklioaa
open Go Go.RowKit

section
variable {w : World} {base base' : Nat} {x : DV}
theorem OwN.rebase {e : TypeId} {size : Nat} {A : Option Addr} {n c : Nat} {vs : List Value} (h : OwN w base e size A n c vs) (hb : base' ≤ base) : OwN w base' e size A n c vs := by
  refine ⟨h.1, ?_⟩
  rcases h.2 with hn | ⟨g, cap, cur, hv, hbg, rest⟩
  · exact .inl hn
  · exact .inr ⟨g, cap, cur, hv, by omega, rest⟩
theorem DV.At.rebase (h : x.At w base) (hb : base' ≤ base) : x.At w base' where
  obj := h.obj
  dur := h.dur.rebase (fun k hk => by have := (h.dur.lt k hk).1; omega)
  now := h.now.rebase (fun k hk => by have := (h.now.lt k hk).1; omega)
  pend := h.pend.rebase hb
  secs := h.secs
  wsecs := h.wsecs
  pb := by have := h.pb; omega
  d1 := h.d1
  d2 := h.d2
  d3 := h.d3
  d4 := h.d4
  pos := h.pos
  few := h.few
  lft := h.lft
end

/-- The device x, in memory laid since w0, is d; nothing that lay at w0 has turned. -/
structure Dev (w0 w : World) (x : DV) (d : Dk) : Prop where
  at_ : x.At w w0.heap.size
  dk : x.dk = d
  old : Mod (fun _ => False) w0 w
section
variable {w0 w w' : World} {x x' : DV} {d d' : Dk}
theorem Dev.keep (h : Dev w0 w x d) (hm : Mod (fun _ => False) w w') : Dev w0 w' x d := ⟨h.at_.keep hm, h.dk, h.old.trans hm (fun _ _ h => h)⟩
theorem Dev.left (h : Dev w0 w x d) (hL : Left w w' w0.heap.size x x' d') : Dev w0 w' x' d' :=
  ⟨hL.at_, hL.dk, h.old.trans hL.mod (fun k hk hM => by have := (h.at_.M_lt hM).1; omega)⟩
theorem Dev.made (h : Mod (fun _ => False) w0 w) (hM : Made w w' w.heap.size x d) : Dev w0 w' x d := ⟨hM.1.rebase h.size, hM.2.1, h.trans hM.2.2.2 (fun _ _ h => h)⟩
theorem Dev.lenD (h : Dev w0 w x d) : x.D.length = d.dur.length := by rw [← h.dk, x.dk_len]
theorem Dev.lenW (h : Dev w0 w x d) : x.W.length = d.pend.length := by rw [← h.dk]; simp [DV.dk]
/-- New memory is none of its own. -/
theorem Dev.apart (h : Dev w0 w x d) {k : Nat} (hk : w.heap.size ≤ k) : ¬ x.M k := fun hM => by have := (h.at_.M_lt hM).2; omega
end

/-- Its sectors are whole ones, and its writes are in it. -/
structure Dk.Good (d : Dk) : Prop where
  dur : ∀ s ∈ d.dur, s.length = 256
  pend : ∀ y ∈ d.pend, y.1 < d.dur.length ∧ y.2.length = 256
theorem Dev.good {w0 w : World} {x : DV} {d : Dk} (h : Dev w0 w x d) : d.Good := by
  rw [← h.dk]
  refine ⟨fun s hs => ?_, fun y hy => ?_⟩
  · obtain ⟨t, ht, rfl⟩ := List.mem_map.1 hs
    exact (h.at_.secs t ht).len
  · obtain ⟨t, ht, rfl⟩ := List.mem_map.1 hy
    have := h.at_.wsecs t ht
    exact ⟨by rw [x.dk_len]; exact this.1, this.2.len⟩

theorem dev_new (w0 w : World) (h : Mod (fun _ => False) w0 w) (n : Int) (h1 : 1 ≤ n) (hn : n ≤ 4096) :
    Calls Try.prog 10 #[.int .i64 n] w fun e w' => ∃ x, e = .returned (.tuple #[.pointer (some ⟨x.p, 0, none⟩), .int .i64 0]) ∧ Dev w0 w' x (Dk.fresh (List.replicate n.toNat (fill 0))) := by
  refine (new_ok w n h1 hn).mono ?_
  rintro e w' ⟨x, rfl, hM⟩
  exact ⟨x, rfl, Dev.made h hM⟩
theorem dev_write (w0 w : World) (x : DV) (d : Dk) (h : Dev w0 w x d) (i : Int) (A : Option Addr) (n c : Nat) (ys : List UInt8) (hy : Sl w A n c ys) (hM : ∀ k, blkOf A = some k → ¬ x.M k) (hW : d.pend.length ≤ 1000) :
    Calls Try.prog 19 #[.pointer (some ⟨x.p, 0, none⟩), .int .i64 i, .slice A n c] w fun e w' => e = .returned (.int .i64 (d.writeE i n)) ∧ ∃ x', x'.p = x.p ∧ Dev w0 w' x' (d.write i ys) ∧ Mod x.M w w' ∧ (∀ N : Nat → Prop, (∀ k, N k → k < w.heap.size) → x.Avoid N → x'.Avoid N) ∧ (∀ k, x'.M k → x.M k ∨ w.heap.size ≤ k) := by
  have hc := write_ok w w0.heap.size x h.at_ h.old.size i A n c ys hy hM (by rw [h.lenW]; exact hW)
  rw [h.dk] at hc
  refine hc.mono ?_
  rintro e w' ⟨rfl, x', hL⟩
  exact ⟨rfl, x', hL.p, h.left hL, hL.mod, hL.av, hL.grows⟩
theorem dev_sync (w0 w : World) (x : DV) (d : Dk) (h : Dev w0 w x d) (hW : d.pend.length ≤ 1000) :
    Calls Try.prog 29 #[.pointer (some ⟨x.p, 0, none⟩)] w fun e w' => e = .returned (.int .i64 d.syncE) ∧ ∃ x', x'.p = x.p ∧ Dev w0 w' x' d.sync ∧ Mod x.M w w' := by
  have hc := sync_ok w w0.heap.size x h.at_ (by rw [h.lenW]; exact hW)
  rw [h.dk] at hc
  refine hc.mono ?_
  rintro e w' ⟨rfl, x', hL⟩
  exact ⟨rfl, x', hL.p, h.left hL, hL.mod⟩
theorem dev_arm (w0 w : World) (x : DV) (d : Dk) (h : Dev w0 w x d) (n : Int) (hn : n < 9223372036854775808) :
    Calls Try.prog 22 #[.pointer (some ⟨x.p, 0, none⟩), .int .i64 n] w fun e w' => (∃ v, e = .returned v) ∧ ∃ x', x'.p = x.p ∧ Dev w0 w' x' (d.arm n) ∧ Mod x.M w w' := by
  have hc := arm_ok w w0.heap.size x h.at_ n hn
  rw [h.dk] at hc
  refine hc.mono ?_
  rintro e w' ⟨he, x', hL⟩
  exact ⟨he, x', hL.p, h.left hL, hL.mod⟩
theorem dev_read (w0 w : World) (x : DV) (d : Dk) (h : Dev w0 w x d) (i : Int) :
    Calls Try.prog 16 #[.pointer (some ⟨x.p, 0, none⟩), .int .i64 i] w fun e w' => ∃ A n c, e = .returned (.tuple #[.slice A n c, .int .i64 (d.reach i)]) ∧ FreshR w w' A n c (d.read i) := by
  have hc := read_ok w w0.heap.size x h.at_ i
  rw [h.dk] at hc
  exact hc
theorem dev_crash (w0 w : World) (x : DV) (d : Dk) (h : Dev w0 w x d) (hW : d.pend.length ≤ 1000) (kA : Option Addr) (kn kc : Nat) (ks : List Bool) (torn kk : Int) (hk : Bl w kA kn kc ks) (hkn : kn ≤ 9223372036854775807) :
    Calls Try.prog 15 #[.pointer (some ⟨x.p, 0, none⟩), .agg #[.slice kA kn kc, .int .i64 torn, .int .i64 kk]] w fun e w' => ∃ x', e = .returned (.pointer (some ⟨x'.p, 0, none⟩)) ∧ Dev w0 w' x' (d.crash (keptN ks torn kk)) ∧ Mod (fun _ => False) w w' := by
  have hc := crash_ok w w0.heap.size x h.at_ (by rw [h.lenW]; exact hW) kA kn kc ks torn kk hk hkn
  rw [h.dk] at hc
  refine hc.mono ?_
  rintro e w' ⟨x', rfl, hM⟩
  exact ⟨x', rfl, Dev.made h.old hM, hM.2.2.2⟩
theorem dev_len (w0 w : World) (x : DV) (d : Dk) (h : Dev w0 w x d) : Calls Try.prog 26 #[.pointer (some ⟨x.p, 0, none⟩)] w fun e w' => e = .returned (.int .i64 d.dur.length) ∧ w' = w := by
  have hc := len_ok w _ x h.at_
  rw [h.lenD] at hc
  exact hc
theorem dev_dead (w0 w : World) (x : DV) (d : Dk) (h : Dev w0 w x d) : Calls Try.prog 45 #[.pointer (some ⟨x.p, 0, none⟩)] w fun e w' => e = .returned (.bool d.dead) ∧ w' = w := by
  have hc := dead_ok w _ x h.at_
  rw [show x.dead = d.dead by rw [← h.dk]; rfl] at hc
  exact hc
theorem dev_waits (w0 w : World) (x : DV) (d : Dk) (h : Dev w0 w x d) : Calls Try.prog 14 #[.pointer (some ⟨x.p, 0, none⟩)] w fun e w' => e = .returned (.int .i64 d.pend.length) ∧ w' = w := by
  have hc := waits_ok w _ x h.at_
  rw [h.lenW] at hc
  exact hc

theorem Bl.nil (w : World) : Bl w none 0 0 [] := ⟨rfl, Nat.le_refl _, fun h => absurd h (by omega)⟩
theorem Bl.lit (w : World) (b : Bool) (t : TypeId) : Bl (w.alloc (.cells #[.bool b] t)) (some ⟨w.heap.size, 0, none⟩) 1 1 [b] := by
  refine ⟨rfl, Nat.le_refl _, fun _ => ⟨_, _, rfl, fun j hj => ?_⟩⟩
  obtain rfl : j = 0 := by omega
  rw [cell_of_row _ _ _ _ _ _ (heap_alloc_new w _)]
  rfl
theorem FreshR.sl {w w' : World} {A : Option Addr} {n c : Nat} {xs : List UInt8} (h : FreshR w w' A n c xs) : Sl w' A n c xs := h.1.sl
theorem FreshR.new {w w' : World} {A : Option Addr} {n c : Nat} {xs : List UInt8} (h : FreshR w w' A n c xs) {k : Nat} (hk : blkOf A = some k) : w.heap.size ≤ k := (h.1.lt k hk).1
end Go.Proofs.Ytkigpicjhklioaa
