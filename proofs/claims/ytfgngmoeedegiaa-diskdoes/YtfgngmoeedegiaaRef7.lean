/-
  The document's own answer (bobbinref03): New.
-/
import Derived.Test.YtfgngmoeedegiaaRef5
import Derived.Test.YtfgngmoeedegiaaOrder
namespace Go.Proofs.Ytfgngmoeedegiaa
open Go Go.RowKit

/-- make, the operation by itself. -/
theorem wp_mk {P : Program} {w : World} {o : Oper} {a : Act} {K : Act → World → Prop} {Q : Exit → Act → World → Prop} (l c : Operand) {t e : TypeId} {z : Value} {bytes : Nat}
    (he : Elem P t e z bytes) (hz : z.cells = #[z]) (hop : o.op = Op.makeSlice t l c) (n : Nat) (kl kc : IntKind) (hl : a.eval l = .int kl n) (hc : a.eval c = .int kc n)
    (hb : bytes * n ≤ 281474976710656) (h63 : n ≤ maxLen) (Z : List Value) (hZ : List.replicate n z = Z)
    (h : ∀ w', OwV w' w.heap.size e (some ⟨w.heap.size, 0, none⟩) n n Z → w.grownBy w' none → K (a.put o.dst (.slice (some ⟨w.heap.size, 0, none⟩) n n)) w') : Oper.wp P o a w K Q := by
  obtain ⟨ht, _, i, hi, hz0, hsz, hby⟩ := he
  obtain ⟨w', hrun, r1, r2⟩ := run_make_full (P := P) w w.heap.size t e i z 1 ht hi hz0 hsz kl kc n (by rw [hby]; exact hb) h63 (Nat.le_refl _)
  rw [hz, Nat.mul_one, toList_madeCells_one, hZ] at r1
  unfold Oper.wp
  simp [execOp, hop, hl, hc, hrun, Result.andThen]
  exact h w' r1 r2

/-- append of one-cell elements, the operation by itself. -/
theorem wp_app {P : Program} {w : World} {o : Oper} {a : Act} {K : Act → World → Prop} {Q : Exit → Act → World → Prop} (s x : Operand) {t e : TypeId} {z : Value} {bytes : Nat}
    {base : Nat} {A : Option Addr} {n c : Nat} {vs : List Value} {A2 : Option Addr} {m c2 : Nat} {news : List Value}
    (he : Elem P t e z bytes)
    (ho : o.op = .call { callee := .builtin .append, args := #[s, x], argTypes := #[t, t] })
    (hes : a.eval s = .slice A n c) (hex : a.eval x = .slice A2 m c2)
    (hown : OwV w base e A n c vs) (hs : Src w A2 m news)
    (hb : (n + m) * bytes ≤ 140737488355328) (h63 : n + m ≤ maxLen) (hbase : base ≤ w.heap.size)
    (h : ∀ A' c' w', OwV w' base e A' (n + m) c' (vs ++ news) → w.grownBy w' (blkOf A) → (blkOf A' = blkOf A ∨ blkOf A' = some w.heap.size) → K (a.put o.dst (.slice A' (n + m) c')) w') :
    Oper.wp P o a w K Q := by
  obtain ⟨A', c', w', hr, h2, h3, h4⟩ := run_app (P := P) (w := w) he o.type hown (c2 := c2) hs hb h63 hbase
  unfold Oper.wp execOp
  simp only [ho, resolve, invoke, builtin, Sem.run_bind, Sem.run_pure, Result.andThen_ok, List.map_toArray, List.map_cons, List.map_nil, hes, hex, hr]
  exact h A' c' w' h2 h3 h4

/-- The operations of the loop's one region: d.D = append(d.D, make([]byte, 256)). -/
def newOps : List (Option Tmp × Op × Option (Nat × Bool)) := [(some 19, .fieldAddr 31 (.tmp 4) 0, none), (some 20, .load 28 (.tmp 19), none), (some 21, .makeSlice 39 (.const (.int .i64 256)) (.const (.int .i64 256)), none),
  (some 22, .buildSlice 28 1 #[(0, .tmp 21)], none), (some 23, .call { callee := .builtin .append, args := #[.tmp 20, .tmp 22], argTypes := #[28, 28] }, none), (some 24, .fieldAddr 31 (.tmp 4) 0, none), (none, .store 28 (.tmp 24) (.tmp 23), none)]

/-- Two operations may come up. -/
theorem held_two {P : Program} {md : Region.Mode} {ops : Array Oper} {Q : Exit → Act → World → Prop} {S : World → Prop} {fuel : Nat} {listed : Array Bool} {a : Act} {w : World} {i j : Nat} {L : List (Option Tmp × Op × Option (Nat × Bool))} (hT : ops.toList.map (fun o => (o.dst, o.op, o.guard)) = L)
    {di dj : Option Tmp} {pi pj : Op} (hi : L[i]? = some (di, pi, none)) (hj : L[j]? = some (dj, pj, none)) (hr : Region.ready md ops listed = [i, j])
    (h1 : ∀ o : Oper, o.dst = di → o.op = pi → o.wp P a w (fun a' w' => S w' ∧ wpAnyH P md ops Q S fuel (listed.setIfInBounds i true) a' w') Q)
    (h2 : ∀ o : Oper, o.dst = dj → o.op = pj → o.wp P a w (fun a' w' => S w' ∧ wpAnyH P md ops Q S fuel (listed.setIfInBounds j true) a' w') Q) : wpAnyH P md ops Q S (fuel + 1) listed a w := by
  refine wpAnyH_all hr (by simp) (fun k hk => ?_)
  obtain ⟨oi, hoi, hdi, hpi, hgi⟩ := spec_at hT hi
  obtain ⟨oj, hoj, hdj, hpj, hgj⟩ := spec_at hT hj
  have hk' : k = i ∨ k = j := by simpa using hk
  rcases hk' with rfl | rfl
  · unfold wpOp
    rw [hoi]
    dsimp only
    rw [if_pos (wanted_of hgi)]
    exact .inl (h1 oi hdi hpi)
  · unfold wpOp
    rw [hoj]
    dsimp only
    rw [if_pos (wanted_of hgj)]
    exact .inl (h2 oj hdj hpj)

/-- What New has made: the row of its device, and the sectors that it holds. -/
structure NewSt (base gd : Nat) (W : World) (DA : Option Addr) (dc : Nat) (Ss : List Sct) : Prop where
  row : W.heap[gd]? = some (.cells #[.slice DA Ss.length dc, .slice none 0 0, .bool false, .bool false, .int .i64 0] 31 (0, 0))
  own : OwV W base 39 DA Ss.length dc (Ss.map Sct.v)
  all : ∀ s ∈ Ss, s.xs = fill 0 ∧ s.At W (fun k => k < base ∨ blkOf DA = some k)
  gd : gd < base
  sz : base ≤ W.heap.size
theorem Sct.At.less {w : World} {M M' : Nat → Prop} {s : Sct} (h : s.At w M) (hM : ∀ k, M' k → M k) : s.At w M' := ⟨h.1, fun k hk hm => h.2 k hk (hM k hm)⟩
theorem NewSt.next {base gd : Nat} {W W2 w' : World} {DA A' : Option Addr} {dc c' : Nat} {Ss : List Sct} {s : Sct} (h : NewSt base gd W DA dc Ss) (hm : Mod (fun _ => False) W W2) (hs : s.At W2 (fun k => k < W.heap.size ∨ W2.heap.size ≤ k)) (hx : s.xs = fill 0)
    (hown : OwV w' base 39 A' (Ss.length + 1) c' (Ss.map Sct.v ++ [s.v])) (hg : W2.grownBy w' (blkOf DA)) (hA : blkOf A' = blkOf DA ∨ blkOf A' = some W2.heap.size) :
    w'.cell? ⟨gd, 0, none⟩ = some (.slice DA Ss.length dc) ∧ w'.frozen? ⟨gd, 0, none⟩ = false ∧ NewSt base gd (w'.setCell ⟨gd, 0, none⟩ (.slice A' (Ss.length + 1) c')) A' c' (Ss ++ [s]) ∧ Mod (fun k => k = gd ∨ base ≤ k) W (w'.setCell ⟨gd, 0, none⟩ (.slice A' (Ss.length + 1) c')) := by
  have hgd := h.gd
  have hsz := h.sz
  have hlt := h.own.lt
  have hm2 : Mod (fun k => blkOf DA = some k) W2 w' := (Mod.refl _ _).grown hg (fun k e _ => e)
  have hm3 : Mod (fun k => k = gd) w' (w'.setCell ⟨gd, 0, none⟩ (.slice A' (Ss.length + 1) c')) := (Mod.refl _ w').one _ _
  have h2 := hm.size
  have hrow : w'.heap[gd]? = some (.cells #[.slice DA Ss.length dc, .slice none 0 0, .bool false, .bool false, .int .i64 0] 31 (0, 0)) :=
    (hm2.block gd (by omega) (fun e => by have := hlt gd e; omega)).trans ((hm.block gd (by omega) id).trans h.row)
  have hown' : OwV (w'.setCell ⟨gd, 0, none⟩ (.slice A' (Ss.length + 1) c')) base 39 A' (Ss.length + 1) c' (Ss.map Sct.v ++ [s.v]) := hown.mod hm3 (fun k hk e => by have := hown.lt k hk; omega)
  refine ⟨by rw [cell_of_row _ _ _ _ _ _ hrow]; rfl, frozen_of_block hrow 0, ⟨?_, ?_, ?_, hgd, ?_⟩, ?_⟩
  · rw [heap_set hrow 0]
    rw [List.length_append]
    rfl
  · rw [List.length_append, List.map_append]
    exact hown'
  · intro y hy
    rcases List.mem_append.1 hy with hy | hy
    · obtain ⟨e, ha⟩ := h.all y hy
      refine ⟨e, ?_⟩
      have a1 : y.At W (fun k => k < base ∨ blkOf DA = some k ∨ W.heap.size ≤ k) := ha.avoid (fun k hk q => by rcases q with q | q | q; exact .inl q; exact .inr q; omega)
      have a2 := (a1.keep hm).mod (hm2.mono (fun k _ e => .inr (.inl e)))
      have a3 := a2.mod (hm3.mono (fun k _ e => .inl (by omega)))
      refine a3.less (fun k q => ?_)
      rcases q with q | q
      · exact .inl q
      · rcases hA with e | e
        · exact .inr (.inl (by rw [← e]; exact q))
        · rw [e] at q
          injection q with q
          exact .inr (.inr (by omega))
    · obtain rfl : y = s := by simpa using hy
      refine ⟨hx, ?_⟩
      have a2 := hs.mod (hm2.mono (fun k _ e => .inl (by have := hlt k e; omega)))
      have a3 := a2.mod (hm3.mono (fun k _ e => .inl (by omega)))
      refine a3.less (fun k q => ?_)
      rcases q with q | q
      · exact .inl (by omega)
      · rcases hA with e | e
        · rw [e] at q
          exact .inl (by have := hlt k q; omega)
        · rw [e] at q
          injection q with q
          exact .inr (by omega)
  · have := hm2.size
    have := hm3.size
    omega
  · refine ((hm.mono (fun _ _ e => e.elim)).trans hm2 (fun k _ e => .inr (hlt k e).1)).trans hm3 (fun k _ e => .inl e)

def li (l : List Nat) : Array Bool := l.foldl (fun s i => s.setIfInBounds i true) (Array.replicate 7 false)
structure NewFit (ops : Array Oper) : Prop where
  t : ops.toList.map (fun o => (o.dst, o.op, o.guard)) = newOps
  sel : Region.noSelect ops = true
  r0 : (Region.ready .any ops (li [])).contains 0 = true
  f0 : Region.free .any ops (li []) 0 = true
  two : Region.ready .any ops (li [0]) = [1, 2]
  oA : orderB ops [(2, false), (3, false), (4, false), (5, false), (6, false)] (li [0, 1]) = true
  two' : Region.ready .any ops (li [0, 2]) = [1, 3]
  oB : orderB ops [(3, false), (4, false), (5, false), (6, false)] (li [0, 2, 1]) = true
  oC : orderB ops [(1, false), (4, false), (5, false), (6, false)] (li [0, 2, 3]) = true

/-- As held_of_seq; a panic is not asked for in another state but that of one step before. -/
theorem held_of_seq2 {P : Program} {ops : Array Oper} {Q : Exit → Act → World → Prop} {S : World → Prop} (hsel : Region.noSelect ops = true) (hQ : ∀ c a t v w, Q (.panic c) (a.put t v) w → Q (.panic c) a w) :
    ∀ (l : List (Nat × Bool)) (listed : Array Bool) (a : Act) (w : World), orderB ops l listed = true → wpSeq P ops Q S l a w → wpAnyH P .any ops Q S l.length listed a w
  | [], listed, a, w, hB, h => ⟨by simpa [orderB] using hB, h⟩
  | (i, true) :: r, listed, a, w, hB, h => by
    simp only [orderB, Bool.and_eq_true] at hB
    obtain ⟨o, v, ho, hy, hS, hr⟩ := h
    exact wpAnyH_take ho hsel hB.1.2 hB.1.1 (fun c a w => hQ c _ _ _ w) hy hS (held_of_seq2 hsel hQ r _ _ _ hB.2 hr)
  | (i, false) :: r, listed, a, w, hB, h => by
    simp only [orderB, Bool.and_eq_true, decide_eq_true_eq] at hB
    obtain ⟨o, ho, hw, hwp⟩ := h
    exact held_one i ho hB.1 hw (Oper.wp_mono (fun a' w' hh => ⟨hh.1, held_of_seq2 hsel hQ r _ _ _ hB.2 hh.2⟩) hwp)

section
variable {ops : Array Oper} {Q : Exit → Act → World → Prop} {base gd : Nat} {DA : Option Addr} {dc : Nat} {Ss : List Sct} (t0 t1 t2 t3 t5 t6 t7 t8 t9 t10 t11 t12 t13 t14 t15 t16 t17 t18 t19 t20 t21 t22 t23 t24 t25 : Value) (ds : List Deferred)

abbrev newAct (gd : Nat) (t19 t20 t21 t22 t23 t24 : Value) : Act := { tmps := #[t0, t1, t2, t3, .pointer (some ⟨gd, 0, none⟩), t5, t6, t7, t8, t9, t10, t11, t12, t13, t14, t15, t16, t17, t18, t19, t20, t21, t22, t23, t24, t25], defers := ds }
local notation "AA" => newAct t0 t1 t2 t3 t5 t6 t7 t8 t9 t10 t11 t12 t13 t14 t15 t16 t17 t18 t25 ds gd
local notation "PP" => Value.pointer (some (Addr.mk gd 0 none))

set_option maxRecDepth 100000 in
theorem new_tail (hT : ops.toList.map (fun o => (o.dst, o.op, o.guard)) = newOps) {W W2 : World} (h : NewSt base gd W DA dc Ss) (hl : Ss.length ≤ 4096) (s : Sct) (gb : Nat) (hm : Mod (fun _ => False) W W2) (hs : s.At W2 (fun k => k < W.heap.size ∨ W2.heap.size ≤ k)) (hx : s.xs = fill 0) (hsrc : Src W2 (some ⟨gb, 0, none⟩) 1 [s.v])
    (hF : ∀ A' c' w', NewSt base gd w' A' c' (Ss ++ [s]) → Mod (fun k => k = gd ∨ base ≤ k) W w' → Q .normal (AA PP (.slice DA Ss.length dc) t21 (.slice (some ⟨gb, 0, none⟩) 1 1) (.slice A' (Ss.length + 1) c') PP) w') :
    wpSeq Try.prog ops Q (fun _ => True) [(4, false), (5, false), (6, false)] (AA PP (.slice DA Ss.length dc) t21 (.slice (some ⟨gb, 0, none⟩) 1 1) t23 t24) W2 := by
  refine seq_one hT (some 23) _ rfl ?_
  intro o hd hp
  have hown2 : OwV W2 base 39 DA Ss.length dc (Ss.map Sct.v) := h.own.mod hm (fun _ _ => id)
  refine wp_app (A := DA) (n := Ss.length) (c := dc) (A2 := some ⟨gb, 0, none⟩) (m := 1) (c2 := 1) (.tmp 20) (.tmp 22) rowElem hp rfl rfl hown2 hsrc (by omega) (by unfold maxLen; omega) (by have := h.sz; have := hm.size; omega) ?_
  intro A' c' w' hown hg hA
  refine ⟨trivial, ?_⟩
  rw [hd]
  simp only [Act.put, List.setIfInBounds_toArray, List.set_cons_zero, List.set_cons_succ]
  obtain ⟨hc, hf, hn, hmm⟩ := h.next hm hs hx hown hg hA
  clear o hd hp
  refine seq_one hT (some 24) _ rfl ?_
  intro o hd hp
  simp [Oper.wp, execOp, hp, hd, go_sem]
  clear o hd hp
  refine seq_one hT none _ rfl ?_
  intro o hd hp
  have HF := Lib.hid (hF A' c' _ hn hmm)
  clear hF hown hg hA hn hmm hown2 hsrc h hs
  simp [Oper.wp, execOp, hp, hd, go_sem, hc, hf]
  exact HF.out


set_option maxRecDepth 100000 in
set_option maxHeartbeats 1000000 in
theorem new_region (hN : NewFit ops) (hQ' : ∀ c a t v w, Q (.panic c) (a.put (some t) v) w → Q (.panic c) a w) {W : World} (h : NewSt base gd W DA dc Ss) (hl : Ss.length ≤ 4096)
    (hF : ∀ (s : Sct) v21 v22 A' c' w', NewSt base gd w' A' c' (Ss ++ [s]) → Mod (fun k => k = gd ∨ base ≤ k) W w' → Q .normal (AA PP (.slice DA Ss.length dc) v21 v22 (.slice A' (Ss.length + 1) c') PP) w') :
    wpAnyH Try.prog .any ops Q (fun _ => True) 7 (li []) (AA t19 t20 t21 t22 t23 t24) W := by
  have hT := hN.t
  have hQ : ∀ c a t v w, Q (.panic c) (a.put t v) w → Q (.panic c) a w := fun c a t v w => match t with | none => id | some d => hQ' c a d v w
  have Hz : Hid (List.replicate 256 (.int .u8 0) = (fill 0).map bv) := by
    show _ = _
    unfold fill
    rw [List.map_replicate]
    rfl
  obtain ⟨o, ho, hd, hp, hg⟩ := spec_at hT (i := 0) rfl
  refine wpAnyH_take (v := PP) ho hN.sel hN.f0 hN.r0 (fun c a w => hQ c _ _ _ w) (.inl ⟨wanted_of hg, fun w _ => ?_⟩) trivial ?_
  · simp [execOp, hp, go_sem]
  rw [hd]
  simp only [Act.put, List.setIfInBounds_toArray, List.set_cons_zero, List.set_cons_succ]
  clear o ho hd hp hg
  have made : ∀ w1, OwV w1 W.heap.size 5 (some ⟨W.heap.size, 0, none⟩) 256 256 ((fill 0).map bv) → W.grownBy w1 none → Mod (fun _ => False) W w1 ∧ (⟨some ⟨W.heap.size, 0, none⟩, 256, fill 0⟩ : Sct).At w1 (fun k => k < W.heap.size ∨ w1.heap.size ≤ k) ∧ w1.cell? ⟨gd, 0, none⟩ = some (.slice DA Ss.length dc) := by
    intro w1 hown hg
    have hm : Mod (fun _ => False) W w1 := (Mod.refl _ _).grown hg (fun _ e => by cases e)
    refine ⟨hm, ⟨hown.sl, fun k hk => ?_⟩, ?_⟩
    · have := hown.lt k hk
      injection hk with hk
      omega
    · have := (hm.block gd (by have := h.gd; have := h.sz; omega) id).trans h.row
      rw [cell_of_row _ _ _ _ _ _ this]
      rfl
  have last : ∀ w1, Mod (fun _ => False) W w1 → (⟨some ⟨W.heap.size, 0, none⟩, 256, fill 0⟩ : Sct).At w1 (fun k => k < W.heap.size ∨ w1.heap.size ≤ k) → ∀ t23 t24 tt,
      wpSeq Try.prog ops Q (fun _ => True) [(4, false), (5, false), (6, false)] (AA PP (.slice DA Ss.length dc) (.slice (some ⟨W.heap.size, 0, none⟩) 256 256) (.slice (some ⟨w1.heap.size, 0, none⟩) 1 1) t23 t24) (w1.alloc (.cells #[.slice (some ⟨W.heap.size, 0, none⟩) 256 256] tt)) := by
    intro w1 hm hs t23 t24 tt
    refine new_tail _ _ _ _ _ _ _ _ _ _ _ _ _ _ _ _ _ _ _ _ _ _ _ hT h hl ⟨some ⟨W.heap.size, 0, none⟩, 256, fill 0⟩ w1.heap.size (hm.alloc _) ?_ rfl (Src.one _ _ _ rfl) (fun A' c' w' h1 h2 => hF _ _ _ _ _ _ h1 h2)
    have a1 : (⟨some ⟨W.heap.size, 0, none⟩, 256, fill 0⟩ : Sct).At (w1.alloc (.cells #[.slice (some ⟨W.heap.size, 0, none⟩) 256 256] tt)) _ := hs.keep ((Mod.refl _ _).alloc _)
    exact a1.less (fun k q => by rw [World.size_alloc] at q; omega)
  have c0 : W.cell? ⟨gd, 0, none⟩ = some (.slice DA Ss.length dc) := by rw [cell_of_row _ _ _ _ _ _ h.row]; rfl
  have Hl := Lib.hid last
  have Hmd := Lib.hid made
  clear last made hF h
  refine held_two hT rfl rfl hN.two ?_ ?_
  · intro o hd hp
    simp [Oper.wp, execOp, hp, hd, go_sem, c0]
    clear o hd hp
    refine held_of_seq2 hN.sel hQ _ _ _ _ hN.oA ?_
    refine seq_one hT (some 21) _ rfl ?_
    intro o hd hp
    refine wp_mk (.const (.int .i64 256)) (.const (.int .i64 256)) byteElem rfl hp 256 .i64 .i64 rfl rfl (by omega) (by unfold maxLen; omega) _ Hz.out ?_
    intro w1 hown hg
    obtain ⟨hm, hs, hc⟩ := Hmd.out w1 hown hg
    refine ⟨trivial, ?_⟩
    rw [hd]
    simp only [Act.put, List.setIfInBounds_toArray, List.set_cons_zero, List.set_cons_succ]
    clear o hd hp hown hg
    refine seq_one hT (some 22) _ rfl ?_
    intro o hd hp
    simp [Oper.wp, execOp, hp, hd, go_sem]
    exact Hl.out w1 hm hs _ _ _
  · intro o hd hp
    refine wp_mk (.const (.int .i64 256)) (.const (.int .i64 256)) byteElem rfl hp 256 .i64 .i64 rfl rfl (by omega) (by unfold maxLen; omega) _ Hz.out ?_
    intro w1 hown hg
    obtain ⟨hm, hs, hc⟩ := Hmd.out w1 hown hg
    refine ⟨trivial, ?_⟩
    rw [hd]
    simp only [Act.put, List.setIfInBounds_toArray, List.set_cons_zero, List.set_cons_succ]
    clear o hd hp hown hg
    refine held_two hT rfl rfl hN.two' ?_ ?_
    · intro o hd hp
      simp [Oper.wp, execOp, hp, hd, go_sem, hc]
      clear o hd hp
      refine held_of_seq2 hN.sel hQ _ _ _ _ hN.oB ?_
      refine seq_one hT (some 22) _ rfl ?_
      intro o hd hp
      simp [Oper.wp, execOp, hp, hd, go_sem]
      exact Hl.out w1 hm hs _ _ _
    · intro o hd hp
      simp [Oper.wp, execOp, hp, hd, go_sem]
      clear o hd hp
      refine held_of_seq2 hN.sel hQ _ _ _ _ hN.oC ?_
      refine seq_one hT (some 20) _ rfl ?_
      intro o hd hp
      have hc2 : (w1.alloc (.cells #[.slice (some ⟨W.heap.size, 0, none⟩) 256 256] 39)).cell? ⟨gd, 0, none⟩ = some (.slice DA Ss.length dc) := by
        rw [← hc]
        exact World.cell?_of_block ((((Mod.refl (fun _ => False) w1).alloc _)).block gd (World.block_lt_of_cell? w1 _ hc) id)
      simp [Oper.wp, execOp, hp, hd, go_sem, hc2]
      exact Hl.out w1 hm hs _ _ _
end

set_option maxRecDepth 100000 in
theorem refNew_no (w : World) (n : Int) (h : n < 1 ∨ 4096 < n) : Calls Try.prog 11 #[.int .i64 n] w fun e w' => e = .returned (.tuple #[.agg zrow31, .int .i64 1]) ∧ Mod (fun _ => False) w w' := by
  by_cases h1 : n < 1
  · have hd : decide (n < 1) = true := by simpa using h1
    clear h h1
    go_enter Try.func11, Try.ntmps11
    go_wp2
    refine bodyPost_ret (v := .tuple #[.agg zrow31, .int .i64 1]) (by simp [results, Try.results11, go_sem]) rfl ⟨rfl, ?_⟩
    exact (Mod.refl _ w).alloc _
  · have hd : decide (n < 1) = false := by simpa using h1
    have hd2 : decide (4096 < n) = true := by simp; omega
    clear h h1
    go_enter Try.func11, Try.ntmps11
    go_wp2
    refine bodyPost_ret (v := .tuple #[.agg zrow31, .int .i64 1]) (by simp [results, Try.results11, go_sem]) rfl ⟨rfl, ?_⟩
    exact (Mod.refl _ w).alloc _

theorem dk_of (r : RV) (m : Nat) (hl : r.D.length = m) (ha : ∀ s ∈ r.D, s.xs = fill 0) (hW : r.W = []) (h1 : r.armed = false) (h2 : r.dead = false) (h3 : r.left = 0) : r.dk = Dk.fresh (List.replicate m (fill 0)) := by
  have : r.D.map Sct.xs = List.replicate m (fill 0) := by
    rw [List.eq_replicate_iff]
    refine ⟨by simpa using hl, fun b hb => ?_⟩
    obtain ⟨s, hs, rfl⟩ := List.mem_map.1 hb
    exact ha s hs
  unfold RV.dk Dk.fresh
  rw [this, hW, h1, h2, h3]
  rfl

set_option maxRecDepth 100000 in
theorem refNew_ok (w : World) (n : Int) (h1 : 1 ≤ n) (hn : n ≤ 4096) : Calls Try.prog 11 #[.int .i64 n] w fun e w' => ∃ r : RV, e = .returned (.tuple #[r.v, .int .i64 0]) ∧ r.dk = Dk.fresh (List.replicate n.toNat (fill 0)) ∧ Mod (fun _ => False) w w' ∧ ∀ M, (∀ k, M k → k < w.heap.size) → r.At w' M := by
  obtain ⟨m, rfl⟩ := Int.eq_ofNat_of_zero_le (show 0 ≤ n by omega)
  have hd0 : decide ((m : Int) < 1) = false := by simp; omega
  have hd1 : decide ((4096 : Int) < m) = false := by simp; omega
  obtain ⟨wb, hwb⟩ : ∃ wb, wb = (w.alloc (.cells zrow31 31)).alloc (.cells zrow31 31) := ⟨_, rfl⟩
  have hsb : wb.heap.size = w.heap.size + 2 := by rw [hwb, World.size_alloc, World.size_alloc]
  have hmb : Mod (fun _ => False) w wb := by rw [hwb]; exact ((Mod.refl _ _).alloc _).alloc _
  have hr0 : wb.heap[w.heap.size]? = some (.cells zrow31 31 (0, 0)) := by
    rw [hwb]
    exact (((Mod.refl (fun _ => False) _).alloc _).block _ (by rw [World.size_alloc]; omega) id).trans (heap_alloc_new w _)
  have hr1 : wb.heap[w.heap.size + 1]? = some (.cells zrow31 31 (0, 0)) := by
    rw [hwb]
    have := heap_alloc_new (w.alloc (.cells zrow31 31)) (.cells zrow31 31)
    rw [World.size_alloc] at this
    exact this
  have Hst : Hid (NewSt wb.heap.size (w.heap.size + 1) wb none 0 []) := ⟨hr1, OwV.nil _ _ _, (fun s h => by simp at h), (by omega), Nat.le_refl _⟩
  have Hmb := Lib.hid hmb
  have Hr0 := Lib.hid hr0
  have Hwb := Lib.hid hwb
  have Hsb := Lib.hid hsb
  clear hwb hmb hr0 hr1 hsb
  go_enter Try.func11, Try.ntmps11
  go_wp2_with fail
  rw [← Hwb.out]
  obtain ⟨B, hB⟩ : ∃ B, B = w.heap.size := ⟨_, rfl⟩
  rw [← hB] at Hst Hr0 Hsb ⊢
  have HB := Lib.hid hB
  clear hB
  go_loopw [5] (fun i wr => ∃ (Ss : List Sct) (DA : Option Addr) (dc : Nat), Ss.length ≤ m ∧ i = .int .i64 Ss.length ∧ NewSt wb.heap.size (B + 1) wr DA dc Ss ∧ Mod (fun k => k = B + 1) wb wr) (fun i _ => m - (intOf i).toNat)
  case atStart => exact ⟨[], none, 0, by simp, rfl, Hst.out, Mod.refl _ _⟩
  case round =>
    obtain ⟨Ss, DA, dc, hj, rfl, hst, hmr⟩ := hrel
    obtain ⟨j, hjl⟩ : ∃ j, j = Ss.length := ⟨_, rfl⟩
    by_cases hlt : j < m
    · have hl : decide ((j : Int) < m) = true := by simpa using hlt
      have HS := Lib.hid hst
      have HM := Lib.hid hmr
      have Hjl := Lib.hid hjl
      rw [← hjl] at hj ⊢
      clear hst hmr hjl
      go_wp2_with fail
      refine wp_region_any (by kernel_rfl) (wpAny_of_held (S := fun _ => True) _ _ _ _ ?_)
      refine new_region (base := wb.heap.size) (DA := DA) (dc := dc) (Ss := Ss) _ _ _ _ _ _ _ _ _ _ _ _ _ _ _ _ _ _ _ _ _ _ _ _ _ _ ⟨by kernel_rfl, by kernel_rfl, by kernel_rfl, by kernel_rfl, by kernel_rfl, by kernel_rfl, by kernel_rfl, by kernel_rfl, by kernel_rfl⟩ ?_ ⟨HS.out.row, HS.out.own, HS.out.all, HS.out.gd, HS.out.sz⟩ (by have := Hjl.out; omega) ?_
      · exact fun _ _ _ _ _ h => h
      · intro s v21 v22 A' c' w' hn hm
        rw [← Hjl.out]
        have Hn := Lib.hid hn
        have Hm2 : Hid (Mod (fun k => k = B + 1) wb w') := HM.out.drew.trans hm (fun k hk e => by omega)
        clear hn hm
        go_simp
        go_wp2
        go_roundw
        case rel => exact ⟨Ss ++ [s], A', c', by rw [List.length_append]; have := Hjl.out; simp; omega, by rw [List.length_append, ← Hjl.out]; rfl, Hn.out, Hm2.out⟩
        case measure => simp [intOf]; omega
    · have hl : decide ((j : Int) < m) = false := by simp; omega
      have c0 : wr.cell? ⟨B + 1, 0, none⟩ = some (.slice DA j dc) := by rw [cell_of_row _ _ _ _ _ _ hst.row, hjl]; rfl
      have c1 : wr.cell? ⟨B + 1, 1, none⟩ = some (.slice none 0 0) := by rw [cell_of_row _ _ _ _ _ _ hst.row]; rfl
      have c2 : wr.cell? ⟨B + 1, 2, none⟩ = some (.bool false) := by rw [cell_of_row _ _ _ _ _ _ hst.row]; rfl
      have c3 : wr.cell? ⟨B + 1, 3, none⟩ = some (.bool false) := by rw [cell_of_row _ _ _ _ _ _ hst.row]; rfl
      have c4 : wr.cell? ⟨B + 1, 4, none⟩ = some (.int .i64 0) := by rw [cell_of_row _ _ _ _ _ _ hst.row]; rfl
      have hrr : wr.heap[B]? = some (.cells zrow31 31 (0, 0)) := (hmr.block B (by rw [Hsb.out]; omega) (by omega)).trans Hr0.out
      have d0 : wr.cell? ⟨B, 0, none⟩ = some (.slice none 0 0) := by rw [cell_of_row _ _ _ _ _ _ hrr]; rfl
      have d1 : wr.cell? ⟨B, 1, none⟩ = some (.slice none 0 0) := by rw [cell_of_row _ _ _ _ _ _ hrr]; rfl
      have d2 : wr.cell? ⟨B, 2, none⟩ = some (.bool false) := by rw [cell_of_row _ _ _ _ _ _ hrr]; rfl
      have d3 : wr.cell? ⟨B, 3, none⟩ = some (.bool false) := by rw [cell_of_row _ _ _ _ _ _ hrr]; rfl
      have d4 : wr.cell? ⟨B, 4, none⟩ = some (.int .i64 0) := by rw [cell_of_row _ _ _ _ _ _ hrr]; rfl
      have f : ∀ i, wr.frozen? ⟨B, i, none⟩ = false := fun i => frozen_of_block hrr i
      have HS := Lib.hid hst
      have HM := Lib.hid hmr
      have Hjl := Lib.hid hjl
      rw [← hjl] at hj ⊢
      clear hst hmr hjl hrr
      go_wp2
      refine bodyPost_ret (v := .tuple #[.agg #[.slice DA j dc, .slice none 0 0, .bool false, .bool false, .int .i64 0], .int .i64 0]) (by simp [results, Try.results11, go_sem, *]) rfl ?_
      have hmm : Mod (fun k => k = B) wr (((((wr.setCell ⟨B, 0, none⟩ (.slice DA j dc)).setCell ⟨B, 1, none⟩ (.slice none 0 0)).setCell ⟨B, 2, none⟩ (.bool false)).setCell ⟨B, 3, none⟩ (.bool false)).setCell ⟨B, 4, none⟩ (.int .i64 0)) := (((((Mod.refl _ wr).one _ _).one _ _).one _ _).one _ _).one _ _
      generalize (((((wr.setCell ⟨B, 0, none⟩ (.slice DA j dc)).setCell ⟨B, 1, none⟩ (.slice none 0 0)).setCell ⟨B, 2, none⟩ (.bool false)).setCell ⟨B, 3, none⟩ (.bool false)).setCell ⟨B, 4, none⟩ (.int .i64 0)) = wz at hmm ⊢
      have hjm : j = m := by omega
      have hB := HB.out
      have hs2 := Hsb.out
      have hjl := Hjl.out
      have hown := HS.out.own.mod hmm (fun k hk e => by have := HS.out.own.lt k hk; omega)
      refine ⟨⟨DA, dc, Ss, none, 0, [], false, false, 0⟩, by rw [RV.v_eq, hjl]; rfl, ?_, ?_, ?_⟩
      · rw [Int.toNat_natCast]
        exact dk_of _ _ (by show Ss.length = m; omega) (fun s hs => (HS.out.all s hs).1) rfl rfl rfl rfl
      · exact (Hmb.out.trans HM.out (fun k hk e => by omega)).trans hmm (fun k hk e => by omega)
      · intro M hM
        refine ⟨fun hp => ?_, (fun hp => by simp at hp), fun s hs => ?_, (fun y hy => by simp at hy), ?_, ⟨hown.cap, Nat.le_refl _⟩⟩
        · obtain ⟨g, e, hg, hc⟩ := hown.rows hp
          exact ⟨g, 0, e, fun h => by have := hM g h; omega, hc⟩
        · have hat := (HS.out.all s hs).2.mod (hmm.mono (fun k _ e => .inl (by omega)))
          exact hat.less (fun k hk => .inl (by have := hM k hk; omega))
        · show Ss.length ≤ 4096
          omega
end Go.Proofs.Ytfgngmoeedegiaa
