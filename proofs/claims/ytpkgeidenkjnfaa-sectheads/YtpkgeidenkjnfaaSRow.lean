/-
  Rows of the call's own whose elements take several cells; append onto them.
-/
import Derived.Test.YtpkgeidenkjnfaaSBase
namespace Go.Proofs.Ytpkgeidenkjnfaa
open Go Go.RowKit

/-- A row of the call's own: elements of 'size' cells each; vs: all their cells. -/
def OwN (w : World) (base : Nat) (e : TypeId) (size : Nat) (A : Option Addr) (n c : Nat) (vs : List Value) : Prop := w.ownsRow base e size (.slice A n c) n vs

section
variable {w w' : World} {base : Nat} {e : TypeId} {size : Nat} {A : Option Addr} {n c : Nat} {vs : List Value}
theorem OwN.nil (w : World) (base : Nat) (e : TypeId) (size : Nat) : OwN w base e size none 0 0 [] := World.ownsRow_nil w base e size
theorem OwN.lt (h : OwN w base e size A n c vs) : ∀ k, blkOf A = some k → base ≤ k ∧ k < w.heap.size := by
  intro k hk
  refine World.ownsRow.lt h k ?_
  cases A with
  | none => simp [blkOf] at hk
  | some a => simpa [Value.ownBlock, blkOf] using hk
theorem OwN.cap (h : OwN w base e size A n c vs) : n ≤ c := by
  rcases h.2 with ⟨hv, h0⟩ | ⟨g, cap, cur, hv, _, hh, h1, _⟩
  · omega
  · injection hv with _ _ hc; omega
theorem OwN.mod {F : Nat → Prop} (h : OwN w base e size A n c vs) (hm : Mod F w w') (hF : ∀ k, blkOf A = some k → ¬ F k) : OwN w' base e size A n c vs := by
  refine ⟨h.1, ?_⟩
  rcases h.2 with hn | ⟨g, cap, cur, hv, hb, hgg, rest⟩
  · exact .inl hn
  · refine .inr ⟨g, cap, cur, hv, hb, ?_, rest⟩
    injection hv with hA
    subst hA
    rw [hm.block g (Array.getElem?_eq_some_iff.1 hgg).1 (hF g rfl)]
    exact hgg
theorem OwN.alloc (h : OwN w base e size A n c vs) (o : Obj) : OwN (w.alloc o) base e size A n c vs := h.mod ((Mod.refl (fun _ => False) w).alloc o) (fun _ _ => id)
theorem OwN.cells (h : OwN w base e size A n c vs) : 0 < n → ∃ g, A = some ⟨g, 0, none⟩ ∧ ∀ j, j < n * size → w.cell? ⟨g, j, none⟩ = vs[j]? := by
  intro hn
  rcases h.2 with ⟨_, h0⟩ | ⟨g, cap, cur, hv, _, hh, h1, h2, h3, h4⟩
  · omega
  · injection hv with hA _ hc
    subst hA; subst hc
    refine ⟨g, rfl, fun j hj => ?_⟩
    rw [cell_of_row w g j cur e (0, 0) hh, ← h4, List.getElem?_take, if_pos hj]
    simp
end

/-- What is known of an element type of 'size' cells. -/
def ElemN (P : Program) (t e : TypeId) (z : Value) (size bytes : Nat) : Prop :=
  P.underlying t = some (.slice e) ∧ z.cells.size = size ∧ 0 < size ∧ ∃ i, P.info? e = some i ∧ i.zero = some z ∧ i.size = size ∧ i.bytes = bytes
theorem ElemN.mk_ {P : Program} {t e : TypeId} {z : Value} {size bytes : Nat} (h1 : P.underlying t = some (.slice e)) (hz : z.cells.size = size) (hs : 0 < size)
    (h2 : (P.info? e).map (fun i => (i.zero, i.size, i.bytes)) = some (some z, size, bytes)) : ElemN P t e z size bytes := by
  cases hi : P.info? e with
  | none => simp [hi] at h2
  | some i => simp [hi] at h2; exact ⟨h1, hz, hs, i, hi, h2.1, h2.2.1, h2.2.2⟩

/-- The cells that are read for an append of m elements. -/
def SrcN (w : World) (A : Option Addr) (m size : Nat) (news : List Value) : Prop :=
  news.length = m * size ∧ (∀ u ∈ news, u.oneCell' = true) ∧ (0 < m → ∃ ad, A = some ad ∧ ∀ j u, news[j]? = some u → w.cell? (ad.add j) = some u)

/-- One element that a literal lays into a block of its own. -/
theorem SrcN.lit (w : World) (cs : List Value) (t : TypeId) (h1 : ∀ u ∈ cs, u.oneCell' = true) : SrcN (w.alloc (.cells cs.toArray t)) (some ⟨w.heap.size, 0, none⟩) 1 cs.length cs :=
  ⟨by simp, h1, fun _ => ⟨_, rfl, World.news_of_block (heap_alloc_new w _)⟩⟩

section
variable {P : Program} {w : World}
theorem run_appN {t e : TypeId} {z : Value} {size bytes : Nat} (he : ElemN P t e z size bytes) (ty : TypeId)
    {base : Nat} {A : Option Addr} {n c : Nat} {vs : List Value} (hown : OwN w base e size A n c vs)
    {A2 : Option Addr} {m c2 : Nat} {news : List Value} (hs : SrcN w A2 m size news)
    (hb : (n + m) * bytes ≤ 140737488355328) (h63 : n + m ≤ maxLen) (hbase : base ≤ w.heap.size) :
    ∃ A' c' w', (Builtin.append_ #[t, t] ty #[.slice A n c, .slice A2 m c2]).run P w = .ok (.slice A' (n + m) c') w' ∧ OwN w' base e size A' (n + m) c' (vs ++ news) ∧
      w.grownBy w' (blkOf A) ∧ (blkOf A' = blkOf A ∨ blkOf A' = some w.heap.size) := by
  obtain ⟨ht, hz1, hsz0, i, hi, hz, hsz, hby⟩ := he
  have hob : ∀ (B : Option Addr) (k c : Nat), (Value.slice B k c).ownBlock = blkOf B := fun B _ _ => by cases B <;> rfl
  have form : ∀ (v : Value) (w' : World) (k : Nat) (xs : List Value), w'.ownsRow base e size v k xs → ∃ A' c', v = .slice A' k c' := by
    intro v w' k xs h
    rcases h.2 with ⟨rfl, rfl⟩ | ⟨g, cap, cur, rfl, _⟩
    · exact ⟨_, _, rfl⟩
    · exact ⟨_, _, rfl⟩
  cases A2 with
  | none =>
    obtain rfl : m = 0 := by
      rcases Nat.eq_zero_or_pos m with h0 | h0
      · exact h0
      · obtain ⟨ad, h, _⟩ := hs.2.2 h0; cases h
    have hn : news = [] := List.eq_nil_of_length_eq_zero (by simpa using hs.1)
    subst hn
    refine ⟨A, c, w, ?_, by simpa using hown, ⟨rfl, rfl, rfl, Nat.le_refl _, fun _ _ _ => rfl⟩, .inl rfl⟩
    rcases hown.2 with ⟨hv, rfl⟩ | ⟨g, cap, cur, hv, _, _, hnc, _⟩
    · injection hv with hA _ hc; subst hA; subst hc
      simp [Builtin.append_, run_underlying ht, sizeOf, typeInfo, hi, Builtin.lenOf, Builtin.firstCells]
    · injection hv with hA _ hc; subst hA; subst hc
      simp [Builtin.append_, run_underlying ht, sizeOf, typeInfo, hi, Builtin.lenOf, Builtin.firstCells, hnc, storeCells]
  | some ad =>
    have hcells : ∀ j u, news[j]? = some u → w.cell? (ad.add j) = some u := by
      intro j u hu
      have hj : 0 < m := by
        have := (List.getElem?_eq_some_iff.1 hu).1
        rcases Nat.eq_zero_or_pos m with h0 | h0
        · rw [hs.1, h0] at this; simp at this
        · exact h0
      obtain ⟨ad', h, hc⟩ := hs.2.2 hj
      injection h with h; subst h
      exact hc j u hu
    obtain ⟨v', w', hr, h2, h3, _, h5⟩ := run_append_own_at (P := P) w base t ty e i z size bytes ht hi hz hsz hby hz1 hsz0 (.slice A n c) n vs hown ad m c2 news hs.1 hcells hs.2.1 h63 hb hbase
    obtain ⟨A', c', rfl⟩ := form v' w' _ _ h2
    rw [hob] at h3
    rw [hob, hob] at h5
    exact ⟨A', c', w', hr, h2, h3, h5⟩

theorem wpList_appN {ops : Array Oper} {rest : List Oper} {o : Oper} {a : Act} {Q : Exit → Act → World → Prop} (s x : Operand) {t e : TypeId} {z : Value} {size bytes : Nat}
    {base : Nat} {A : Option Addr} {n c : Nat} {vs : List Value} {A2 : Option Addr} {m c2 : Nat} {news : List Value}
    (he : ElemN P t e z size bytes) (hgd : o.guard = none)
    (ho : o.op = .call { callee := .builtin .append, args := #[s, x], argTypes := #[t, t] })
    (hes : a.eval s = .slice A n c) (hex : a.eval x = .slice A2 m c2)
    (hown : OwN w base e size A n c vs) (hs : SrcN w A2 m size news)
    (hb : (n + m) * bytes ≤ 140737488355328) (h63 : n + m ≤ maxLen) (hbase : base ≤ w.heap.size)
    (h : ∀ A' c' w', OwN w' base e size A' (n + m) c' (vs ++ news) → w.grownBy w' (blkOf A) → (blkOf A' = blkOf A ∨ blkOf A' = some w.heap.size) → wpList P ops Q rest (a.put o.dst (.slice A' (n + m) c')) w') :
    wpList P ops Q (o :: rest) a w := by
  refine wpList_plain hgd fun K hK => ?_
  obtain ⟨A', c', w', hr, h2, h3, h4⟩ := run_appN (P := P) (w := w) he o.type hown (c2 := c2) hs hb h63 hbase
  unfold Oper.wp execOp
  simp only [ho, resolve, invoke, builtin, Sem.run_bind, Sem.run_pure, Result.andThen_ok, List.map_toArray, List.map_cons, List.map_nil, hes, hex, hr]
  exact hK _ _ (h A' c' w' h2 h3 h4)
/-- append, the operation by itself (for a region that draws its order). -/
theorem wp_appN {o : Oper} {a : Act} {K : Act → World → Prop} {Q : Exit → Act → World → Prop} (s x : Operand) {t e : TypeId} {z : Value} {size bytes : Nat}
    {base : Nat} {A : Option Addr} {n c : Nat} {vs : List Value} {A2 : Option Addr} {m c2 : Nat} {news : List Value}
    (he : ElemN P t e z size bytes)
    (ho : o.op = .call { callee := .builtin .append, args := #[s, x], argTypes := #[t, t] })
    (hes : a.eval s = .slice A n c) (hex : a.eval x = .slice A2 m c2)
    (hown : OwN w base e size A n c vs) (hs : SrcN w A2 m size news)
    (hb : (n + m) * bytes ≤ 140737488355328) (h63 : n + m ≤ maxLen) (hbase : base ≤ w.heap.size)
    (h : ∀ A' c' w', OwN w' base e size A' (n + m) c' (vs ++ news) → w.grownBy w' (blkOf A) → (blkOf A' = blkOf A ∨ blkOf A' = some w.heap.size) → K (a.put o.dst (.slice A' (n + m) c')) w') :
    Oper.wp P o a w K Q := by
  obtain ⟨A', c', w', hr, h2, h3, h4⟩ := run_appN (P := P) (w := w) he o.type hown (c2 := c2) hs hb h63 hbase
  unfold Oper.wp execOp
  simp only [ho, resolve, invoke, builtin, Sem.run_bind, Sem.run_pure, Result.andThen_ok, List.map_toArray, List.map_cons, List.map_nil, hes, hex, hr]
  exact h A' c' w' h2 h3 h4
end

section
variable {P : Program} {w : World}
/-- append onto nil, and of one element, by themselves. -/
theorem wp_appNil {o : Oper} {a : Act} {K : Act → World → Prop} {Q : Exit → Act → World → Prop} (x : Operand) {t e : TypeId} {z : Value} {size bytes : Nat}
    {base : Nat} {A2 : Option Addr} {m c2 : Nat} {news : List Value}
    (he : ElemN P t e z size bytes)
    (ho : o.op = .call { callee := .builtin .append, args := #[.const (.slice none 0 0), x], argTypes := #[t, t] })
    (hex : a.eval x = .slice A2 m c2) (hs : SrcN w A2 m size news)
    (hb : m * bytes ≤ 140737488355328) (h63 : m ≤ maxLen) (hbase : base ≤ w.heap.size)
    (h : ∀ A' c' w', OwN w' base e size A' m c' news → Mod (fun _ => False) w w' → K (a.put o.dst (.slice A' m c')) w') :
    Oper.wp P o a w K Q := by
  refine wp_appN (base := base) (A2 := A2) (m := m) (c2 := c2) (news := news) (.const (.slice none 0 0)) x he ho rfl hex (OwN.nil _ _ _ _) hs (by rw [Nat.zero_add]; exact hb) (by rw [Nat.zero_add]; exact h63) hbase ?_
  intro A' c' w' h1 h2 _
  rw [Nat.zero_add] at h1 ⊢
  exact h A' c' w' h1 ((Mod.refl _ w).grown h2 (fun k e _ => by simp [blkOf] at e))
end

/-! ### Records in such rows -/
theorem recElem : ElemN Try.prog 22 45 (.agg #[.int .i64 0, .int .i64 0, .int .i64 0, .int .i64 0, .int .i64 0, .int .i64 0, .int .i64 0, .int .i64 0, .int .i64 0, .int .i64 0, .bool false, .slice none 0 0, .bool false, .slice none 0 0]) 14 144 :=
  ElemN.mk_ Try.underlying22 rfl (by decide) (by kernel_rfl)

/-- All cells of some records. -/
def recsC (l : List RcD) : List Value := l.flatMap fun x => x.cells.toList
theorem recsC_cons (x : RcD) (l : List RcD) : recsC (x :: l) = x.cells.toList ++ recsC l := rfl
theorem recsC_append (a b : List RcD) : recsC (a ++ b) = recsC a ++ recsC b := List.flatMap_append
theorem recsC_one (x : RcD) : recsC [x] = x.cells.toList := by simp [recsC]
theorem cells14 (x : RcD) : x.cells.toList.length = 14 := rfl
theorem recsC_len : ∀ l : List RcD, (recsC l).length = l.length * 14
  | [] => rfl
  | x :: l => by rw [recsC_cons, List.length_append, cells14, recsC_len l, List.length_cons]; omega
theorem recsC_get : ∀ (l : List RcD) (i : Nat) (x : RcD), l[i]? = some x → ∀ j, j < 14 → (recsC l)[i * 14 + j]? = x.cells[j]?
  | [], i, x, h, _, _ => by simp at h
  | y :: l, 0, x, h, j, hj => by
    injection h with h
    subst h
    rw [recsC_cons, Nat.zero_mul, Nat.zero_add, List.getElem?_append_left (by rw [cells14]; exact hj), Array.getElem?_toList]
  | y :: l, i + 1, x, h, j, hj => by
    rw [recsC_cons, List.getElem?_append_right (by rw [cells14]; omega), cells14, show (i + 1) * 14 + j - 14 = i * 14 + j by omega]
    exact recsC_get l i x (by simpa using h) j hj
theorem recsC_oneCell (l : List RcD) : ∀ u ∈ recsC l, u.oneCell' = true := by
  intro u hu
  simp only [recsC, List.mem_flatMap] at hu
  obtain ⟨x, _, hx⟩ := hu
  simp at hx
  rcases hx with rfl | rfl | rfl | rfl | rfl | rfl | rfl | rfl | rfl | rfl | rfl | rfl | rfl | rfl <;> rfl

/-- A slice of records as the source of an append. -/
theorem Rs.src {w : World} {A : Option Addr} {n c : Nat} {l : List RcD} (h : Rs w A n c l) : SrcN w A n 14 (recsC l) := by
  refine ⟨by rw [recsC_len, h.len], recsC_oneCell l, fun hp => ?_⟩
  obtain ⟨b, o, rfl, hc⟩ := h.cells hp
  refine ⟨_, rfl, fun j u hu => ?_⟩
  have hj : j < l.length * 14 := by rw [← recsC_len]; exact (List.getElem?_eq_some_iff.1 hu).1
  have hadd : (⟨b, o, none⟩ : Addr).add j = ⟨b, o + j, none⟩ := by unfold Addr.add; split <;> simp_all
  rw [hadd]
  have hi : j / 14 < l.length := by omega
  have hx : l[j / 14]? = some l[j / 14] := List.getElem?_eq_getElem hi
  have hr : j = j / 14 * 14 + j % 14 := by omega
  have h1 := recsC_get l (j / 14) _ hx (j % 14) (by omega)
  rw [← hr, hu] at h1
  have h2 := (hc (j / 14) _ hx).get h1.symm
  rw [Nat.add_assoc, ← hr] at h2
  exact h2
/-- One record that a literal lays into a block of its own. -/
theorem SrcN.rec1 (w : World) (x : RcD) (t : TypeId) : SrcN (w.alloc (.cells x.cells t)) (some ⟨w.heap.size, 0, none⟩) 1 14 (recsC [x]) := by
  have := SrcN.lit w x.cells.toList t (by have := recsC_oneCell [x]; rw [recsC_one] at this; exact this)
  rw [recsC_one]
  exact this
theorem SrcN.keep {w w' : World} {A : Option Addr} {m size : Nat} {news : List Value} (h : SrcN w A m size news) (hm : Mod (fun _ => False) w w') : SrcN w' A m size news := by
  refine ⟨h.1, h.2.1, fun hp => ?_⟩
  obtain ⟨ad, hA, hc⟩ := h.2.2 hp
  refine ⟨ad, hA, fun j u hu => ?_⟩
  have h1 := hc j u hu
  exact (World.cell?_of_block (hm.block _ (World.block_lt_of_cell? w _ h1) id)).trans h1
/-- A row of the call's own that holds records. -/
theorem OwN.recs {w : World} {base : Nat} {A : Option Addr} {n c : Nat} {l : List RcD} (h : OwN w base 45 14 A n c (recsC l)) (hx : ∀ x ∈ l, x.At w) : Rs w A n c l := by
  have hl : l.length = n := by have := h.1; rw [recsC_len] at this; omega
  refine ⟨hl, h.cap, fun hp => ?_, hx⟩
  obtain ⟨g, rfl, hc⟩ := h.cells hp
  refine ⟨g, 0, rfl, fun i x hi => .of fun j u hu => ?_⟩
  have hil : i < l.length := (List.getElem?_eq_some_iff.1 hi).1
  have hj : j < 14 := (Array.getElem?_eq_some_iff.1 hu).1
  rw [Nat.zero_add, hc _ (by omega), recsC_get l i x hi j hj]
  exact hu
end Go.Proofs.Ytpkgeidenkjnfaa
