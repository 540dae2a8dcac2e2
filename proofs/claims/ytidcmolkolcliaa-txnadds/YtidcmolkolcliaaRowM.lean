/-
  Rows of the call's own whose elements take several cells; append onto them.
-/
import Derived.Test.YtidcmolkolcliaaWords
namespace Go.Proofs.Ytidcmolkolcliaa
open Go Go.RowKit

/-- A row of the call's own: elements of 'size' cells each; vs: all their cells. -/
def OwN (w : World) (base : Nat) (e : TypeId) (size : Nat) (A : Option Addr) (n c : Nat) (vs : List Value) : Prop := w.ownsRow base e size (.slice A n c) n vs

section
variable {w w' : World} {base : Nat} {e : TypeId} {size : Nat} {A : Option Addr} {n c : Nat} {vs : List Value}
theorem OwN.nil (w : World) (base : Nat) (e : TypeId) (size : Nat) : OwN w base e size none 0 0 [] := World.ownsRow_nil w base e size
theorem OwN.lt (h : OwN w base e size A n c vs) : ∀ k, blkOf A = some k → base ≤ k ∧ k < w.heap.size := by
  intro k hk
  refine World.ownsRow.lt h k ?_
  cases A with
  | none => simp [blkOf] at hk
  | some a => simpa [Value.ownBlock, blkOf] using hk
theorem OwN.cap (h : OwN w base e size A n c vs) : n ≤ c := by
  rcases h.2 with ⟨hv, h0⟩ | ⟨g, cap, cur, hv, _, hh, h1, _⟩
  · omega
  · injection hv with _ _ hc; omega
theorem OwN.mod {F : Nat → Prop} (h : OwN w base e size A n c vs) (hm : Mod F w w') (hF : ∀ k, blkOf A = some k → ¬ F k) : OwN w' base e size A n c vs := by
  refine ⟨h.1, ?_⟩
  rcases h.2 with hn | ⟨g, cap, cur, hv, hb, hgg, rest⟩
  · exact .inl hn
  · refine .inr ⟨g, cap, cur, hv, hb, ?_, rest⟩
    injection hv with hA
    subst hA
    rw [hm.block g (Array.getElem?_eq_some_iff.1 hgg).1 (hF g rfl)]
    exact hgg
theorem OwN.alloc (h : OwN w base e size A n c vs) (o : Obj) : OwN (w.alloc o) base e size A n c vs := h.mod ((Mod.refl (fun _ => False) w).alloc o) (fun _ _ => id)
theorem OwN.cells (h : OwN w base e size A n c vs) : 0 < n → ∃ g, A = some ⟨g, 0, none⟩ ∧ ∀ j, j < n * size → w.cell? ⟨g, j, none⟩ = vs[j]? := by
  intro hn
  rcases h.2 with ⟨_, h0⟩ | ⟨g, cap, cur, hv, _, hh, h1, h2, h3, h4⟩
  · omega
  · injection hv with hA _ hc
    subst hA; subst hc
    refine ⟨g, rfl, fun j hj => ?_⟩
    rw [cell_of_row w g j cur e (0, 0) hh, ← h4, List.getElem?_take, if_pos hj]
    simp
end

/-- What is known of an element type of 'size' cells. -/
def ElemN (P : Program) (t e : TypeId) (z : Value) (size bytes : Nat) : Prop :=
  P.underlying t = some (.slice e) ∧ z.cells.size = size ∧ 0 < size ∧ ∃ i, P.info? e = some i ∧ i.zero = some z ∧ i.size = size ∧ i.bytes = bytes
theorem ElemN.mk_ {P : Program} {t e : TypeId} {z : Value} {size bytes : Nat} (h1 : P.underlying t = some (.slice e)) (hz : z.cells.size = size) (hs : 0 < size)
    (h2 : (P.info? e).map (fun i => (i.zero, i.size, i.bytes)) = some (some z, size, bytes)) : ElemN P t e z size bytes := by
  cases hi : P.info? e with
  | none => simp [hi] at h2
  | some i => simp [hi] at h2; exact ⟨h1, hz, hs, i, hi, h2.1, h2.2.1, h2.2.2⟩

/-- The cells that are read for an append of m elements. -/
def SrcN (w : World) (A : Option Addr) (m size : Nat) (news : List Value) : Prop :=
  news.length = m * size ∧ (∀ u ∈ news, u.oneCell' = true) ∧ (0 < m → ∃ ad, A = some ad ∧ ∀ j u, news[j]? = some u → w.cell? (ad.add j) = some u)

/-- One element that a literal lays into a block of its own. -/
theorem SrcN.lit (w : World) (cs : List Value) (t : TypeId) (h1 : ∀ u ∈ cs, u.oneCell' = true) : SrcN (w.alloc (.cells cs.toArray t)) (some ⟨w.heap.size, 0, none⟩) 1 cs.length cs :=
  ⟨by simp, h1, fun _ => ⟨_, rfl, World.news_of_block (heap_alloc_new w _)⟩⟩

section
variable {P : Program} {w : World}
theorem run_appN {t e : TypeId} {z : Value} {size bytes : Nat} (he : ElemN P t e z size bytes) (ty : TypeId)
    {base : Nat} {A : Option Addr} {n c : Nat} {vs : List Value} (hown : OwN w base e size A n c vs)
    {A2 : Option Addr} {m c2 : Nat} {news : List Value} (hs : SrcN w A2 m size news)
    (hb : (n + m) * bytes ≤ 140737488355328) (h63 : n + m ≤ maxLen) (hbase : base ≤ w.heap.size) :
    ∃ A' c' w', (Builtin.append_ #[t, t] ty #[.slice A n c, .slice A2 m c2]).run P w = .ok (.slice A' (n + m) c') w' ∧ OwN w' base e size A' (n + m) c' (vs ++ news) ∧
      w.grownBy w' (blkOf A) ∧ (blkOf A' = blkOf A ∨ blkOf A' = some w.heap.size) := by
  obtain ⟨ht, hz1, hsz0, i, hi, hz, hsz, hby⟩ := he
  have hob : ∀ (B : Option Addr) (k c : Nat), (Value.slice B k c).ownBlock = blkOf B := fun B _ _ => by cases B <;> rfl
  have form : ∀ (v : Value) (w' : World) (k : Nat) (xs : List Value), w'.ownsRow base e size v k xs → ∃ A' c', v = .slice A' k c' := by
    intro v w' k xs h
    rcases h.2 with ⟨rfl, rfl⟩ | ⟨g, cap, cur, rfl, _⟩
    · exact ⟨_, _, rfl⟩
    · exact ⟨_, _, rfl⟩
  cases A2 with
  | none =>
    obtain rfl : m = 0 := by
      rcases Nat.eq_zero_or_pos m with h0 | h0
      · exact h0
      · obtain ⟨ad, h, _⟩ := hs.2.2 h0; cases h
    have hn : news = [] := List.eq_nil_of_length_eq_zero (by simpa using hs.1)
    subst hn
    refine ⟨A, c, w, ?_, by simpa using hown, ⟨rfl, rfl, rfl, Nat.le_refl _, fun _ _ _ => rfl⟩, .inl rfl⟩
    rcases hown.2 with ⟨hv, rfl⟩ | ⟨g, cap, cur, hv, _, _, hnc, _⟩
    · injection hv with hA _ hc; subst hA; subst hc
      simp [Builtin.append_, run_underlying ht, sizeOf, typeInfo, hi, Builtin.lenOf, Builtin.firstCells]
    · injection hv with hA _ hc; subst hA; subst hc
      simp [Builtin.append_, run_underlying ht, sizeOf, typeInfo, hi, Builtin.lenOf, Builtin.firstCells, hnc, storeCells]
  | some ad =>
    have hcells : ∀ j u, news[j]? = some u → w.cell? (ad.add j) = some u := by
      intro j u hu
      have hj : 0 < m := by
        have := (List.getElem?_eq_some_iff.1 hu).1
        rcases Nat.eq_zero_or_pos m with h0 | h0
        · rw [hs.1, h0] at this; simp at this
        · exact h0
      obtain ⟨ad', h, hc⟩ := hs.2.2 hj
      injection h with h; subst h
      exact hc j u hu
    obtain ⟨v', w', hr, h2, h3, _, h5⟩ := run_append_own_at (P := P) w base t ty e i z size bytes ht hi hz hsz hby hz1 hsz0 (.slice A n c) n vs hown ad m c2 news hs.1 hcells hs.2.1 h63 hb hbase
    obtain ⟨A', c', rfl⟩ := form v' w' _ _ h2
    rw [hob] at h3
    rw [hob, hob] at h5
    exact ⟨A', c', w', hr, h2, h3, h5⟩

theorem wpList_appN {ops : Array Oper} {rest : List Oper} {o : Oper} {a : Act} {Q : Exit → Act → World → Prop} (s x : Operand) {t e : TypeId} {z : Value} {size bytes : Nat}
    {base : Nat} {A : Option Addr} {n c : Nat} {vs : List Value} {A2 : Option Addr} {m c2 : Nat} {news : List Value}
    (he : ElemN P t e z size bytes) (hgd : o.guard = none)
    (ho : o.op = .call { callee := .builtin .append, args := #[s, x], argTypes := #[t, t] })
    (hes : a.eval s = .slice A n c) (hex : a.eval x = .slice A2 m c2)
    (hown : OwN w base e size A n c vs) (hs : SrcN w A2 m size news)
    (hb : (n + m) * bytes ≤ 140737488355328) (h63 : n + m ≤ maxLen) (hbase : base ≤ w.heap.size)
    (h : ∀ A' c' w', OwN w' base e size A' (n + m) c' (vs ++ news) → w.grownBy w' (blkOf A) → (blkOf A' = blkOf A ∨ blkOf A' = some w.heap.size) → wpList P ops Q rest (a.put o.dst (.slice A' (n + m) c')) w') :
    wpList P ops Q (o :: rest) a w := by
  refine wpList_plain hgd fun K hK => ?_
  obtain ⟨A', c', w', hr, h2, h3, h4⟩ := run_appN (P := P) (w := w) he o.type hown (c2 := c2) hs hb h63 hbase
  unfold Oper.wp execOp
  simp only [ho, resolve, invoke, builtin, Sem.run_bind, Sem.run_pure, Result.andThen_ok, List.map_toArray, List.map_cons, List.map_nil, hes, hex, hr]
  exact hK _ _ (h A' c' w' h2 h3 h4)
end

end Go.Proofs.Ytidcmolkolcliaa
