/-
  Words for memory, over any program: a slice of bytes that reads as a list, a row of the call's own, what a step may have turned; and the laws for append, make and copy in these words.
  Our own text. Conditions: none beyond each theorem's premises.
-/
import Derived.WalkKit
import Derived.WalkSpells
import Derived.WalkLawsBesides
import Derived.Laws.CopyOwn
import Derived.Maps.AppendAt
import Derived.Deep.AppendLies
import Derived.Deep.QuietTactic
import Derived.BigQuiet
import Derived.Lib.Hide
namespace Go.Proofs.Ytidcmolkolcliaa
open Go Go.RowKit

/-- A byte as a cell holds it. -/
abbrev bv (b : UInt8) : Value := .int .u8 (b.toNat : Int)

/-- The block that a slice's address lies in. -/
def blkOf : Option Addr → Option Nat
  | some a => some a.block
  | none => none

/-- Only blocks in F, and new ones, may have turned. -/
structure Mod (F : Nat → Prop) (w w' : World) : Prop where
  os : w'.os = w.os
  tape : w'.tape = w.tape
  output : w'.output = w.output
  size : w.heap.size ≤ w'.heap.size
  block : ∀ k, k < w.heap.size → ¬ F k → w'.heap[k]? = w.heap[k]?

section
variable {F G : Nat → Prop} {a w w' : World}
theorem Mod.refl (F : Nat → Prop) (w : World) : Mod F w w := ⟨rfl, rfl, rfl, Nat.le_refl _, fun _ _ _ => rfl⟩
theorem Mod.trans (h : Mod F a w) (k : Mod G w w') (hG : ∀ i, i < a.heap.size → G i → F i) : Mod F a w' :=
  ⟨k.os.trans h.os, k.tape.trans h.tape, k.output.trans h.output, Nat.le_trans h.size k.size,
    fun i hi hn => (k.block i (Nat.lt_of_lt_of_le hi h.size) (fun g => hn (hG i hi g))).trans (h.block i hi hn)⟩
theorem Mod.mono (h : Mod F w w') (hG : ∀ i, i < w.heap.size → F i → G i) : Mod G w w' :=
  ⟨h.os, h.tape, h.output, h.size, fun i hi hn => h.block i hi (fun g => hn (hG i hi g))⟩
theorem Mod.drew (h : Mod F a w) : Mod F a w.drew := ⟨h.os, h.tape, h.output, h.size, h.block⟩
theorem Mod.drewN (h : Mod F a w) (n : Nat) : Mod F a (w.drewN n) := ⟨h.os, h.tape, h.output, h.size, h.block⟩
theorem Mod.alloc (h : Mod F a w) (o : Obj) : Mod F a (w.alloc o) :=
  ⟨h.os, h.tape, h.output, Nat.le_trans h.size (by simp), fun i hi hn => (Below.heap_alloc w o i (Nat.lt_of_lt_of_le hi h.size)).trans (h.block i hi hn)⟩
theorem Mod.setCell (h : Mod F a w) {p : Addr} (hp : p.block < a.heap.size → F p.block) (u : Value) : Mod F a (w.setCell p u) :=
  ⟨h.os, h.tape, h.output, by simpa [World.setCell] using h.size, fun i hi hn => (Below.heap_setCell w p u i (by
    intro e; subst e; exact hn (hp hi))).trans (h.block i hi hn)⟩
theorem Mod.grown (h : Mod F a w) {row : Option Nat} (hg : w.grownBy w' row) (hr : ∀ k, row = some k → k < a.heap.size → F k) : Mod F a w' :=
  ⟨hg.os.trans h.os, hg.tape.trans h.tape, hg.output.trans h.output, Nat.le_trans h.size hg.size,
    fun i hi hn => (hg.block i (Nat.lt_of_lt_of_le hi h.size) (fun e => hn (hr i e.symm hi))).trans (h.block i hi hn)⟩
theorem Mod.below {B : Nat} (h : Mod F w w') (hB : B ≤ w.heap.size) (hF : ∀ k, k < B → ¬ F k) : Below B w w' :=
  ⟨h.os, h.tape, h.output, h.size, fun k hk => h.block k (by omega) (hF k hk)⟩
theorem Mod.of_below {B : Nat} (h : Below B w w') (hF : ∀ k, B ≤ k → F k) : Mod F w w' :=
  ⟨h.os, h.tape, h.output, h.size, fun k _ hn => h.block k (by
    rcases Nat.lt_or_ge k B with hlt | hge
    · exact hlt
    · exact absurd (hF k hge) hn)⟩
end

/-- A store into a block that is known whole. -/
theorem heap_set {w : World} {g : Nat} {cs : Array Value} {t : TypeId} (h : w.heap[g]? = some (.cells cs t (0, 0))) (i : Nat) (u : Value) :
    (w.setCell ⟨g, i, none⟩ u).heap[g]? = some (.cells (cs.setIfInBounds i u) t (0, 0)) := by
  simp [World.setCell, Array.getElem?_modify, h]
theorem frozen_of_block {w : World} {g : Nat} {cs : Array Value} {t : TypeId} (h : w.heap[g]? = some (.cells cs t (0, 0))) (i : Nat) : w.frozen? ⟨g, i, none⟩ = false := by
  simp [World.frozen?, h]

/-- The slice value '.slice A n c' reads as the bytes xs. -/
def Sl (w : World) (A : Option Addr) (n c : Nat) (xs : List UInt8) : Prop :=
  xs.length = n ∧ n ≤ c ∧ (0 < n → ∃ b o, A = some ⟨b, o, none⟩ ∧ ∀ j, j < n → w.cell? ⟨b, o + j, none⟩ = some (bv (xs.getD j 0)))

section
variable {w w' : World} {A : Option Addr} {n c : Nat} {xs : List UInt8}
theorem Sl.len (h : Sl w A n c xs) : xs.length = n := h.1
theorem Sl.cap (h : Sl w A n c xs) : n ≤ c := h.2.1
theorem Sl.none_ (w : World) (A : Option Addr) (c : Nat) : Sl w A 0 c [] := ⟨rfl, Nat.zero_le _, fun h => absurd h (by omega)⟩
theorem Sl.keep (h : Sl w A n c xs) (hk : ∀ k, blkOf A = some k → w'.heap[k]? = w.heap[k]?) : Sl w' A n c xs := by
  refine ⟨h.1, h.2.1, fun hn => ?_⟩
  obtain ⟨b, o, rfl, hc⟩ := h.2.2 hn
  exact ⟨b, o, rfl, fun j hj => (World.cell?_of_block (hk b rfl)).trans (hc j hj)⟩
theorem Sl.lt (h : Sl w A n c xs) (hn : 0 < n) : ∃ b o, A = some ⟨b, o, none⟩ ∧ b < w.heap.size := by
  obtain ⟨b, o, rfl, hc⟩ := h.2.2 hn
  exact ⟨b, o, rfl, World.block_lt_of_cell? w _ (hc 0 hn)⟩
/-- It stays where the blocks that turn are not its own. -/
theorem Sl.mod {F : Nat → Prop} (h : Sl w A n c xs) (hm : Mod F w w') (hF : ∀ k, blkOf A = some k → 0 < n → ¬ F k) : Sl w' A n c xs := by
  refine ⟨h.1, h.2.1, fun hn => ?_⟩
  obtain ⟨b, o, rfl, hc⟩ := h.2.2 hn
  exact ⟨b, o, rfl, fun j hj => (World.cell?_of_block (hm.block b (World.block_lt_of_cell? w _ (hc j hj)) (hF b rfl hn))).trans (hc j hj)⟩
theorem Sl.drew (h : Sl w A n c xs) : Sl w.drew A n c xs := h
theorem Sl.drewN (h : Sl w A n c xs) (k : Nat) : Sl (w.drewN k) A n c xs := h
theorem Sl.alloc (h : Sl w A n c xs) (o : Obj) : Sl (w.alloc o) A n c xs := h.mod ((Mod.refl (fun _ => False) w).alloc o) (fun _ _ _ => id)
end

/-- One byte in a block of its own. -/
theorem Sl.one (w : World) (b : UInt8) (e : TypeId) : Sl (w.alloc (.cells #[bv b] e)) (some ⟨w.heap.size, 0, none⟩) 1 1 [b] := by
  refine ⟨rfl, Nat.le_refl _, fun _ => ⟨_, _, rfl, fun j hj => ?_⟩⟩
  obtain rfl : j = 0 := by omega
  rw [cell_of_row _ _ _ _ _ _ (heap_alloc_new w _)]
  rfl

/-- A row of the call's own: the slice value '.slice A n c' over the element type e (one cell an element), its block from 'base' on, known whole. -/
def OwV (w : World) (base : Nat) (e : TypeId) (A : Option Addr) (n c : Nat) (vs : List Value) : Prop := w.ownsRow base e 1 (.slice A n c) n vs

section
variable {w w' : World} {base : Nat} {e : TypeId} {A : Option Addr} {n c : Nat} {vs : List Value}
theorem OwV.len (h : OwV w base e A n c vs) : vs.length = n := by simpa using h.1
theorem OwV.nil (w : World) (base : Nat) (e : TypeId) : OwV w base e none 0 0 [] := World.ownsRow_nil w base e 1
theorem OwV.lt (h : OwV w base e A n c vs) : ∀ k, blkOf A = some k → base ≤ k ∧ k < w.heap.size := by
  intro k hk
  refine World.ownsRow.lt h k ?_
  cases A with
  | none => simp [blkOf] at hk
  | some a => simpa [Value.ownBlock, blkOf] using hk
theorem OwV.block (h : OwV w base e A n c vs) {k : Nat} (hk : blkOf A = some k) :
    A = some ⟨k, 0, none⟩ ∧ ∃ cur, w.heap[k]? = some (.cells cur e (0, 0)) ∧ n ≤ c ∧ c ≤ maxLen ∧ cur.size = c ∧ cur.toList.take n = vs := by
  rcases h.2 with ⟨hv, _⟩ | ⟨g, cap, cur, hv, _, hh, h1, h2, h3, h4⟩
  · injection hv with hA; subst hA; simp [blkOf] at hk
  · injection hv with hA _ hc
    subst hA; subst hc
    simp [blkOf] at hk
    subst hk
    exact ⟨rfl, cur, hh, h1, h2, by simpa using h3, by simpa using h4⟩
theorem OwV.cap (h : OwV w base e A n c vs) : n ≤ c := by
  rcases h.2 with ⟨hv, h0⟩ | ⟨g, cap, cur, hv, _, hh, h1, _⟩
  · omega
  · injection hv with _ _ hc; omega
theorem OwV.mod {F : Nat → Prop} (h : OwV w base e A n c vs) (hm : Mod F w w') (hF : ∀ k, blkOf A = some k → ¬ F k) : OwV w' base e A n c vs := by
  refine ⟨h.1, ?_⟩
  rcases h.2 with hn | ⟨g, cap, cur, hv, hb, hgg, rest⟩
  · exact .inl hn
  · refine .inr ⟨g, cap, cur, hv, hb, ?_, rest⟩
    injection hv with hA
    subst hA
    rw [hm.block g (Array.getElem?_eq_some_iff.1 hgg).1 (hF g rfl)]
    exact hgg
theorem OwV.alloc (h : OwV w base e A n c vs) (o : Obj) : OwV (w.alloc o) base e A n c vs := h.mod ((Mod.refl (fun _ => False) w).alloc o) (fun _ _ => id)
theorem OwV.drew (h : OwV w base e A n c vs) : OwV w.drew base e A n c vs := h
theorem OwV.drewN (h : OwV w base e A n c vs) (k : Nat) : OwV (w.drewN k) base e A n c vs := h
theorem OwV.cells (h : OwV w base e A n c vs) : 0 < n → ∃ g, A = some ⟨g, 0, none⟩ ∧ ∀ j, j < n → w.cell? ⟨g, j, none⟩ = vs[j]? := by
  intro hn
  rcases h.2 with ⟨_, h0⟩ | ⟨g, cap, cur, hv, _, hh, h1, h2, h3, h4⟩
  · omega
  · injection hv with hA _ hc
    subst hA; subst hc
    refine ⟨g, rfl, fun j hj => ?_⟩
    rw [cell_of_row w g j cur e (0, 0) hh, ← h4, List.getElem?_take, if_pos (by omega)]
    simp
theorem OwV.sl {xs : List UInt8} (h : OwV w base e A n c (xs.map bv)) : Sl w A n c xs := by
  have hl : xs.length = n := by simpa using h.len
  refine ⟨hl, h.cap, fun hn => ?_⟩
  obtain ⟨g, rfl, hc⟩ := h.cells hn
  refine ⟨g, 0, rfl, fun j hj => ?_⟩
  rw [Nat.zero_add, hc j hj, List.getElem?_map, List.getD_eq_getElem?_getD, List.getElem?_eq_getElem (by omega)]
  rfl
/-- A block that is known whole is a row of the call's own. -/
theorem OwV.of_block {g : Nat} {cur : List Value} (hb : base ≤ g) (hg : w.heap[g]? = some (.cells cur.toArray e (0, 0))) (hm : cur.length ≤ maxLen) :
    OwV w base e (some ⟨g, 0, none⟩) cur.length cur.length cur :=
  ⟨by simp, .inr ⟨g, cur.length, cur.toArray, rfl, hb, hg, Nat.le_refl _, hm, by simp, by simp⟩⟩
theorem OwV.rebase {base' : Nat} (h : OwV w base e A n c vs) (hb : ∀ k, blkOf A = some k → base' ≤ k) : OwV w base' e A n c vs := by
  refine ⟨h.1, ?_⟩
  rcases h.2 with hn | ⟨g, cap, cur, hv, hbg, rest⟩
  · exact .inl hn
  · refine .inr ⟨g, cap, cur, hv, ?_, rest⟩
    injection hv with hA
    subst hA
    exact hb g rfl
end

/-- What is known of a one-cell element type: its zero, its bytes. -/
def Elem (P : Program) (t e : TypeId) (z : Value) (bytes : Nat) : Prop :=
  P.underlying t = some (.slice e) ∧ z.cells.size = 1 ∧ ∃ i, P.info? e = some i ∧ i.zero = some z ∧ i.size = 1 ∧ i.bytes = bytes
theorem Elem.mk_ {P : Program} {t e : TypeId} {z : Value} {bytes : Nat} (h1 : P.underlying t = some (.slice e)) (hz : z.cells.size = 1)
    (h2 : (P.info? e).map (fun i => (i.zero, i.size, i.bytes)) = some (some z, 1, bytes)) : Elem P t e z bytes := by
  cases hi : P.info? e with
  | none => simp [hi] at h2
  | some i => simp [hi] at h2; exact ⟨h1, hz, i, hi, h2.1, h2.2.1, h2.2.2⟩

/-- The cells that are read for an append or a copy. -/
def Src (w : World) (A : Option Addr) (m : Nat) (news : List Value) : Prop :=
  news.length = m ∧ (∀ u ∈ news, u.oneCell' = true) ∧ (0 < m → ∃ ad, A = some ad ∧ ∀ j u, news[j]? = some u → w.cell? (ad.add j) = some u)
theorem Sl.src {w : World} {A : Option Addr} {n c : Nat} {xs : List UInt8} (h : Sl w A n c xs) : Src w A n (xs.map bv) := by
  refine ⟨by simpa using h.1, fun u hu => ?_, fun hn => ?_⟩
  · obtain ⟨x, _, rfl⟩ := List.mem_map.1 hu; rfl
  · obtain ⟨b, o, rfl, hc⟩ := h.2.2 hn
    refine ⟨_, rfl, fun j u hu => ?_⟩
    have hj : j < n := by
      have := (List.getElem?_eq_some_iff.1 hu).1
      simpa [h.1] using this
    have hadd : (⟨b, o, none⟩ : Addr).add j = ⟨b, o + j, none⟩ := by unfold Addr.add; split <;> simp_all
    rw [hadd, hc j hj, ← hu, List.getElem?_map, List.getD_eq_getElem?_getD, List.getElem?_eq_getElem (by rw [h.1]; exact hj)]
    rfl
/-- The one cell that 'append(s, x)' lays first. -/
theorem Src.one (w : World) (x : Value) (t : TypeId) (h1 : x.oneCell' = true) : Src (w.alloc (.cells #[x] t)) (some ⟨w.heap.size, 0, none⟩) 1 [x] :=
  ⟨rfl, by simpa using h1, fun _ => ⟨_, rfl, cell_one_new w x t⟩⟩

section
variable {P : Program} {w : World}
theorem run_app {t e : TypeId} {z : Value} {bytes : Nat} (he : Elem P t e z bytes) (ty : TypeId)
    {base : Nat} {A : Option Addr} {n c : Nat} {vs : List Value} (hown : OwV w base e A n c vs)
    {A2 : Option Addr} {m c2 : Nat} {news : List Value} (hs : Src w A2 m news)
    (hb : (n + m) * bytes ≤ 140737488355328) (h63 : n + m ≤ maxLen) (hbase : base ≤ w.heap.size) :
    ∃ A' c' w', (Builtin.append_ #[t, t] ty #[.slice A n c, .slice A2 m c2]).run P w = .ok (.slice A' (n + m) c') w' ∧ OwV w' base e A' (n + m) c' (vs ++ news) ∧
      w.grownBy w' (blkOf A) ∧ (blkOf A' = blkOf A ∨ blkOf A' = some w.heap.size) := by
  obtain ⟨ht, hz1, i, hi, hz, hsz, hby⟩ := he
  have hob : ∀ (B : Option Addr) (k c : Nat), (Value.slice B k c).ownBlock = blkOf B := fun B _ _ => by cases B <;> rfl
  have form : ∀ (v : Value) (w' : World) (k : Nat) (xs : List Value), w'.ownsRow base e 1 v k xs → ∃ A' c', v = .slice A' k c' := by
    intro v w' k xs h
    rcases h.2 with ⟨rfl, rfl⟩ | ⟨g, cap, cur, rfl, _⟩
    · exact ⟨_, _, rfl⟩
    · exact ⟨_, _, rfl⟩
  have hm0 : A2 = none → m = 0 := fun e => by
    rcases Nat.eq_zero_or_pos m with h0 | h0
    · exact h0
    · obtain ⟨ad, h, _⟩ := hs.2.2 h0; rw [e] at h; cases h
  cases A2 with
  | none =>
    obtain rfl := hm0 rfl
    have hn : news = [] := List.eq_nil_of_length_eq_zero hs.1
    subst hn
    refine ⟨A, c, w, ?_, by simpa using hown, ⟨rfl, rfl, rfl, Nat.le_refl _, fun _ _ _ => rfl⟩, .inl rfl⟩
    rcases hown.2 with ⟨hv, rfl⟩ | ⟨g, cap, cur, hv, _, _, hnc, _⟩
    · injection hv with hA _ hc; subst hA; subst hc
      simp [Builtin.append_, run_underlying ht, sizeOf, typeInfo, hi, Builtin.lenOf, Builtin.firstCells]
    · injection hv with hA _ hc; subst hA; subst hc
      simp [Builtin.append_, run_underlying ht, sizeOf, typeInfo, hi, Builtin.lenOf, Builtin.firstCells, hnc, storeCells]
  | some ad =>
    have hcells : ∀ j u, news[j]? = some u → w.cell? (ad.add j) = some u := by
      intro j u hu
      have hj : 0 < m := by have := (List.getElem?_eq_some_iff.1 hu).1; rw [hs.1] at this; omega
      obtain ⟨ad', h, hc⟩ := hs.2.2 hj
      injection h with h; subst h
      exact hc j u hu
    obtain ⟨v', w', hr, h2, h3, _, h5⟩ := run_append_own_at (P := P) w base t ty e i z 1 bytes ht hi hz hsz hby hz1 (by omega) (.slice A n c) n vs hown ad m c2 news (by simpa using hs.1) hcells hs.2.1 h63 hb hbase
    obtain ⟨A', c', rfl⟩ := form v' w' _ _ h2
    rw [hob] at h3
    rw [hob, hob] at h5
    exact ⟨A', c', w', hr, h2, h3, h5⟩

/-- append at the head of a plain region's operations. -/
theorem wpList_app {ops : Array Oper} {rest : List Oper} {o : Oper} {a : Act} {Q : Exit → Act → World → Prop} (s x : Operand) {t e : TypeId} {z : Value} {bytes : Nat}
    {base : Nat} {A : Option Addr} {n c : Nat} {vs : List Value} {A2 : Option Addr} {m c2 : Nat} {news : List Value}
    (he : Elem P t e z bytes) (hgd : o.guard = none)
    (ho : o.op = .call { callee := .builtin .append, args := #[s, x], argTypes := #[t, t] })
    (hes : a.eval s = .slice A n c) (hex : a.eval x = .slice A2 m c2)
    (hown : OwV w base e A n c vs) (hs : Src w A2 m news)
    (hb : (n + m) * bytes ≤ 140737488355328) (h63 : n + m ≤ maxLen) (hbase : base ≤ w.heap.size)
    (h : ∀ A' c' w', OwV w' base e A' (n + m) c' (vs ++ news) → w.grownBy w' (blkOf A) → (blkOf A' = blkOf A ∨ blkOf A' = some w.heap.size) → wpList P ops Q rest (a.put o.dst (.slice A' (n + m) c')) w') :
    wpList P ops Q (o :: rest) a w := by
  refine wpList_plain hgd fun K hK => ?_
  obtain ⟨A', c', w', hr, h2, h3, h4⟩ := run_app (P := P) (w := w) he o.type hown (c2 := c2) hs hb h63 hbase
  unfold Oper.wp execOp
  simp only [ho, resolve, invoke, builtin, Sem.run_bind, Sem.run_pure, Result.andThen_ok, List.map_toArray, List.map_cons, List.map_nil, hes, hex, hr]
  exact hK _ _ (h A' c' w' h2 h3 h4)
end

section
variable {P : Program} {w : World}
/-- copy over a whole row of the call's own: as many cells as it has. -/
theorem wpList_copyall {ops : Array Oper} {rest : List Oper} {o : Oper} {a : Act} {Q : Exit → Act → World → Prop} (d s : Operand) {t e : TypeId} {z : Value} {bytes : Nat}
    {g n c : Nat} {cur : List Value} {A2 : Option Addr} {c2 : Nat} {news : List Value}
    (he : Elem P t e z bytes) (hgd : o.guard = none)
    (ho : o.op = .call { callee := .builtin .copy, args := #[d, s], argTypes := #[t, t] })
    (hed : a.eval d = .slice (some ⟨g, 0, none⟩) n c) (hes : a.eval s = .slice A2 n c2)
    (hg : w.heap[g]? = some (.cells cur.toArray e (0, 0))) (hcur : cur.length = n) (hs : Src w A2 n news)
    (h : ∀ w', w'.heap[g]? = some (.cells news.toArray e (0, 0)) → Mod (fun k => k = g) w w' → w'.heap.size = w.heap.size → wpList P ops Q rest (a.put o.dst (goInt n)) w') :
    wpList P ops Q (o :: rest) a w := by
  obtain ⟨ht, _, i, hi, _, hsz, _⟩ := he
  have hone : (P.info? e).map (·.size) = some 1 := by simp [hi, hsz]
  rcases Nat.eq_zero_or_pos n with h0 | h0
  · subst h0
    have hn : news = [] := List.eq_nil_of_length_eq_zero hs.1
    have hc : cur = [] := List.eq_nil_of_length_eq_zero hcur
    subst hn; subst hc
    exact wpList_copy_nothing hgd d s t t ho e ht hone _ _ _ _ _ _ hed hes (by simp) (h w hg (Mod.refl _ _) rfl)
  · obtain ⟨ad, rfl, hc⟩ := hs.2.2 h0
    refine wpList_copy_own hgd d s t t ho e ht hone g 0 n c ad n c2 hed hes cur.toArray e hg news (by rw [hs.1]; simp) hc (by rw [hs.1]; simp [hcur]) hs.2.1 ?_
    rw [hs.1]
    refine h _ ?_ ⟨rfl, rfl, rfl, by simp [World.setRow], fun k _ hk => setRow_other w g k _ hk⟩ (by simp [World.setRow])
    rw [setRow_heap w g _ _ e _ hg]
    simp [hcur]
end

end Go.Proofs.Ytidcmolkolcliaa
