/-
  Words for memory, over any program: a slice of bytes that reads as a list, a row of the call's own, what a step may have turned; and the laws for append, make and copy in these words.
  Our own text. Conditions: none beyond each theorem's premises.
  Plain mathematics on bytes: numbers and their bytes, the least first.
  The contracts of package byt's functions, callees first.
  More contracts of package byt: Lay, Bytes, NewReader, Left, Get, Take.
  Bytes as elements of a slice; the contract of bobbinref01.Same.
  From a reading of an argument to the words of our walks: a slice of bytes.
  Slices of bytes (page/Same5's, under the name that frame and disk import).
  copy into a row that is known whole, from whatever place on, in our words; arrays of zeros.
  Rows of the call's own whose elements take several cells; append onto them.
-/
import Derived.WalkKit
import Derived.WalkSpells
import Derived.WalkLawsBesides
import Derived.Laws.CopyOwn
import Derived.Maps.AppendAt
import Derived.Deep.AppendLies
import Derived.Deep.QuietTactic
import Derived.BigQuiet
import Derived.Lib.Hide
import Derived.Laws.BitsAllLaws
import Derived.Laws.BitsLemmas
import Derived.Test.YtnbamljaiahmdaaGreatRows
import Derived.Deep.DeepCutAuto
import Derived.ProofKit
import Derived.OpenShut
import Derived.ShutString
import Derived.ChangeOld
import Derived.Below
import Derived.SizedLaws
import Derived.Deep.Slices
import Derived.Deep.Fields
import Derived.Deep.WholeRow
import Derived.Deep.RegionLaw
namespace Go.Proofs.YtnbamljaiahmdaaGreat
open Go Go.RowKit

/-- A byte as a cell holds it. -/
abbrev bv (b : UInt8) : Value := .int .u8 (b.toNat : Int)

/-- The block that a slice's address lies in. -/
def blkOf : Option Addr → Option Nat
  | some a => some a.block
  | none => none

/-- Only blocks in F, and new ones, may have turned. -/
structure Mod (F : Nat → Prop) (w w' : World) : Prop where
  os : w'.os = w.os
  tape : w'.tape = w.tape
  output : w'.output = w.output
  size : w.heap.size ≤ w'.heap.size
  block : ∀ k, k < w.heap.size → ¬ F k → w'.heap[k]? = w.heap[k]?

section
variable {F G : Nat → Prop} {a w w' : World}
theorem Mod.refl (F : Nat → Prop) (w : World) : Mod F w w := ⟨rfl, rfl, rfl, Nat.le_refl _, fun _ _ _ => rfl⟩
theorem Mod.trans (h : Mod F a w) (k : Mod G w w') (hG : ∀ i, i < a.heap.size → G i → F i) : Mod F a w' :=
  ⟨k.os.trans h.os, k.tape.trans h.tape, k.output.trans h.output, Nat.le_trans h.size k.size,
    fun i hi hn => (k.block i (Nat.lt_of_lt_of_le hi h.size) (fun g => hn (hG i hi g))).trans (h.block i hi hn)⟩
theorem Mod.mono (h : Mod F w w') (hG : ∀ i, i < w.heap.size → F i → G i) : Mod G w w' :=
  ⟨h.os, h.tape, h.output, h.size, fun i hi hn => h.block i hi (fun g => hn (hG i hi g))⟩
theorem Mod.drew (h : Mod F a w) : Mod F a w.drew := ⟨h.os, h.tape, h.output, h.size, h.block⟩
theorem Mod.drewN (h : Mod F a w) (n : Nat) : Mod F a (w.drewN n) := ⟨h.os, h.tape, h.output, h.size, h.block⟩
theorem Mod.alloc (h : Mod F a w) (o : Obj) : Mod F a (w.alloc o) :=
  ⟨h.os, h.tape, h.output, Nat.le_trans h.size (by simp), fun i hi hn => (Below.heap_alloc w o i (Nat.lt_of_lt_of_le hi h.size)).trans (h.block i hi hn)⟩
theorem Mod.setCell (h : Mod F a w) {p : Addr} (hp : p.block < a.heap.size → F p.block) (u : Value) : Mod F a (w.setCell p u) :=
  ⟨h.os, h.tape, h.output, by simpa [World.setCell] using h.size, fun i hi hn => (Below.heap_setCell w p u i (by
    intro e; subst e; exact hn (hp hi))).trans (h.block i hi hn)⟩
theorem Mod.grown (h : Mod F a w) {row : Option Nat} (hg : w.grownBy w' row) (hr : ∀ k, row = some k → k < a.heap.size → F k) : Mod F a w' :=
  ⟨hg.os.trans h.os, hg.tape.trans h.tape, hg.output.trans h.output, Nat.le_trans h.size hg.size,
    fun i hi hn => (hg.block i (Nat.lt_of_lt_of_le hi h.size) (fun e => hn (hr i e.symm hi))).trans (h.block i hi hn)⟩
theorem Mod.below {B : Nat} (h : Mod F w w') (hB : B ≤ w.heap.size) (hF : ∀ k, k < B → ¬ F k) : Below B w w' :=
  ⟨h.os, h.tape, h.output, h.size, fun k hk => h.block k (by omega) (hF k hk)⟩
theorem Mod.of_below {B : Nat} (h : Below B w w') (hF : ∀ k, B ≤ k → F k) : Mod F w w' :=
  ⟨h.os, h.tape, h.output, h.size, fun k _ hn => h.block k (by
    rcases Nat.lt_or_ge k B with hlt | hge
    · exact hlt
    · exact absurd (hF k hge) hn)⟩
end

/-- A store into a block that is known whole. -/
theorem heap_set {w : World} {g : Nat} {cs : Array Value} {t : TypeId} (h : w.heap[g]? = some (.cells cs t (0, 0))) (i : Nat) (u : Value) :
    (w.setCell ⟨g, i, none⟩ u).heap[g]? = some (.cells (cs.setIfInBounds i u) t (0, 0)) := by
  simp [World.setCell, Array.getElem?_modify, h]
theorem frozen_of_block {w : World} {g : Nat} {cs : Array Value} {t : TypeId} (h : w.heap[g]? = some (.cells cs t (0, 0))) (i : Nat) : w.frozen? ⟨g, i, none⟩ = false := by
  simp [World.frozen?, h]

/-- The slice value '.slice A n c' reads as the bytes xs. -/
def Sl (w : World) (A : Option Addr) (n c : Nat) (xs : List UInt8) : Prop :=
  xs.length = n ∧ n ≤ c ∧ (0 < n → ∃ b o, A = some ⟨b, o, none⟩ ∧ ∀ j, j < n → w.cell? ⟨b, o + j, none⟩ = some (bv (xs.getD j 0)))

section
variable {w w' : World} {A : Option Addr} {n c : Nat} {xs : List UInt8}
theorem Sl.len (h : Sl w A n c xs) : xs.length = n := h.1
theorem Sl.cap (h : Sl w A n c xs) : n ≤ c := h.2.1
theorem Sl.none_ (w : World) (A : Option Addr) (c : Nat) : Sl w A 0 c [] := ⟨rfl, Nat.zero_le _, fun h => absurd h (by omega)⟩
theorem Sl.keep (h : Sl w A n c xs) (hk : ∀ k, blkOf A = some k → w'.heap[k]? = w.heap[k]?) : Sl w' A n c xs := by
  refine ⟨h.1, h.2.1, fun hn => ?_⟩
  obtain ⟨b, o, rfl, hc⟩ := h.2.2 hn
  exact ⟨b, o, rfl, fun j hj => (World.cell?_of_block (hk b rfl)).trans (hc j hj)⟩
theorem Sl.lt (h : Sl w A n c xs) (hn : 0 < n) : ∃ b o, A = some ⟨b, o, none⟩ ∧ b < w.heap.size := by
  obtain ⟨b, o, rfl, hc⟩ := h.2.2 hn
  exact ⟨b, o, rfl, World.block_lt_of_cell? w _ (hc 0 hn)⟩
/-- It stays where the blocks that turn are not its own. -/
theorem Sl.mod {F : Nat → Prop} (h : Sl w A n c xs) (hm : Mod F w w') (hF : ∀ k, blkOf A = some k → 0 < n → ¬ F k) : Sl w' A n c xs := by
  refine ⟨h.1, h.2.1, fun hn => ?_⟩
  obtain ⟨b, o, rfl, hc⟩ := h.2.2 hn
  exact ⟨b, o, rfl, fun j hj => (World.cell?_of_block (hm.block b (World.block_lt_of_cell? w _ (hc j hj)) (hF b rfl hn))).trans (hc j hj)⟩
theorem Sl.drew (h : Sl w A n c xs) : Sl w.drew A n c xs := h
theorem Sl.drewN (h : Sl w A n c xs) (k : Nat) : Sl (w.drewN k) A n c xs := h
theorem Sl.alloc (h : Sl w A n c xs) (o : Obj) : Sl (w.alloc o) A n c xs := h.mod ((Mod.refl (fun _ => False) w).alloc o) (fun _ _ _ => id)
end

/-- One byte in a block of its own. -/
theorem Sl.one (w : World) (b : UInt8) (e : TypeId) : Sl (w.alloc (.cells #[bv b] e)) (some ⟨w.heap.size, 0, none⟩) 1 1 [b] := by
  refine ⟨rfl, Nat.le_refl _, fun _ => ⟨_, _, rfl, fun j hj => ?_⟩⟩
  obtain rfl : j = 0 := by omega
  rw [cell_of_row _ _ _ _ _ _ (heap_alloc_new w _)]
  rfl

/-- A row of the call's own: the slice value '.slice A n c' over the element type e (one cell an element), its block from 'base' on, known whole. -/
def OwV (w : World) (base : Nat) (e : TypeId) (A : Option Addr) (n c : Nat) (vs : List Value) : Prop := w.ownsRow base e 1 (.slice A n c) n vs

section
variable {w w' : World} {base : Nat} {e : TypeId} {A : Option Addr} {n c : Nat} {vs : List Value}
theorem OwV.len (h : OwV w base e A n c vs) : vs.length = n := by simpa using h.1
theorem OwV.nil (w : World) (base : Nat) (e : TypeId) : OwV w base e none 0 0 [] := World.ownsRow_nil w base e 1
theorem OwV.lt (h : OwV w base e A n c vs) : ∀ k, blkOf A = some k → base ≤ k ∧ k < w.heap.size := by
  intro k hk
  refine World.ownsRow.lt h k ?_
  cases A with
  | none => simp [blkOf] at hk
  | some a => simpa [Value.ownBlock, blkOf] using hk
theorem OwV.block (h : OwV w base e A n c vs) {k : Nat} (hk : blkOf A = some k) :
    A = some ⟨k, 0, none⟩ ∧ ∃ cur, w.heap[k]? = some (.cells cur e (0, 0)) ∧ n ≤ c ∧ c ≤ maxLen ∧ cur.size = c ∧ cur.toList.take n = vs := by
  rcases h.2 with ⟨hv, _⟩ | ⟨g, cap, cur, hv, _, hh, h1, h2, h3, h4⟩
  · injection hv with hA; subst hA; simp [blkOf] at hk
  · injection hv with hA _ hc
    subst hA; subst hc
    simp [blkOf] at hk
    subst hk
    exact ⟨rfl, cur, hh, h1, h2, by simpa using h3, by simpa using h4⟩
theorem OwV.cap (h : OwV w base e A n c vs) : n ≤ c := by
  rcases h.2 with ⟨hv, h0⟩ | ⟨g, cap, cur, hv, _, hh, h1, _⟩
  · omega
  · injection hv with _ _ hc; omega
theorem OwV.mod {F : Nat → Prop} (h : OwV w base e A n c vs) (hm : Mod F w w') (hF : ∀ k, blkOf A = some k → ¬ F k) : OwV w' base e A n c vs := by
  refine ⟨h.1, ?_⟩
  rcases h.2 with hn | ⟨g, cap, cur, hv, hb, hgg, rest⟩
  · exact .inl hn
  · refine .inr ⟨g, cap, cur, hv, hb, ?_, rest⟩
    injection hv with hA
    subst hA
    rw [hm.block g (Array.getElem?_eq_some_iff.1 hgg).1 (hF g rfl)]
    exact hgg
theorem OwV.alloc (h : OwV w base e A n c vs) (o : Obj) : OwV (w.alloc o) base e A n c vs := h.mod ((Mod.refl (fun _ => False) w).alloc o) (fun _ _ => id)
theorem OwV.drew (h : OwV w base e A n c vs) : OwV w.drew base e A n c vs := h
theorem OwV.drewN (h : OwV w base e A n c vs) (k : Nat) : OwV (w.drewN k) base e A n c vs := h
theorem OwV.cells (h : OwV w base e A n c vs) : 0 < n → ∃ g, A = some ⟨g, 0, none⟩ ∧ ∀ j, j < n → w.cell? ⟨g, j, none⟩ = vs[j]? := by
  intro hn
  rcases h.2 with ⟨_, h0⟩ | ⟨g, cap, cur, hv, _, hh, h1, h2, h3, h4⟩
  · omega
  · injection hv with hA _ hc
    subst hA; subst hc
    refine ⟨g, rfl, fun j hj => ?_⟩
    rw [cell_of_row w g j cur e (0, 0) hh, ← h4, List.getElem?_take, if_pos (by omega)]
    simp
theorem OwV.sl {xs : List UInt8} (h : OwV w base e A n c (xs.map bv)) : Sl w A n c xs := by
  have hl : xs.length = n := by simpa using h.len
  refine ⟨hl, h.cap, fun hn => ?_⟩
  obtain ⟨g, rfl, hc⟩ := h.cells hn
  refine ⟨g, 0, rfl, fun j hj => ?_⟩
  rw [Nat.zero_add, hc j hj, List.getElem?_map, List.getD_eq_getElem?_getD, List.getElem?_eq_getElem (by omega)]
  rfl
/-- A block that is known whole is a row of the call's own. -/
theorem OwV.of_block {g : Nat} {cur : List Value} (hb : base ≤ g) (hg : w.heap[g]? = some (.cells cur.toArray e (0, 0))) (hm : cur.length ≤ maxLen) :
    OwV w base e (some ⟨g, 0, none⟩) cur.length cur.length cur :=
  ⟨by simp, .inr ⟨g, cur.length, cur.toArray, rfl, hb, hg, Nat.le_refl _, hm, by simp, by simp⟩⟩
theorem OwV.rebase {base' : Nat} (h : OwV w base e A n c vs) (hb : ∀ k, blkOf A = some k → base' ≤ k) : OwV w base' e A n c vs := by
  refine ⟨h.1, ?_⟩
  rcases h.2 with hn | ⟨g, cap, cur, hv, hbg, rest⟩
  · exact .inl hn
  · refine .inr ⟨g, cap, cur, hv, ?_, rest⟩
    injection hv with hA
    subst hA
    exact hb g rfl
end

/-- What is known of a one-cell element type: its zero, its bytes. -/
def Elem (P : Program) (t e : TypeId) (z : Value) (bytes : Nat) : Prop :=
  P.underlying t = some (.slice e) ∧ z.cells.size = 1 ∧ ∃ i, P.info? e = some i ∧ i.zero = some z ∧ i.size = 1 ∧ i.bytes = bytes
theorem Elem.mk_ {P : Program} {t e : TypeId} {z : Value} {bytes : Nat} (h1 : P.underlying t = some (.slice e)) (hz : z.cells.size = 1)
    (h2 : (P.info? e).map (fun i => (i.zero, i.size, i.bytes)) = some (some z, 1, bytes)) : Elem P t e z bytes := by
  cases hi : P.info? e with
  | none => simp [hi] at h2
  | some i => simp [hi] at h2; exact ⟨h1, hz, i, hi, h2.1, h2.2.1, h2.2.2⟩

/-- The cells that are read for an append or a copy. -/
def Src (w : World) (A : Option Addr) (m : Nat) (news : List Value) : Prop :=
  news.length = m ∧ (∀ u ∈ news, u.oneCell' = true) ∧ (0 < m → ∃ ad, A = some ad ∧ ∀ j u, news[j]? = some u → w.cell? (ad.add j) = some u)
theorem Sl.src {w : World} {A : Option Addr} {n c : Nat} {xs : List UInt8} (h : Sl w A n c xs) : Src w A n (xs.map bv) := by
  refine ⟨by simpa using h.1, fun u hu => ?_, fun hn => ?_⟩
  · obtain ⟨x, _, rfl⟩ := List.mem_map.1 hu; rfl
  · obtain ⟨b, o, rfl, hc⟩ := h.2.2 hn
    refine ⟨_, rfl, fun j u hu => ?_⟩
    have hj : j < n := by
      have := (List.getElem?_eq_some_iff.1 hu).1
      simpa [h.1] using this
    have hadd : (⟨b, o, none⟩ : Addr).add j = ⟨b, o + j, none⟩ := by unfold Addr.add; split <;> simp_all
    rw [hadd, hc j hj, ← hu, List.getElem?_map, List.getD_eq_getElem?_getD, List.getElem?_eq_getElem (by rw [h.1]; exact hj)]
    rfl
/-- The one cell that 'append(s, x)' lays first. -/
theorem Src.one (w : World) (x : Value) (t : TypeId) (h1 : x.oneCell' = true) : Src (w.alloc (.cells #[x] t)) (some ⟨w.heap.size, 0, none⟩) 1 [x] :=
  ⟨rfl, by simpa using h1, fun _ => ⟨_, rfl, cell_one_new w x t⟩⟩

section
variable {P : Program} {w : World}
theorem run_app {t e : TypeId} {z : Value} {bytes : Nat} (he : Elem P t e z bytes) (ty : TypeId)
    {base : Nat} {A : Option Addr} {n c : Nat} {vs : List Value} (hown : OwV w base e A n c vs)
    {A2 : Option Addr} {m c2 : Nat} {news : List Value} (hs : Src w A2 m news)
    (hb : (n + m) * bytes ≤ 140737488355328) (h63 : n + m ≤ maxLen) (hbase : base ≤ w.heap.size) :
    ∃ A' c' w', (Builtin.append_ #[t, t] ty #[.slice A n c, .slice A2 m c2]).run P w = .ok (.slice A' (n + m) c') w' ∧ OwV w' base e A' (n + m) c' (vs ++ news) ∧
      w.grownBy w' (blkOf A) ∧ (blkOf A' = blkOf A ∨ blkOf A' = some w.heap.size) := by
  obtain ⟨ht, hz1, i, hi, hz, hsz, hby⟩ := he
  have hob : ∀ (B : Option Addr) (k c : Nat), (Value.slice B k c).ownBlock = blkOf B := fun B _ _ => by cases B <;> rfl
  have form : ∀ (v : Value) (w' : World) (k : Nat) (xs : List Value), w'.ownsRow base e 1 v k xs → ∃ A' c', v = .slice A' k c' := by
    intro v w' k xs h
    rcases h.2 with ⟨rfl, rfl⟩ | ⟨g, cap, cur, rfl, _⟩
    · exact ⟨_, _, rfl⟩
    · exact ⟨_, _, rfl⟩
  have hm0 : A2 = none → m = 0 := fun e => by
    rcases Nat.eq_zero_or_pos m with h0 | h0
    · exact h0
    · obtain ⟨ad, h, _⟩ := hs.2.2 h0; rw [e] at h; cases h
  cases A2 with
  | none =>
    obtain rfl := hm0 rfl
    have hn : news = [] := List.eq_nil_of_length_eq_zero hs.1
    subst hn
    refine ⟨A, c, w, ?_, by simpa using hown, ⟨rfl, rfl, rfl, Nat.le_refl _, fun _ _ _ => rfl⟩, .inl rfl⟩
    rcases hown.2 with ⟨hv, rfl⟩ | ⟨g, cap, cur, hv, _, _, hnc, _⟩
    · injection hv with hA _ hc; subst hA; subst hc
      simp [Builtin.append_, run_underlying ht, sizeOf, typeInfo, hi, Builtin.lenOf, Builtin.firstCells]
    · injection hv with hA _ hc; subst hA; subst hc
      simp [Builtin.append_, run_underlying ht, sizeOf, typeInfo, hi, Builtin.lenOf, Builtin.firstCells, hnc, storeCells]
  | some ad =>
    have hcells : ∀ j u, news[j]? = some u → w.cell? (ad.add j) = some u := by
      intro j u hu
      have hj : 0 < m := by have := (List.getElem?_eq_some_iff.1 hu).1; rw [hs.1] at this; omega
      obtain ⟨ad', h, hc⟩ := hs.2.2 hj
      injection h with h; subst h
      exact hc j u hu
    obtain ⟨v', w', hr, h2, h3, _, h5⟩ := run_append_own_at (P := P) w base t ty e i z 1 bytes ht hi hz hsz hby hz1 (by omega) (.slice A n c) n vs hown ad m c2 news (by simpa using hs.1) hcells hs.2.1 h63 hb hbase
    obtain ⟨A', c', rfl⟩ := form v' w' _ _ h2
    rw [hob] at h3
    rw [hob, hob] at h5
    exact ⟨A', c', w', hr, h2, h3, h5⟩

/-- append at the head of a plain region's operations. -/
theorem wpList_app {ops : Array Oper} {rest : List Oper} {o : Oper} {a : Act} {Q : Exit → Act → World → Prop} (s x : Operand) {t e : TypeId} {z : Value} {bytes : Nat}
    {base : Nat} {A : Option Addr} {n c : Nat} {vs : List Value} {A2 : Option Addr} {m c2 : Nat} {news : List Value}
    (he : Elem P t e z bytes) (hgd : o.guard = none)
    (ho : o.op = .call { callee := .builtin .append, args := #[s, x], argTypes := #[t, t] })
    (hes : a.eval s = .slice A n c) (hex : a.eval x = .slice A2 m c2)
    (hown : OwV w base e A n c vs) (hs : Src w A2 m news)
    (hb : (n + m) * bytes ≤ 140737488355328) (h63 : n + m ≤ maxLen) (hbase : base ≤ w.heap.size)
    (h : ∀ A' c' w', OwV w' base e A' (n + m) c' (vs ++ news) → w.grownBy w' (blkOf A) → (blkOf A' = blkOf A ∨ blkOf A' = some w.heap.size) → wpList P ops Q rest (a.put o.dst (.slice A' (n + m) c')) w') :
    wpList P ops Q (o :: rest) a w := by
  refine wpList_plain hgd fun K hK => ?_
  obtain ⟨A', c', w', hr, h2, h3, h4⟩ := run_app (P := P) (w := w) he o.type hown (c2 := c2) hs hb h63 hbase
  unfold Oper.wp execOp
  simp only [ho, resolve, invoke, builtin, Sem.run_bind, Sem.run_pure, Result.andThen_ok, List.map_toArray, List.map_cons, List.map_nil, hes, hex, hr]
  exact hK _ _ (h A' c' w' h2 h3 h4)
end

section
variable {P : Program} {w : World}
/-- copy over a whole row of the call's own: as many cells as it has. -/
theorem wpList_copyall {ops : Array Oper} {rest : List Oper} {o : Oper} {a : Act} {Q : Exit → Act → World → Prop} (d s : Operand) {t e : TypeId} {z : Value} {bytes : Nat}
    {g n c : Nat} {cur : List Value} {A2 : Option Addr} {c2 : Nat} {news : List Value}
    (he : Elem P t e z bytes) (hgd : o.guard = none)
    (ho : o.op = .call { callee := .builtin .copy, args := #[d, s], argTypes := #[t, t] })
    (hed : a.eval d = .slice (some ⟨g, 0, none⟩) n c) (hes : a.eval s = .slice A2 n c2)
    (hg : w.heap[g]? = some (.cells cur.toArray e (0, 0))) (hcur : cur.length = n) (hs : Src w A2 n news)
    (h : ∀ w', w'.heap[g]? = some (.cells news.toArray e (0, 0)) → Mod (fun k => k = g) w w' → w'.heap.size = w.heap.size → wpList P ops Q rest (a.put o.dst (goInt n)) w') :
    wpList P ops Q (o :: rest) a w := by
  obtain ⟨ht, _, i, hi, _, hsz, _⟩ := he
  have hone : (P.info? e).map (·.size) = some 1 := by simp [hi, hsz]
  rcases Nat.eq_zero_or_pos n with h0 | h0
  · subst h0
    have hn : news = [] := List.eq_nil_of_length_eq_zero hs.1
    have hc : cur = [] := List.eq_nil_of_length_eq_zero hcur
    subst hn; subst hc
    exact wpList_copy_nothing hgd d s t t ho e ht hone _ _ _ _ _ _ hed hes (by simp) (h w hg (Mod.refl _ _) rfl)
  · obtain ⟨ad, rfl, hc⟩ := hs.2.2 h0
    refine wpList_copy_own hgd d s t t ho e ht hone g 0 n c ad n c2 hed hes cur.toArray e hg news (by rw [hs.1]; simp) hc (by rw [hs.1]; simp [hcur]) hs.2.1 ?_
    rw [hs.1]
    refine h _ ?_ ⟨rfl, rfl, rfl, by simp [World.setRow], fun k _ hk => setRow_other w g k _ hk⟩ (by simp [World.setRow])
    rw [setRow_heap w g _ _ e _ hg]
    simp [hcur]
end

end Go.Proofs.YtnbamljaiahmdaaGreat

namespace Go.Proofs.YtnbamljaiahmdaaGreat
open Go Go.RowKit

/-- The bytes of n, the least first. -/
def le : Nat → Nat → List UInt8
  | 0, _ => []
  | k + 1, n => UInt8.ofNat n :: le k (n / 256)

/-- The number that bytes make, the least first. -/
def unle : List UInt8 → Nat
  | [] => 0
  | b :: r => b.toNat + 256 * unle r

theorem le_snoc (j n : Nat) : le (j + 1) n = le j n ++ [UInt8.ofNat (n / 256 ^ j)] := by
  induction j generalizing n with
  | zero => simp [le]
  | succ j ih =>
    rw [le, ih (n / 256)]
    simp [le, Nat.div_div_eq_div_mul, Nat.pow_succ, Nat.mul_comm]
theorem le_length (j n : Nat) : (le j n).length = j := by
  induction j generalizing n with
  | zero => rfl
  | succ j ih => simp [le, ih]

theorem unle_snoc (l : List UInt8) (b : UInt8) : unle (l ++ [b]) = unle l + b.toNat * 256 ^ l.length := by
  induction l with
  | nil => simp [unle]
  | cons a l ih =>
    simp only [unle, List.cons_append, ih, List.length_cons, Nat.pow_succ, Nat.mul_add]
    rw [Nat.mul_left_comm, Nat.mul_comm 256 (256 ^ l.length), Nat.add_assoc]
theorem unle_lt (l : List UInt8) : unle l < 256 ^ l.length := by
  induction l with
  | nil => simp [unle]
  | cons a l ih =>
    have := a.toNat_lt
    simp only [unle, List.length_cons, Nat.pow_succ]
    omega

theorem unle_le (k n : Nat) (h : n < 256 ^ k) : unle (le k n) = n := by
  induction k generalizing n with
  | zero => simp at h; simp [le, unle, h]
  | succ k ih =>
    have hd : n / 256 < 256 ^ k := by
      rw [Nat.pow_succ] at h
      exact Nat.div_lt_of_lt_mul (by omega)
    simp only [le, unle, ih _ hd, UInt8.toNat_ofNat']
    omega

theorem byte_at (n : Int) (j : Nat) (h0 : 0 ≤ n) : n / 2 ^ (8 * j) % 256 = ((UInt8.ofNat (n.toNat / 256 ^ j)).toNat : Int) := by
  obtain ⟨m, rfl⟩ := Int.eq_ofNat_of_zero_le h0
  rw [Int.toNat_natCast]
  have h2 : (2 : Nat) ^ (8 * j) = 256 ^ j := by rw [Nat.pow_mul]
  have h3 : ((2 : Int) ^ (8 * j)) = ((256 ^ j : Nat) : Int) := by rw [← h2]; norm_cast
  rw [h3, UInt8.toNat_ofNat', Int.natCast_emod, Int.natCast_ediv]
  rfl

theorem bits_or_i64 (a b : Nat) (ha : a < 9223372036854775808) (hb : b < 9223372036854775808) : bits .or .i64 (a : Int) (b : Int) = ((a ||| b : Nat) : Int) := by
  have hx : a ||| b < 2 ^ 63 := Nat.or_lt_two_pow (by omega) (by omega)
  have e : ∀ c : Nat, c < 9223372036854775808 → (BitVec.ofInt 64 (c : Int)).toNat = c := fun c hc => by
    rw [BitVec.ofInt_natCast, BitVec.toNat_ofNat]; exact Nat.mod_eq_of_lt (by omega)
  show IntKind.i64.wrap ((BitVec.ofInt 64 (a : Int) ||| BitVec.ofInt 64 (b : Int)).toNat : Int) = _
  rw [BitVec.toNat_or, e a ha, e b hb, IntKind.wrap_i64]
  omega

theorem or_disjoint (a x k : Nat) (ha : a < 2 ^ k) : a ||| x * 2 ^ k = a + x * 2 ^ k := by
  rw [Nat.or_comm, Nat.mul_comm, ← Nat.two_pow_add_eq_or_of_lt ha, Nat.add_comm]

/-- One round of a number's reading: at most four bytes. -/
theorem or_round (xs : List UInt8) (j : Nat) (hj : j < xs.length) (h3 : j ≤ 3) :
    bits .or .i64 (unle (xs.take j) : Int) (wrap64 (wrap64 ((xs[j]?.getD 0).toNat : Int) * 2 ^ (8 * j))) = (unle (xs.take (j + 1)) : Int) := by
  have hx : xs[j]?.getD 0 = xs[j] := by rw [List.getElem?_eq_getElem hj]; rfl
  rw [hx]
  have hlt := (xs[j]).toNat_lt
  have hpow : (2 : Nat) ^ (8 * j) = 256 ^ j := by rw [Nat.pow_mul]
  have hle : (256 : Nat) ^ j ≤ 16777216 := by
    have : (256 : Nat) ^ j ≤ 256 ^ 3 := Nat.pow_le_pow_right (by omega) h3
    omega
  have hu := unle_lt (xs.take j)
  have hlen : (xs.take j).length = j := by simp; omega
  rw [hlen] at hu
  have hprod : xs[j].toNat * 256 ^ j ≤ 255 * 16777216 := Nat.mul_le_mul (by omega) hle
  have hw : wrap64 (wrap64 (xs[j].toNat : Int) * 2 ^ (8 * j)) = ((xs[j].toNat * 2 ^ (8 * j) : Nat) : Int) := by
    have e1 : wrap64 (xs[j].toNat : Int) = (xs[j].toNat : Int) := by unfold wrap64; omega
    rw [e1]
    have e2 : ((xs[j].toNat : Int) * 2 ^ (8 * j)) = ((xs[j].toNat * 2 ^ (8 * j) : Nat) : Int) := by norm_cast
    rw [e2, hpow]
    generalize xs[j].toNat * 256 ^ j = q at *
    unfold wrap64
    omega
  rw [hw, bits_or_i64 _ _ (by omega) (by rw [hpow]; omega), or_disjoint _ _ _ (by rw [hpow]; exact hu)]
  rw [List.take_succ_eq_append_getElem hj, unle_snoc, hlen, hpow]
end Go.Proofs.YtnbamljaiahmdaaGreat

namespace Go.Proofs.YtnbamljaiahmdaaGreat
open Go Go.RowKit

theorem byteElem : Elem Tryz.prog 28 5 (.int .u8 0) 1 := Elem.mk_ Tryz.underlying28 rfl (by kernel_rfl)

theorem run_makeBytes (n : Nat) (hn : n ≤ 140737488355328) (w : World) :
    (Instr.makeSlice 28 (.int .i64 (n : Int)) (.int .i64 (n : Int))).run Tryz.prog w =
      .ok (.slice (some ⟨w.heap.size, 0, none⟩) n n) (w.alloc (.cells (madeCells #[.int .u8 0] n) 5)) := by
  obtain ⟨ht, _, i, hi, hz, hsz, hby⟩ := byteElem
  have hb : (i.bytes : Int) * (n : Int) ≤ 281474976710656 := by rw [hby]; omega
  have hr := run_make (P := Tryz.prog) w 28 5 i (.int .u8 0) ht hi hz .i64 .i64 n n (by omega) (by omega) hb (by omega)
  simpa [hsz, Value.cells] using hr

set_option maxHeartbeats 400000 in
theorem clone_ok (w : World) (A : Option Addr) (n c : Nat) (xs : List UInt8) (h : Sl w A n c xs) (hn : n ≤ 140737488355328) :
    Calls Tryz.prog 88 #[.slice A n c] w fun e w' => e = .returned (.slice (some ⟨w.heap.size, 0, none⟩) n n) ∧
      w'.heap[w.heap.size]? = some (.cells (xs.map bv).toArray 5 (0, 0)) ∧ w'.heap.size = w.heap.size + 1 ∧ Mod (fun _ => False) w w' := by
  have hmk := fun W => run_makeBytes n hn W
  go_enter Tryz.func88, Tryz.ntmps88
  go_wp2_with (with_reducible refine wpList_copyall (.tmp 7) (.tmp 8) (g := w.heap.size) (n := n) (cur := List.replicate n (.int .u8 0)) (news := xs.map bv) byteElem rfl rfl rfl rfl ?hg (by simp) ?hs ?_)
  case hg =>
    rw [heap_alloc_new]
    have e : madeCells #[Value.int .u8 0] n = (List.replicate n (Value.int .u8 0)).toArray := by
      rw [← toList_madeCells_one]
    rw [e]
  case hs => exact (h.alloc _).src
  intro w1 hb hm hz
  have hmod : Mod (fun _ => False) w w1 := ((Mod.refl (fun _ => False) w).alloc _).trans hm (fun i hi e => by omega)
  have Hb := Lib.hid hb
  have Hz := Lib.hid hz
  clear hb hz hmk
  go_wp2
  go_ret
  exact ⟨rfl, Hb.out, Hz.out, hmod⟩

/-- A Writer at block g, whose bytes lie in a row of the call's own and are xs. -/
def Wr (w : World) (base g : Nat) (A : Option Addr) (n c : Nat) (xs : List UInt8) : Prop :=
  base ≤ g ∧ (∃ T, (T = 126 ∨ T = 128) ∧ w.heap[g]? = some (.cells #[.slice A n c] T (0, 0))) ∧ OwV w base 5 A n c (xs.map bv)

theorem Wr.cell {w : World} {base g : Nat} {A : Option Addr} {n c : Nat} {xs : List UInt8} (h : Wr w base g A n c xs) : w.cell? ⟨g, 0, none⟩ = some (.slice A n c) := by
  obtain ⟨_, _, e⟩ := h.2.1; rw [cell_of_row w g 0 _ _ _ e]; rfl
theorem Wr.frozen {w : World} {base g : Nat} {A : Option Addr} {n c : Nat} {xs : List UInt8} (h : Wr w base g A n c xs) : w.frozen? ⟨g, 0, none⟩ = false := by
  obtain ⟨_, _, this⟩ := h.2.1
  simp [World.frozen?, this]
theorem Wr.lt {w : World} {base g : Nat} {A : Option Addr} {n c : Nat} {xs : List UInt8} (h : Wr w base g A n c xs) : g < w.heap.size := by obtain ⟨_, _, e⟩ := h.2.1; exact (Array.getElem?_eq_some_iff.1 e).1
theorem Wr.ne {w : World} {base g : Nat} {A : Option Addr} {n c : Nat} {xs : List UInt8} (h : Wr w base g A n c xs) : blkOf A ≠ some g := by
  intro e
  obtain ⟨_, cur, hc, _⟩ := h.2.2.block e
  obtain ⟨T, hT, e'⟩ := h.2.1
  rw [e'] at hc
  injection hc with hc
  injection hc with _ ht
  rcases hT with rfl | rfl <;> exact absurd ht (by decide)
theorem Wr.mod {F : Nat → Prop} {w w' : World} {base g : Nat} {A : Option Addr} {n c : Nat} {xs : List UInt8} (h : Wr w base g A n c xs) (hm : Mod F w w') (hg : ¬ F g) (hF : ∀ k, blkOf A = some k → ¬ F k) : Wr w' base g A n c xs :=
  ⟨h.1, h.2.1.imp fun _ e => ⟨e.1, (hm.block g h.lt hg).trans e.2⟩, h.2.2.mod hm hF⟩

/-- What a Writer's step may turn: the Writer itself and the row of its bytes. -/
def WF (g : Nat) (A : Option Addr) (k : Nat) : Prop := k = g ∨ blkOf A = some k

theorem Wr.wf {w : World} {base g : Nat} {A : Option Addr} {n c : Nat} {xs : List UInt8} (h : Wr w base g A n c xs) {k : Nat} (hk : k < base) : ¬ WF g A k := by
  rintro (rfl | e)
  · have := h.1; omega
  · have := (h.2.2.lt k e).1; omega
/-- A Writer from 'base' on: a step of it turns nothing below. -/
theorem Wr.step {w0 w w' : World} {base g : Nat} {A : Option Addr} {n c : Nat} {xs : List UInt8} (h : Wr w base g A n c xs) (hm0 : Mod (fun k => base ≤ k) w0 w) (hm : Mod (WF g A) w w') : Mod (fun k => base ≤ k) w0 w' :=
  hm0.trans hm (fun i _ hF => by
    rcases Nat.lt_or_ge i base with hlt | hge
    · exact absurd hF (h.wf hlt)
    · exact hge)

set_option maxHeartbeats 400000 in
theorem add_ok (w : World) (base g : Nat) (A : Option Addr) (n c : Nat) (xs : List UInt8) (h : Wr w base g A n c xs) (B : Option Addr) (m d : Nat) (ys : List UInt8) (hs : Sl w B m d ys)
    (hb : n + m ≤ 1000000) :
    Calls Tryz.prog 96 #[.pointer (some ⟨g, 0, none⟩), .slice B m d] w fun e w' => e = .returned (.tuple #[]) ∧
      ∃ A' c', Wr w' base g A' (n + m) c' (xs ++ ys) ∧ Mod (WF g A) w w' ∧ (blkOf A' = blkOf A ∨ blkOf A' = some w.heap.size) := by
  have h1 := h.cell
  have h2 := h.frozen
  have hlt := h.lt
  have hne := h.ne
  have Hne := Lib.hid hne
  clear hne
  obtain ⟨T, hTT, hTb⟩ := h.2.1
  have HTT := Lib.hid hTT
  have HTb := Lib.hid hTb
  clear hTT hTb
  go_enter Tryz.func96, Tryz.ntmps96
  have hown0 := h.2.2
  have hsrc := hs.src
  have hbase : base ≤ w.heap.size := Nat.le_trans h.1 (Nat.le_of_lt hlt)
  have hml : n + m ≤ maxLen := by unfold maxLen; omega
  go_wp2_with (at_builtin; refine wpList_app (.tmp 8) (.tmp 9) byteElem rfl rfl rfl rfl hown0 hsrc (by omega) hml hbase ?_)
  intro A' c' w' hown hgr hat
  have h3 : w'.cell? ⟨g, 0, none⟩ = some (.slice A n c) := hgr.cell h1 (fun e => Hne.out e.symm)
  have h4 : w'.frozen? ⟨g, 0, none⟩ = false := (hgr.frozen_far ⟨g, 0, none⟩ hlt (fun e => Hne.out e.symm)).trans h2
  have hg3 : w'.heap[g]? = some (.cells #[.slice A n c] T (0, 0)) := (hgr.block g hlt (fun e => Hne.out e.symm)).trans HTb.out
  have Hg3 := Lib.hid hg3
  have Hat := Lib.hid hat
  clear hg3 hat
  go_wp2
  go_end0
  have hm1 : Mod (WF g A) w w' := (Mod.refl (WF g A) w).grown hgr (fun k e _ => .inr e)
  have hng : blkOf A' ≠ some g := by
    rcases Hat.out with e | e
    · rw [e]; exact Hne.out
    · rw [e]; intro e'; injection e' with e'; omega
  refine ⟨rfl, A', c', ⟨h.1, ?_, ?_⟩, hm1.setCell (fun _ => .inl rfl) _, Hat.out⟩
  · exact ⟨T, HTT.out, by rw [heap_set Hg3.out]; rfl⟩
  · have := hown.mod (((Mod.refl (fun k => k = g) w').setCell (p := ⟨g, 0, none⟩) (fun _ => rfl) (.slice A' (n + m) c'))) (fun k e1 e2 => hng (by rw [e1, e2]))
    simpa using this

theorem mayWidth_ok (w : World) (n : Int) (b : Bool) (hb : b = (decide (n = 1) || decide (n = 2) || decide (n = 4))) :
    Calls Tryz.prog 95 #[.int .i64 n] w fun e w' => e = .returned (.bool b) ∧ w = w' := by
  by_cases h1 : n = 1
  · subst h1; simp at hb; subst hb
    go_enter Tryz.func95, Tryz.ntmps95
    go_wp2
    go_ret
    exact ⟨rfl, rfl⟩
  by_cases h2 : n = 2
  · subst h2; simp at hb; subst hb
    go_enter Tryz.func95, Tryz.ntmps95
    go_wp2
    go_ret
    exact ⟨rfl, rfl⟩
  by_cases h4 : n = 4
  · subst h4; simp at hb; subst hb
    go_enter Tryz.func95, Tryz.ntmps95
    go_wp2
    go_ret
    exact ⟨rfl, rfl⟩
  · simp [h1, h2, h4] at hb; subst hb
    have g1 : (n == 1) = false := by simpa using h1
    have g2 : (n == 2) = false := by simpa using h2
    have g4 : (n == 4) = false := by simpa using h4
    clear h1 h2 h4
    go_enter Tryz.func95, Tryz.ntmps95
    go_wp2
    go_ret
    exact ⟨rfl, rfl⟩

def widthOk (k : Int) : Bool := decide (k = 1) || decide (k = 2) || decide (k = 4)

set_option maxHeartbeats 400000 in
theorem put_nil (w : World) (n k : Int) :
    Calls Tryz.prog 85 #[.pointer none, .int .i64 n, .int .i64 k] w fun e w' => e = .returned (.int .i64 1) ∧ w = w' := by
  go_enter Tryz.func85, Tryz.ntmps85
  go_wp2_with fail
  go_ret
  exact ⟨rfl, rfl⟩

set_option maxHeartbeats 400000 in
theorem put_no (w : World) (g : Nat) (n k : Int) (h : widthOk k = false ∨ n < 0 ∨ (256 : Int) ^ k.toNat ≤ n) :
    Calls Tryz.prog 85 #[.pointer (some ⟨g, 0, none⟩), .int .i64 n, .int .i64 k] w fun e w' => e = .returned (.int .i64 1) ∧ w = w' := by
  have hm := mayWidth_ok w k (widthOk k) rfl
  by_cases hk : widthOk k = false
  · rw [hk] at hm
    have Hm := Lib.hid hm
    clear hm
    go_enter Tryz.func85, Tryz.ntmps85
    go_wp2_with (go_at_call 95; refine Hm.out.mono ?_; rintro e w' ⟨rfl, rfl⟩)
    go_ret
    exact ⟨rfl, rfl⟩
  · have hk1 : widthOk k = true := by simpa using hk
    rw [hk1] at hm
    have Hm := Lib.hid hm
    have hk3 : k = 1 ∨ k = 2 ∨ k = 4 := by simpa [widthOk, or_assoc] using hk1
    have h' : n < 0 ∨ (256 : Int) ^ k.toNat ≤ n := by
      rcases h with h | h
      · exact absurd h hk
      · exact h
    clear hm hk h hk1
    by_cases hn : n < 0
    · have hd : decide (n < 0) = true := by simpa using hn
      clear h'
      rcases hk3 with rfl | rfl | rfl
      all_goals
        go_enter Tryz.func85, Tryz.ntmps85
        go_wp2_with (go_at_call 95; refine Hm.out.mono ?_; rintro e w' ⟨rfl, rfl⟩)
        go_ret
        exact ⟨rfl, rfl⟩
    · have hd : decide (n < 0) = false := by simpa using hn
      have h'' := h'.resolve_left hn
      clear h'
      rcases hk3 with rfl | rfl | rfl
      all_goals
        simp at h''
        have hn' : 0 ≤ n := by omega
        go_enter Tryz.func85, Tryz.ntmps85
        go_wp2_with (go_at_call 95; refine Hm.out.mono ?_; rintro e w' ⟨rfl, rfl⟩)
        go_ret
        exact ⟨rfl, rfl⟩

theorem widthOk_nat {k : Nat} (h : widthOk k = true) : k = 1 ∨ k = 2 ∨ k = 4 := by
  unfold widthOk at h
  simp only [Bool.or_eq_true, decide_eq_true_eq] at h
  omega

/-- Where a Writer's bytes may have gone: they lie where they lay, or in new memory. -/
def Hence (w : World) (A A' : Option Addr) : Prop := blkOf A' = blkOf A ∨ ∃ q, blkOf A' = some q ∧ w.heap.size ≤ q

theorem Wr.alloc {w : World} {base g : Nat} {A : Option Addr} {n c : Nat} {xs : List UInt8} (h : Wr w base g A n c xs) (o : Obj) : Wr (w.alloc o) base g A n c xs :=
  h.mod ((Mod.refl (fun _ => False) w).alloc o) id (fun _ _ => id)

theorem Hence.step {w wr : World} {A A' A2 : Option Addr} (h : Hence w A A') (hs : w.heap.size ≤ wr.heap.size) (h2 : blkOf A2 = blkOf A' ∨ blkOf A2 = some wr.heap.size) : Hence w A A2 := by
  rcases h2 with e | e
  · rcases h with e' | ⟨q, e', hq⟩
    · exact .inl (e.trans e')
    · exact .inr ⟨q, e.trans e', hq⟩
  · exact .inr ⟨_, e, hs⟩
theorem Hence.trans {w wr : World} {A A' A2 : Option Addr} (h : Hence w A A') (hs : w.heap.size ≤ wr.heap.size) (h2 : Hence wr A' A2) : Hence w A A2 := by
  rcases h2 with e | ⟨q, e, hq⟩
  · rcases h with e' | ⟨q, e', hq⟩
    · exact .inl (e.trans e')
    · exact .inr ⟨q, e.trans e', hq⟩
  · exact .inr ⟨_, e, by omega⟩
/-- What a step from A' on may turn was A's, or is new. -/
theorem Hence.wf {w : World} {g : Nat} {A A' : Option Addr} (h : Hence w A A') : ∀ k, k < w.heap.size → WF g A' k → WF g A k := by
  rintro k hk (rfl | e)
  · exact .inl rfl
  · rcases h with e' | ⟨q, e', hq⟩
    · exact .inr (e'.symm.trans e)
    · rw [e'] at e; injection e with e; omega

set_option maxHeartbeats 800000 in
theorem put_ok1 (w : World) (base g : Nat) (A : Option Addr) (m c : Nat) (xs : List UInt8) (h : Wr w base g A m c xs) (hb : m ≤ 900000) (n : Int) (hn0 : 0 ≤ n) (hn : n < 256 ^ 1) :
    Calls Tryz.prog 85 #[.pointer (some ⟨g, 0, none⟩), .int .i64 n, .int .i64 1] w fun e w' => e = .returned (.int .i64 0) ∧
      ∃ A' c', Wr w' base g A' (m + 1) c' (xs ++ le 1 n.toNat) ∧ Mod (WF g A) w w' ∧ Hence w A A' := by
  have Hm := Lib.hid (mayWidth_ok w 1 true (by decide))
  have hd : decide (n < 0) = false := by simpa using hn0
  simp at hn
  go_enter Tryz.func85, Tryz.ntmps85
  go_wp2_with (go_at_call 95; refine Hm.out.mono ?_; rintro e w' ⟨rfl, rfl⟩)
  clear Hm hd
  go_loopw [27] (fun i wr => ∃ (j : Nat) (A' : Option Addr) (c' : Nat), j ≤ 1 ∧ i = .int .i64 j ∧ Wr wr base g A' (m + j) c' (xs ++ le j n.toNat) ∧ Mod (WF g A) w wr ∧ Hence w A A') (fun i _ => 4 - (intOf i).toNat)
  case atStart => exact ⟨0, A, c, by omega, rfl, by simpa [le] using h, Mod.refl _ _, .inl rfl⟩
  case round =>
    obtain ⟨j, A', c', hj, rfl, hw, hmod, hat⟩ := hrel
    by_cases hlt : j < 1
    · go_wp2_with fail
      rw [byte_at n j hn0]
      refine (add_ok _ base g A' (m + j) c' _ (hw.alloc _) _ 1 1 [_] (Sl.one wr _ _) (by omega)).mono ?_
      rintro e w2 ⟨rfl, A2, c2, hw2, hm2, hat2⟩
      have hw3 : Wr w2 base g A2 (m + (j + 1)) c2 (xs ++ le (j + 1) n.toNat) := by
        rw [le_snoc]
        simpa [Nat.add_assoc] using hw2
      have hm3 : Mod (WF g A) w w2 := (hmod.alloc _).trans hm2 hat.wf
      have hat3 : Hence w A A2 := hat.trans hmod.size (hat2.elim .inl (fun e => .inr ⟨_, e, by simp⟩))
      clear hw2 hm2 hat2
      go_wp2
      go_roundw
      case rel => exact ⟨j + 1, A2, c2, by omega, by go_num, hw3, hm3, hat3⟩
      case measure => simp [intOf]; omega
    · obtain rfl : j = 1 := by omega
      go_wp2
      go_ret
      exact ⟨rfl, A', c', hw, hmod, hat⟩

set_option maxHeartbeats 800000 in
theorem put_ok2 (w : World) (base g : Nat) (A : Option Addr) (m c : Nat) (xs : List UInt8) (h : Wr w base g A m c xs) (hb : m ≤ 900000) (n : Int) (hn0 : 0 ≤ n) (hn : n < 256 ^ 2) :
    Calls Tryz.prog 85 #[.pointer (some ⟨g, 0, none⟩), .int .i64 n, .int .i64 2] w fun e w' => e = .returned (.int .i64 0) ∧
      ∃ A' c', Wr w' base g A' (m + 2) c' (xs ++ le 2 n.toNat) ∧ Mod (WF g A) w w' ∧ Hence w A A' := by
  have Hm := Lib.hid (mayWidth_ok w 2 true (by decide))
  have hd : decide (n < 0) = false := by simpa using hn0
  simp at hn
  go_enter Tryz.func85, Tryz.ntmps85
  go_wp2_with (go_at_call 95; refine Hm.out.mono ?_; rintro e w' ⟨rfl, rfl⟩)
  clear Hm hd
  go_loopw [27] (fun i wr => ∃ (j : Nat) (A' : Option Addr) (c' : Nat), j ≤ 2 ∧ i = .int .i64 j ∧ Wr wr base g A' (m + j) c' (xs ++ le j n.toNat) ∧ Mod (WF g A) w wr ∧ Hence w A A') (fun i _ => 4 - (intOf i).toNat)
  case atStart => exact ⟨0, A, c, by omega, rfl, by simpa [le] using h, Mod.refl _ _, .inl rfl⟩
  case round =>
    obtain ⟨j, A', c', hj, rfl, hw, hmod, hat⟩ := hrel
    by_cases hlt : j < 2
    · go_wp2_with fail
      rw [byte_at n j hn0]
      refine (add_ok _ base g A' (m + j) c' _ (hw.alloc _) _ 1 1 [_] (Sl.one wr _ _) (by omega)).mono ?_
      rintro e w2 ⟨rfl, A2, c2, hw2, hm2, hat2⟩
      have hw3 : Wr w2 base g A2 (m + (j + 1)) c2 (xs ++ le (j + 1) n.toNat) := by
        rw [le_snoc]
        simpa [Nat.add_assoc] using hw2
      have hm3 : Mod (WF g A) w w2 := (hmod.alloc _).trans hm2 hat.wf
      have hat3 : Hence w A A2 := hat.trans hmod.size (hat2.elim .inl (fun e => .inr ⟨_, e, by simp⟩))
      clear hw2 hm2 hat2
      go_wp2
      go_roundw
      case rel => exact ⟨j + 1, A2, c2, by omega, by go_num, hw3, hm3, hat3⟩
      case measure => simp [intOf]; omega
    · obtain rfl : j = 2 := by omega
      go_wp2
      go_ret
      exact ⟨rfl, A', c', hw, hmod, hat⟩

set_option maxHeartbeats 800000 in
theorem put_ok4 (w : World) (base g : Nat) (A : Option Addr) (m c : Nat) (xs : List UInt8) (h : Wr w base g A m c xs) (hb : m ≤ 900000) (n : Int) (hn0 : 0 ≤ n) (hn : n < 256 ^ 4) :
    Calls Tryz.prog 85 #[.pointer (some ⟨g, 0, none⟩), .int .i64 n, .int .i64 4] w fun e w' => e = .returned (.int .i64 0) ∧
      ∃ A' c', Wr w' base g A' (m + 4) c' (xs ++ le 4 n.toNat) ∧ Mod (WF g A) w w' ∧ Hence w A A' := by
  have Hm := Lib.hid (mayWidth_ok w 4 true (by decide))
  have hd : decide (n < 0) = false := by simpa using hn0
  simp at hn
  go_enter Tryz.func85, Tryz.ntmps85
  go_wp2_with (go_at_call 95; refine Hm.out.mono ?_; rintro e w' ⟨rfl, rfl⟩)
  clear Hm hd
  go_loopw [27] (fun i wr => ∃ (j : Nat) (A' : Option Addr) (c' : Nat), j ≤ 4 ∧ i = .int .i64 j ∧ Wr wr base g A' (m + j) c' (xs ++ le j n.toNat) ∧ Mod (WF g A) w wr ∧ Hence w A A') (fun i _ => 4 - (intOf i).toNat)
  case atStart => exact ⟨0, A, c, by omega, rfl, by simpa [le] using h, Mod.refl _ _, .inl rfl⟩
  case round =>
    obtain ⟨j, A', c', hj, rfl, hw, hmod, hat⟩ := hrel
    by_cases hlt : j < 4
    · go_wp2_with fail
      rw [byte_at n j hn0]
      refine (add_ok _ base g A' (m + j) c' _ (hw.alloc _) _ 1 1 [_] (Sl.one wr _ _) (by omega)).mono ?_
      rintro e w2 ⟨rfl, A2, c2, hw2, hm2, hat2⟩
      have hw3 : Wr w2 base g A2 (m + (j + 1)) c2 (xs ++ le (j + 1) n.toNat) := by
        rw [le_snoc]
        simpa [Nat.add_assoc] using hw2
      have hm3 : Mod (WF g A) w w2 := (hmod.alloc _).trans hm2 hat.wf
      have hat3 : Hence w A A2 := hat.trans hmod.size (hat2.elim .inl (fun e => .inr ⟨_, e, by simp⟩))
      clear hw2 hm2 hat2
      go_wp2
      go_roundw
      case rel => exact ⟨j + 1, A2, c2, by omega, by go_num, hw3, hm3, hat3⟩
      case measure => simp [intOf]; omega
    · obtain rfl : j = 4 := by omega
      go_wp2
      go_ret
      exact ⟨rfl, A', c', hw, hmod, hat⟩

theorem put_ok (w : World) (base g : Nat) (A : Option Addr) (m c : Nat) (xs : List UInt8) (h : Wr w base g A m c xs) (hb : m ≤ 900000) (n k : Int) (hk : widthOk k = true) (hn0 : 0 ≤ n) (hn : n < 256 ^ k.toNat) :
    Calls Tryz.prog 85 #[.pointer (some ⟨g, 0, none⟩), .int .i64 n, .int .i64 k] w fun e w' => e = .returned (.int .i64 0) ∧
      ∃ A' c', Wr w' base g A' (m + k.toNat) c' (xs ++ le k.toNat n.toNat) ∧ Mod (WF g A) w w' ∧ Hence w A A' := by
  have hk3 : k = 1 ∨ k = 2 ∨ k = 4 := by simpa [widthOk, or_assoc] using hk
  rcases hk3 with rfl | rfl | rfl
  · exact put_ok1 w base g A m c xs h hb n hn0 hn
  · exact put_ok2 w base g A m c xs h hb n hn0 hn
  · exact put_ok4 w base g A m c xs h hb n hn0 hn
end Go.Proofs.YtnbamljaiahmdaaGreat

namespace Go.Proofs.YtnbamljaiahmdaaGreat
open Go Go.RowKit

theorem lay_nil (w : World) (B : Option Addr) (m d : Nat) :
    Calls Tryz.prog 87 #[.pointer none, .slice B m d] w fun e w' => e = .returned (.int .i64 1) ∧ w = w' := by
  go_enter Tryz.func87, Tryz.ntmps87
  go_wp2_with fail
  go_ret
  exact ⟨rfl, rfl⟩

theorem lay_long (w : World) (g : Nat) (B : Option Addr) (m d : Nat) (hm : 255 < m) :
    Calls Tryz.prog 87 #[.pointer (some ⟨g, 0, none⟩), .slice B m d] w fun e w' => e = .returned (.int .i64 2) ∧ w = w' := by
  go_enter Tryz.func87, Tryz.ntmps87
  go_wp2_with fail
  go_ret
  exact ⟨rfl, rfl⟩

theorem Hence.refl (w : World) (A : Option Addr) : Hence w A A := .inl rfl

theorem byte_len (m : Nat) (h : m ≤ 255) : (m : Int) = ((UInt8.ofNat m).toNat : Int) := by
  rw [UInt8.toNat_ofNat']
  have : m % 2 ^ 8 = m := Nat.mod_eq_of_lt (by omega)
  rw [this]

set_option maxHeartbeats 400000 in
theorem lay_ok (w : World) (base g : Nat) (A : Option Addr) (n c : Nat) (xs : List UInt8) (h : Wr w base g A n c xs) (hb : n ≤ 900000)
    (B : Option Addr) (m d : Nat) (ys : List UInt8) (hs : Sl w B m d ys) (hm : m ≤ 255) (hsep : ∀ k, blkOf B = some k → 0 < m → ¬ WF g A k) :
    Calls Tryz.prog 87 #[.pointer (some ⟨g, 0, none⟩), .slice B m d] w fun e w' => e = .returned (.int .i64 0) ∧
      ∃ A' c', Wr w' base g A' (n + (m + 1)) c' (xs ++ (UInt8.ofNat m :: ys)) ∧ Mod (WF g A) w w' ∧ Hence w A A' := by
  go_enter Tryz.func87, Tryz.ntmps87
  go_wp2_with fail
  rw [show Value.int .u8 (m : Int) = bv (UInt8.ofNat m) from congrArg _ (byte_len m hm)]
  refine (add_ok _ base g A n c _ (h.alloc _) _ 1 1 [_] (Sl.one w _ _) (by omega)).mono ?_
  rintro e w2 ⟨rfl, A2, c2, hw2, hm2, hat2⟩
  have hm3 : Mod (WF g A) w w2 := ((Mod.refl _ _).alloc _).trans hm2 (fun _ _ h => h)
  have hat3 : Hence w A A2 := (Hence.refl w A).trans (Nat.le_refl _) (hat2.elim .inl (fun e => .inr ⟨_, e, by simp⟩))
  have hs2 : Sl w2 B m d ys := hs.mod hm3 hsep
  clear hm2 hat2
  go_wp2_with fail
  refine (add_ok _ base g A2 (n + 1) c2 _ hw2 B m d ys hs2 (by omega)).mono ?_
  rintro e w4 ⟨rfl, A4, c4, hw4, hm4, hat4⟩
  have hw5 : Wr w4 base g A4 (n + (m + 1)) c4 (xs ++ (UInt8.ofNat m :: ys)) := by
    rw [show n + (m + 1) = n + 1 + m by omega]
    simpa using hw4
  have hm5 : Mod (WF g A) w w4 := hm3.trans hm4 hat3.wf
  have hat5 : Hence w A A4 := hat3.trans hm3.size (hat4.elim .inl (fun e => .inr ⟨_, e, by simp⟩))
  clear hat4 hw4 hm4
  go_wp2
  go_ret
  exact ⟨rfl, A4, c4, hw5, hm5, hat5⟩

set_option maxHeartbeats 400000 in
theorem bytes_nil (w : World) :
    Calls Tryz.prog 75 #[.pointer none] w fun e w' => e = .returned (.slice none 0 0) ∧ w = w' := by
  go_enter Tryz.func75, Tryz.ntmps75
  go_wp2_with fail
  go_ret
  exact ⟨rfl, rfl⟩

/-- A fresh row that holds xs. -/
def Fresh (w w' : World) (xs : List UInt8) : Prop :=
  w'.heap[w.heap.size]? = some (.cells (xs.map bv).toArray 5 (0, 0)) ∧ w'.heap.size = w.heap.size + 1 ∧ Mod (fun _ => False) w w'

theorem bytes_ok (w : World) (base g : Nat) (A : Option Addr) (n c : Nat) (xs : List UInt8) (h : Wr w base g A n c xs) (hb : n ≤ 1000000) :
    Calls Tryz.prog 75 #[.pointer (some ⟨g, 0, none⟩)] w fun e w' => e = .returned (.slice (some ⟨w.heap.size, 0, none⟩) n n) ∧ Fresh w w' xs := by
  have h1 := h.cell
  have hsl := h.2.2.sl
  go_enter Tryz.func75, Tryz.ntmps75
  go_wp2_with fail
  refine (clone_ok _ A n c xs hsl (by omega)).mono ?_
  rintro e w1 ⟨rfl, hb1, hz1, hm1⟩
  have Hb := Lib.hid hb1
  have Hz := Lib.hid hz1
  clear hb1 hz1 h1
  go_wp2
  go_ret
  exact ⟨rfl, Hb.out, Hz.out, hm1⟩

/-- A Reader at block g whose bytes left are xs, in the row at A. -/
def Rd (w : World) (g : Nat) (A : Option Addr) (n c : Nat) (xs : List UInt8) : Prop :=
  w.heap[g]? = some (.cells #[.slice A n c] 151 (0, 0)) ∧ Sl w A n c xs ∧ (∀ k, blkOf A = some k → k ≠ g)
theorem Rd.cell {w : World} {g : Nat} {A : Option Addr} {n c : Nat} {xs : List UInt8} (h : Rd w g A n c xs) : w.cell? ⟨g, 0, none⟩ = some (.slice A n c) := by
  rw [cell_of_row w g 0 _ _ _ h.1]; rfl
theorem Rd.frozen {w : World} {g : Nat} {A : Option Addr} {n c : Nat} {xs : List UInt8} (h : Rd w g A n c xs) : w.frozen? ⟨g, 0, none⟩ = false := frozen_of_block h.1 0
theorem Rd.lt {w : World} {g : Nat} {A : Option Addr} {n c : Nat} {xs : List UInt8} (h : Rd w g A n c xs) : g < w.heap.size := (Array.getElem?_eq_some_iff.1 h.1).1
theorem Rd.mod {F : Nat → Prop} {w w' : World} {g : Nat} {A : Option Addr} {n c : Nat} {xs : List UInt8} (h : Rd w g A n c xs) (hm : Mod F w w') (hg : ¬ F g) (hF : ∀ k, blkOf A = some k → 0 < n → ¬ F k) : Rd w' g A n c xs :=
  ⟨(hm.block g h.lt hg).trans h.1, h.2.1.mod hm hF, h.2.2⟩

theorem newReader_ok (w : World) (A : Option Addr) (n c : Nat) (xs : List UInt8) (h : Sl w A n c xs) (hn : n ≤ 140737488355328) :
    Calls Tryz.prog 79 #[.slice A n c] w fun e w' => e = .returned (.pointer (some ⟨w.heap.size + 1, 0, none⟩)) ∧
      Rd w' (w.heap.size + 1) (some ⟨w.heap.size, 0, none⟩) n n xs ∧ w'.heap.size = w.heap.size + 2 ∧ Mod (fun _ => False) w w' := by
  go_enter Tryz.func79, Tryz.ntmps79
  go_wp2_with fail
  refine (clone_ok _ A n c xs h hn).mono ?_
  rintro e w1 ⟨rfl, hb1, hz1, hm1⟩
  have Hb := Lib.hid hb1
  have Hz := Lib.hid hz1
  clear hb1 hz1
  go_wp2
  go_ret
  have hz := Hz.out
  have hnew : w.heap.size < w1.heap.size := by omega
  refine ⟨by rw [hz]; rfl, ⟨by rw [← hz]; exact heap_alloc_new w1 _, ?_, fun k e => by simp [blkOf] at e; omega⟩, by simp [hz], hm1.alloc _⟩
  have ho : OwV w1 0 5 (some ⟨w.heap.size, 0, none⟩) n n (xs.map bv) := by
    have := OwV.of_block (base := 0) (e := 5) (w := w1) (g := w.heap.size) (cur := xs.map bv) (Nat.zero_le _) Hb.out (by simp [h.1]; unfold maxLen; omega)
    simpa [h.1] using this
  exact (ho.alloc _).sl

theorem left_nil (w : World) :
    Calls Tryz.prog 92 #[.pointer none] w fun e w' => e = .returned (.int .i64 0) ∧ w = w' := by
  go_enter Tryz.func92, Tryz.ntmps92
  go_wp2_with fail
  go_ret
  exact ⟨rfl, rfl⟩
theorem left_ok (w : World) (g : Nat) (A : Option Addr) (n c : Nat) (xs : List UInt8) (h : Rd w g A n c xs) :
    Calls Tryz.prog 92 #[.pointer (some ⟨g, 0, none⟩)] w fun e w' => e = .returned (.int .i64 n) ∧ w = w' := by
  have h1 := h.cell
  go_enter Tryz.func92, Tryz.ntmps92
  go_wp2_with fail
  go_ret
  exact ⟨rfl, rfl⟩

theorem get_arg (w : World) (v : Option Addr) (k : Int) (hk : widthOk k = false) :
    Calls Tryz.prog 89 #[.pointer v, .int .i64 k] w fun e w' => e = .returned (.tuple #[.int .i64 0, .int .i64 1]) ∧ w = w' := by
  have Hm := Lib.hid (mayWidth_ok w k false hk.symm)
  go_enter Tryz.func89, Tryz.ntmps89
  go_wp2_with (go_at_call 95; refine Hm.out.mono ?_; rintro e w' ⟨rfl, rfl⟩)
  go_ret2
  exact ⟨rfl, rfl⟩

theorem get_short_nil (w : World) (k : Int) (hk : widthOk k = true) :
    Calls Tryz.prog 89 #[.pointer none, .int .i64 k] w fun e w' => e = .returned (.tuple #[.int .i64 0, .int .i64 6]) ∧ w = w' := by
  have Hm := Lib.hid (mayWidth_ok w k true hk.symm)
  have hk0 : 0 < k := by
    have : k = 1 ∨ k = 2 ∨ k = 4 := by simpa [widthOk, or_assoc] using hk
    omega
  go_enter Tryz.func89, Tryz.ntmps89
  go_wp2_with (first
    | (go_at_call 95; refine Hm.out.mono ?_; rintro e w' ⟨rfl, rfl⟩)
    | (go_at_call 92; refine (left_nil _).mono ?_; rintro e w' ⟨rfl, rfl⟩))
  go_ret2
  exact ⟨rfl, rfl⟩

theorem get_short (w : World) (g : Nat) (A : Option Addr) (n c : Nat) (xs : List UInt8) (h : Rd w g A n c xs) (k : Int) (hk : widthOk k = true) (hn : (n : Int) < k) :
    Calls Tryz.prog 89 #[.pointer (some ⟨g, 0, none⟩), .int .i64 k] w fun e w' => e = .returned (.tuple #[.int .i64 0, .int .i64 6]) ∧ w = w' := by
  have Hm := Lib.hid (mayWidth_ok w k true hk.symm)
  go_enter Tryz.func89, Tryz.ntmps89
  go_wp2_with (first
    | (go_at_call 95; refine Hm.out.mono ?_; rintro e w' ⟨rfl, rfl⟩)
    | (go_at_call 92; refine (left_ok _ g A n c xs h).mono ?_; rintro e w' ⟨rfl, rfl⟩))
  go_ret2
  exact ⟨rfl, rfl⟩

/-- What a Get or a Take of k bytes leaves of a Reader. -/
def Got (w : World) (g : Nat) (A : Option Addr) (n c k : Nat) (xs : List UInt8) (w' : World) : Prop :=
  ∃ A', Rd w' g A' (n - k) (c - k) (xs.drop k) ∧ blkOf A' = blkOf A ∧ Mod (fun i => i = g) w w' ∧ w'.heap.size = w.heap.size

theorem Rd.cut {w : World} {g b o n c : Nat} {xs : List UInt8} (h : Rd w g (some ⟨b, o, none⟩) n c xs) (k : Nat) (hk : k ≤ n) :
    Got w g (some ⟨b, o, none⟩) n c k xs (w.setCell ⟨g, 0, none⟩ (.slice (if c = k then some ⟨b, o, none⟩ else some ⟨b, o + k, none⟩) (n - k) (c - k))) := by
  have hbg : b ≠ g := h.2.2 b rfl
  have hm : Mod (fun i => i = g) w (w.setCell ⟨g, 0, none⟩ (.slice (if c = k then some ⟨b, o, none⟩ else some ⟨b, o + k, none⟩) (n - k) (c - k))) := (Mod.refl (fun i => i = g) w).setCell (p := ⟨g, 0, none⟩) (fun _ => rfl) _
  have hsl : Sl w (if c = k then some ⟨b, o, none⟩ else some ⟨b, o + k, none⟩) (n - k) (c - k) (xs.drop k) := by
    have hc := h.2.1.cap
    refine ⟨by simp [h.2.1.len], by omega, fun hn => ?_⟩
    rw [if_neg (by omega)]
    obtain ⟨b', o', e, hcell⟩ := h.2.1.2.2 (by omega)
    injection e with e; injection e with e1 e2; subst e1; subst e2
    refine ⟨b, o + k, rfl, fun j hj => ?_⟩
    rw [Nat.add_assoc, hcell (k + j) (by omega)]
    simp
  refine ⟨if c = k then some ⟨b, o, none⟩ else some ⟨b, o + k, none⟩, ⟨by rw [heap_set h.1]; rfl, hsl.mod hm (fun i e _ => ?_), fun i e => ?_⟩, by split <;> rfl, hm, by simp [World.setCell]⟩
  · split at e <;> simp [blkOf] at e <;> omega
  · split at e <;> simp [blkOf] at e <;> omega

set_option maxHeartbeats 800000 in
theorem get_ok1 (w : World) (g : Nat) (A : Option Addr) (n c : Nat) (xs : List UInt8) (h : Rd w g A n c xs) (hc : c ≤ maxLen) (hn : 1 ≤ n) :
    Calls Tryz.prog 89 #[.pointer (some ⟨g, 0, none⟩), .int .i64 1] w fun e w' => e = .returned (.tuple #[.int .i64 (unle (xs.take 1)), .int .i64 0]) ∧ Got w g A n c 1 xs w' := by
  have Hm := Lib.hid (mayWidth_ok w 1 true (by decide))
  have hL := h.2.1.len
  have hC := h.2.1.cap
  have h1 := h.cell
  have h2 := h.frozen
  obtain ⟨b, o, rfl, hcell⟩ := h.2.1.2.2 (by omega)
  have hcut := h.cut 1 hn
  have Hcut := Lib.hid hcut
  have Hr := Lib.hid (fun j h1 h2 => or_round xs j h1 h2)
  have HL := Lib.hid hL
  unfold maxLen at hc
  clear hcut
  go_enter Tryz.func89, Tryz.ntmps89
  go_wp2_with (first
    | (go_at_call 95; refine Hm.out.mono ?_; rintro e w' ⟨rfl, rfl⟩)
    | (go_at_call 92; refine (left_ok _ g _ n c xs h).mono ?_; rintro e w' ⟨rfl, rfl⟩))
  clear Hm hL
  obtain ⟨T, HT⟩ : ∃ T : Nat → Int, Hid (∀ j, T j = (unle (xs.take j) : Int)) := ⟨_, fun _ => rfl⟩
  go_loop [16, 6] (fun i a => ∃ (j : Nat), j ≤ 1 ∧ i = .int .i64 j ∧ a = .int .i64 (T j)) (fun i _ => 4 - (intOf i).toNat)
  case atStart => exact ⟨0, by omega, rfl, by rw [HT.out]; rfl⟩
  case round =>
    obtain ⟨j, hj, rfl, rfl⟩ := hrel
    by_cases hlt : j < 1
    · have hcj := hcell j (by omega)
      clear hcell
      go_wp2
      go_round
      case rel => exact ⟨j + 1, by omega, by go_num, by rw [HT.out, HT.out, ← Hr.out j (by rw [HL.out]; omega) (by omega)]⟩
      case measure => simp [intOf]; omega
    · obtain rfl : j = 1 := by omega
      clear hcell
      by_cases hck : c = 1
      · obtain rfl : n = 1 := by omega
        subst hck
        have hw := Hcut.out
        rw [if_pos rfl] at hw
        have Hw := Lib.hid hw
        clear hw Hcut
        go_wp2
        go_ret2
        exact ⟨by rw [← HT.out]; rfl, Hw.out⟩
      · have hw := Hcut.out
        rw [if_neg hck] at hw
        have Hw := Lib.hid hw
        clear hw Hcut
        go_wp2
        go_ret2
        exact ⟨by rw [← HT.out]; rfl, Hw.out⟩

set_option maxHeartbeats 800000 in
theorem get_ok2 (w : World) (g : Nat) (A : Option Addr) (n c : Nat) (xs : List UInt8) (h : Rd w g A n c xs) (hc : c ≤ maxLen) (hn : 2 ≤ n) :
    Calls Tryz.prog 89 #[.pointer (some ⟨g, 0, none⟩), .int .i64 2] w fun e w' => e = .returned (.tuple #[.int .i64 (unle (xs.take 2)), .int .i64 0]) ∧ Got w g A n c 2 xs w' := by
  have Hm := Lib.hid (mayWidth_ok w 2 true (by decide))
  have hL := h.2.1.len
  have hC := h.2.1.cap
  have h1 := h.cell
  have h2 := h.frozen
  obtain ⟨b, o, rfl, hcell⟩ := h.2.1.2.2 (by omega)
  have hcut := h.cut 2 hn
  have Hcut := Lib.hid hcut
  have Hr := Lib.hid (fun j h1 h2 => or_round xs j h1 h2)
  have HL := Lib.hid hL
  unfold maxLen at hc
  clear hcut
  go_enter Tryz.func89, Tryz.ntmps89
  go_wp2_with (first
    | (go_at_call 95; refine Hm.out.mono ?_; rintro e w' ⟨rfl, rfl⟩)
    | (go_at_call 92; refine (left_ok _ g _ n c xs h).mono ?_; rintro e w' ⟨rfl, rfl⟩))
  clear Hm hL
  obtain ⟨T, HT⟩ : ∃ T : Nat → Int, Hid (∀ j, T j = (unle (xs.take j) : Int)) := ⟨_, fun _ => rfl⟩
  go_loop [16, 6] (fun i a => ∃ (j : Nat), j ≤ 2 ∧ i = .int .i64 j ∧ a = .int .i64 (T j)) (fun i _ => 4 - (intOf i).toNat)
  case atStart => exact ⟨0, by omega, rfl, by rw [HT.out]; rfl⟩
  case round =>
    obtain ⟨j, hj, rfl, rfl⟩ := hrel
    by_cases hlt : j < 2
    · have hcj := hcell j (by omega)
      clear hcell
      go_wp2
      go_round
      case rel => exact ⟨j + 1, by omega, by go_num, by rw [HT.out, HT.out, ← Hr.out j (by rw [HL.out]; omega) (by omega)]⟩
      case measure => simp [intOf]; omega
    · obtain rfl : j = 2 := by omega
      clear hcell
      by_cases hck : c = 2
      · obtain rfl : n = 2 := by omega
        subst hck
        have hw := Hcut.out
        rw [if_pos rfl] at hw
        have Hw := Lib.hid hw
        clear hw Hcut
        go_wp2
        go_ret2
        exact ⟨by rw [← HT.out]; rfl, Hw.out⟩
      · have hw := Hcut.out
        rw [if_neg hck] at hw
        have Hw := Lib.hid hw
        clear hw Hcut
        go_wp2
        go_ret2
        exact ⟨by rw [← HT.out]; rfl, Hw.out⟩

set_option maxHeartbeats 800000 in
theorem get_ok4 (w : World) (g : Nat) (A : Option Addr) (n c : Nat) (xs : List UInt8) (h : Rd w g A n c xs) (hc : c ≤ maxLen) (hn : 4 ≤ n) :
    Calls Tryz.prog 89 #[.pointer (some ⟨g, 0, none⟩), .int .i64 4] w fun e w' => e = .returned (.tuple #[.int .i64 (unle (xs.take 4)), .int .i64 0]) ∧ Got w g A n c 4 xs w' := by
  have Hm := Lib.hid (mayWidth_ok w 4 true (by decide))
  have hL := h.2.1.len
  have hC := h.2.1.cap
  have h1 := h.cell
  have h2 := h.frozen
  obtain ⟨b, o, rfl, hcell⟩ := h.2.1.2.2 (by omega)
  have hcut := h.cut 4 hn
  have Hcut := Lib.hid hcut
  have Hr := Lib.hid (fun j h1 h2 => or_round xs j h1 h2)
  have HL := Lib.hid hL
  unfold maxLen at hc
  clear hcut
  go_enter Tryz.func89, Tryz.ntmps89
  go_wp2_with (first
    | (go_at_call 95; refine Hm.out.mono ?_; rintro e w' ⟨rfl, rfl⟩)
    | (go_at_call 92; refine (left_ok _ g _ n c xs h).mono ?_; rintro e w' ⟨rfl, rfl⟩))
  clear Hm hL
  obtain ⟨T, HT⟩ : ∃ T : Nat → Int, Hid (∀ j, T j = (unle (xs.take j) : Int)) := ⟨_, fun _ => rfl⟩
  go_loop [16, 6] (fun i a => ∃ (j : Nat), j ≤ 4 ∧ i = .int .i64 j ∧ a = .int .i64 (T j)) (fun i _ => 4 - (intOf i).toNat)
  case atStart => exact ⟨0, by omega, rfl, by rw [HT.out]; rfl⟩
  case round =>
    obtain ⟨j, hj, rfl, rfl⟩ := hrel
    by_cases hlt : j < 4
    · have hcj := hcell j (by omega)
      clear hcell
      go_wp2
      go_round
      case rel => exact ⟨j + 1, by omega, by go_num, by rw [HT.out, HT.out, ← Hr.out j (by rw [HL.out]; omega) (by omega)]⟩
      case measure => simp [intOf]; omega
    · obtain rfl : j = 4 := by omega
      clear hcell
      by_cases hck : c = 4
      · obtain rfl : n = 4 := by omega
        subst hck
        have hw := Hcut.out
        rw [if_pos rfl] at hw
        have Hw := Lib.hid hw
        clear hw Hcut
        go_wp2
        go_ret2
        exact ⟨by rw [← HT.out]; rfl, Hw.out⟩
      · have hw := Hcut.out
        rw [if_neg hck] at hw
        have Hw := Lib.hid hw
        clear hw Hcut
        go_wp2
        go_ret2
        exact ⟨by rw [← HT.out]; rfl, Hw.out⟩

theorem get_ok (w : World) (g : Nat) (A : Option Addr) (n c : Nat) (xs : List UInt8) (h : Rd w g A n c xs) (hc : c ≤ maxLen) (k : Int) (hk : widthOk k = true) (hn : k ≤ n) :
    Calls Tryz.prog 89 #[.pointer (some ⟨g, 0, none⟩), .int .i64 k] w fun e w' => e = .returned (.tuple #[.int .i64 (unle (xs.take k.toNat)), .int .i64 0]) ∧ Got w g A n c k.toNat xs w' := by
  have hk3 : k = 1 ∨ k = 2 ∨ k = 4 := by simpa [widthOk, or_assoc] using hk
  rcases hk3 with rfl | rfl | rfl
  · exact get_ok1 w g A n c xs h hc (by omega)
  · exact get_ok2 w g A n c xs h hc (by omega)
  · exact get_ok4 w g A n c xs h hc (by omega)

end Go.Proofs.YtnbamljaiahmdaaGreat

namespace Go.Proofs.YtnbamljaiahmdaaGreat
open Go Go.RowKit

/-- A row in new memory that holds xs; nothing old has turned. -/
def FreshR (w w' : World) (A : Option Addr) (n c : Nat) (xs : List UInt8) : Prop :=
  OwV w' w.heap.size 5 A n c (xs.map bv) ∧ Mod (fun _ => False) w w'

/-- Bytes that a literal lays into a block of its own. -/
theorem Sl.lit {w : World} {g : Nat} {e : TypeId} {fr : Nat × Nat} (xs : List UInt8) (h : w.heap[g]? = some (.cells (xs.map bv).toArray e fr)) : Sl w (some ⟨g, 0, none⟩) xs.length xs.length xs := by
  refine ⟨rfl, Nat.le_refl _, fun _ => ⟨g, 0, rfl, fun j hj => ?_⟩⟩
  rw [Nat.zero_add, cell_of_row w g j _ _ _ h]
  simp [hj]

/-- Are two lists of bytes the same? -/
def eqB (xs ys : List UInt8) : Bool := decide (xs = ys)
theorem eqB_ne {xs ys : List UInt8} (h : xs.length ≠ ys.length) : eqB xs ys = false := by
  unfold eqB; rw [decide_eq_false_iff_not]; rintro rfl; exact h rfl
theorem take_eq_snoc {xs ys : List UInt8} {j : Nat} (h : xs.take j = ys.take j) (hx : j < xs.length) (hy : j < ys.length) (e : xs.getD j 0 = ys.getD j 0) : xs.take (j + 1) = ys.take (j + 1) := by
  rw [List.take_succ_eq_append_getElem hx, List.take_succ_eq_append_getElem hy, h]
  simp [List.getD_eq_getElem?_getD, List.getElem?_eq_getElem hx, List.getElem?_eq_getElem hy] at e
  rw [e]
theorem eqB_at {xs ys : List UInt8} {j : Nat} (h : xs.getD j 0 ≠ ys.getD j 0) : eqB xs ys = false := by
  unfold eqB; rw [decide_eq_false_iff_not]; rintro rfl; exact h rfl

theorem eqB_self (xs : List UInt8) : eqB xs xs = true := by simp [eqB]

set_option maxRecDepth 100000 in
theorem same_ok (w : World) (A B : Option Addr) (n m c d : Nat) (xs ys : List UInt8) (h : Sl w A n c xs) (k : Sl w B m d ys) (hc : n ≤ 140737488355328) (hd : m ≤ 140737488355328) :
    Calls Tryz.prog 69 #[.slice A n c, .slice B m d] w fun e w' => e = .returned (.bool (eqB xs ys)) ∧ ∃ q, w' = w.drewN q := by
  have h1 := h.len
  have k1 := k.len
  by_cases hne : n = m
  · subst hne
    have H1 := Lib.hid h1
    have K1 := Lib.hid k1
    clear h1 k1
    go_enter Tryz.func69, Tryz.ntmps69
    go_wp2
    go_loopw [5] (fun i wr => ∃ j q : Nat, j ≤ n ∧ i = .int .i64 j ∧ wr = w.drewN q ∧ xs.take j = ys.take j) (fun i _ => n - (intOf i).toNat)
    case atStart => exact ⟨0, 0, by omega, rfl, rfl, rfl⟩
    case round =>
      obtain ⟨j, q, hj, rfl, rfl, heq⟩ := hrel
      have Heq := Lib.hid heq
      clear heq
      by_cases hlt : j < n
      · obtain ⟨b, o, rfl, hcx⟩ := h.2.2 (by omega)
        obtain ⟨b', o', rfl, hcy⟩ := k.2.2 (by omega)
        have hx := hcx j hlt
        have hy := hcy j hlt
        clear hcx hcy
        by_cases hxy : xs.getD j 0 = ys.getD j 0
        · have Hs := Lib.hid (take_eq_snoc Heq.out (by rw [H1.out]; exact hlt) (by rw [K1.out]; exact hlt) hxy)
          rw [hxy] at hx
          clear hxy
          go_wp2
          go_quiet (fail)
          go_wp2
          go_roundw
          case rel => exact ⟨j + 1, _, by omega, by go_num, rfl, Hs.out⟩
          case measure => simp [intOf]; omega
        · have Hs := Lib.hid (eqB_at hxy)
          have hne : (((xs.getD j 0).toNat : Int) != ((ys.getD j 0).toNat : Int)) = true := by
            rw [bne_iff_ne]
            intro e
            exact hxy (UInt8.toNat_inj.1 (by omega))
          generalize xs.getD j 0 = x at *
          generalize ys.getD j 0 = y at *
          clear hxy
          go_wp2
          go_quiet (fail)
          go_wp2
          go_ret
          exact ⟨by rw [Hs.out]; rfl, _, World.drewN_drewN _ _ _⟩
      · obtain rfl : j = n := by omega
        go_wp2
        go_ret
        have e : eqB xs ys = true := by
          unfold eqB
          have := Heq.out
          rw [List.take_of_length_le (by rw [H1.out]; omega), List.take_of_length_le (by rw [K1.out]; omega)] at this
          simpa using this
        exact ⟨by rw [e]; rfl, _, rfl⟩
  · have hne' : ((n : Int) != (m : Int)) = true := by rw [bne_iff_ne]; omega
    have Hs := Lib.hid (eqB_ne (xs := xs) (ys := ys) (by rw [h1, k1]; exact hne))
    clear h1 k1
    go_enter Tryz.func69, Tryz.ntmps69
    go_wp2
    go_ret
    exact ⟨by rw [Hs.out]; rfl, 0, rfl⟩

end Go.Proofs.YtnbamljaiahmdaaGreat

namespace Go.Proofs.YtnbamljaiahmdaaGreat
open Go.ChangeShapes Go.WideShapes Go.ChangeAt Go.RowKit

theorem byte_of_int {z : Int} (h0 : 0 ≤ z) (h1 : z ≤ 255) : ((UInt8.ofNat z.toNat).toNat : Int) = z := by
  rw [UInt8.toNat_ofNat']
  have : z.toNat % 2 ^ 8 = z.toNat := Nat.mod_eq_of_lt (by omega)
  rw [this]
  omega

section
variable {H : Type} {enc : TypeId × Value → H} {P : Program} {W : World} {base : Nat} {spare : Nat → Bool} {held : Bool}

/-- A slice of integers of whatever kind: what its cells hold. -/
theorem open_row {k : IntKind} {t e : TypeId} {a : Option Addr} {len cap : Nat} {d : DataW H} {p : List MemPlace} (ht : P.underlying t = some (.slice e)) (he : P.underlying e = some (.int k)) (hc : P.cellsOf e = 1)
    (h : DataW.Trod enc P W base spare held t (.slice a len cap) d p) :
    ∃ zs : List Int, zs.length = len ∧ len ≤ cap ∧ cap ≤ maxLen ∧ (∀ z ∈ zs, (Lit.int k z).wf = true) ∧
      (0 < len → ∃ b o, a = some ⟨b, o, none⟩ ∧ ∀ j, j < len → W.cell? ⟨b, o + j, none⟩ = some (.int k (zs.getD j 0))) ∧
      (len = 0 ∨ ∃ el sp, d = .slice el sp ∧ el.length = len) := by
  obtain ⟨fuel, hf⟩ := h
  rcases open_ints ht he hc hf with ⟨hcs, _⟩ | ⟨x, l, c, zs, hcs, _, hl, hm, hz, hx, hcell, hwz⟩
  · simp [Value.cells] at hcs
    obtain ⟨rfl, rfl, rfl⟩ := hcs
    exact ⟨[], rfl, Nat.le_refl _, Nat.zero_le _, by simp, fun h => absurd h (by omega), .inl rfl⟩
  · simp [Value.cells] at hcs
    obtain ⟨rfl, rfl, rfl⟩ := hcs
    have hlz : len ≤ zs.length := by rw [hz]; split <;> omega
    refine ⟨zs.take len, by simp; omega, hl, hm, fun z hzm => hwz z (List.mem_of_mem_take hzm), fun hp => ?_, .inr ?_⟩
    · obtain ⟨b, o, rfl, hc'⟩ := ints_at hcell (by omega)
      refine ⟨b, o, rfl, fun j hj => ?_⟩
      rw [hc' j (by omega)]
      simp [hj]
    · simp only [Prod.mk.injEq] at hx
      exact ⟨_, _, hx.1, by simp [lits]; omega⟩

theorem open_sl {t e : TypeId} {a : Option Addr} {len cap : Nat} {d : DataW H} {p : List MemPlace} (ht : P.underlying t = some (.slice e)) (he : P.underlying e = some (.int .u8)) (hc : P.cellsOf e = 1)
    (h : DataW.Trod enc P W base spare held t (.slice a len cap) d p) :
    ∃ xs, Sl W a len cap xs ∧ (len = 0 ∨ ∃ el sp, d = .slice el sp ∧ el.length = len) := by
  obtain ⟨zs, hl, hcap, _, hwf, hcells, hd⟩ := open_row ht he hc h
  refine ⟨zs.map fun z => UInt8.ofNat z.toNat, ⟨by simpa using hl, hcap, fun hp => ?_⟩, hd⟩
  obtain ⟨b, o, rfl, hcell⟩ := hcells hp
  refine ⟨b, o, rfl, fun j hj => ?_⟩
  rw [hcell j hj]
  have hj' : j < zs.length := by omega
  obtain ⟨h0, h1⟩ := bounds_u8 (hwf zs[j] (List.getElem_mem hj'))
  have e1 : zs.getD j 0 = zs[j] := by simp [hj']
  have e2 : (zs.map fun z => UInt8.ofNat z.toNat).getD j 0 = UInt8.ofNat (zs[j]).toNat := by simp [hj']
  rw [e1, e2]
  show some (Value.int .u8 _) = some (Value.int .u8 _)
  rw [byte_of_int h0 h1]

/-- A slice's capacity is one that Go lets be. -/
theorem open_cap {k : IntKind} {t e : TypeId} {a : Option Addr} {len cap : Nat} {d : DataW H} {p : List MemPlace} (ht : P.underlying t = some (.slice e)) (he : P.underlying e = some (.int k)) (hc : P.cellsOf e = 1)
    (h : DataW.Trod enc P W base spare held t (.slice a len cap) d p) : cap ≤ maxLen := by
  obtain ⟨zs, _, _, hm, _⟩ := open_row ht he hc h
  exact hm

/-- A slice of structs, each field one cell: every field's cell, with its own reading. -/
theorem open_structs {t e : TypeId} {fs : Array Field} {a : Option Addr} {len cap : Nat} {d : DataW H} {p : List MemPlace} (ht : P.underlying t = some (.slice e)) (he : P.underlying e = some (.struct fs))
    (hone : Go.Deep.oneCellFields P fs = true) (hC : P.cellsOf e = fs.size) (hK : 0 < fs.size)
    (h : DataW.Trod enc P W base spare held t (.slice a len cap) d p) :
    len ≤ cap ∧ cap ≤ maxLen ∧ (len = 0 ∨ ∃ el sp, d = .slice el sp ∧ el.length = len) ∧
      (0 < len → ∃ b o, a = some ⟨b, o, none⟩ ∧ ∀ i, i < len → ∀ (j : Nat) (f : Field), fs[j]? = some f →
        ∃ (v : Value) (n : Nat) (y : DataW H × List MemPlace), W.cell? ⟨b, o + i * fs.size + j, none⟩ = some v ∧ DataW.trod enc P W base spare held n f.type [v] = some y) := by
  obtain ⟨fuel, hf⟩ := h
  rcases Go.Deep.open_slice ht hf with ⟨hcs, _⟩ | ⟨x, l, c, m, n, D, Pl, hcs, _, hl, hm, hmm, hx, hi⟩
  · simp [Value.cells] at hcs
    obtain ⟨rfl, rfl, rfl⟩ := hcs
    exact ⟨Nat.le_refl _, Nat.zero_le _, .inl rfl, fun h => absurd h (by omega)⟩
  · simp [Value.cells] at hcs
    obtain ⟨rfl, rfl, rfl⟩ := hcs
    have hlm : len ≤ m := by rw [hmm]; split <;> omega
    simp only [Prod.mk.injEq] at hx
    refine ⟨hl, hm, .inr ⟨_, _, hx.1, by simp⟩, fun hp => ?_⟩
    have cells : ∀ i, i < len → ∀ (j : Nat) (f : Field), fs[j]? = some f →
        ∃ (v : Value) (n : Nat) (y : DataW H × List MemPlace), W.cell? ((x.add (i * fs.size)).add j) = some v ∧ DataW.trod enc P W base spare held n f.type [v] = some y := by
      intro i hil j f hj
      obtain ⟨cs', hc, ht'⟩ := hi i (by omega)
      rw [hC] at hc
      obtain ⟨ys, n', _, _, hlen, hyl, hf'⟩ := DataW.trod_struct he ht'
      obtain ⟨_, hcl, hat⟩ := World.cells?_some hc
      obtain ⟨ho, hk⟩ := Go.Deep.hone_of hone j f hj
      have hjl : j < fs.size := (Array.getElem?_eq_some_iff.1 hj).1
      have hjc : j < cs'.length := by omega
      have h1 := hf' j f hj
      rw [ho, hk, List.drop_eq_getElem_cons hjc] at h1
      have hys : ys[j]? = some (ys[j]'(by omega)) := List.getElem?_eq_getElem (by omega)
      refine ⟨cs'[j], n', _, ?_, h1.trans hys⟩
      rw [hat j hjl, List.getElem?_eq_getElem hjc]
    obtain ⟨b, o, spot⟩ := x
    have hspot : spot = none := by
      have hf0 : fs[0]? = some (fs[0]'hK) := Array.getElem?_eq_getElem hK
      obtain ⟨v, _, _, hc0, _⟩ := cells 0 hp 0 _ hf0
      have := World.cell?_spot hc0
      simpa [Addr.add] using this
    subst hspot
    refine ⟨b, o, rfl, fun i hil j f hj => ?_⟩
    obtain ⟨v, n, y, h1, h2⟩ := cells i hil j f hj
    refine ⟨v, n, y, ?_, h2⟩
    rw [Go.WideShapes.add_plain, Go.WideShapes.add_plain] at h1
    exact h1
end

/-- One thing for each index: a list of them. -/
theorem list_of {α : Type} {Q : Nat → α → Prop} : ∀ len : Nat, (∀ i, i < len → ∃ x, Q i x) → ∃ l : List α, l.length = len ∧ ∀ i x, l[i]? = some x → Q i x
  | 0, _ => ⟨[], rfl, by simp⟩
  | len + 1, h => by
    obtain ⟨l, hl, hq⟩ := list_of len (fun i hi => h i (by omega))
    obtain ⟨x, hx⟩ := h len (by omega)
    refine ⟨l ++ [x], by simp [hl], fun i y hy => ?_⟩
    rcases Nat.lt_or_ge i l.length with hlt | hge
    · rw [List.getElem?_append_left hlt] at hy
      exact hq i y hy
    · rw [List.getElem?_append_right hge] at hy
      have hi : i = l.length := by
        have := (List.getElem?_eq_some_iff.1 hy).1
        simp at this; omega
      subst hi
      simp at hy
      subst hy
      rw [hl]
      exact hx
end Go.Proofs.YtnbamljaiahmdaaGreat

namespace Go.Proofs.YtnbamljaiahmdaaGreat
open Go Go.RowKit

end Go.Proofs.YtnbamljaiahmdaaGreat

namespace Go.Proofs.YtnbamljaiahmdaaGreat
open Go Go.RowKit

section
variable {P : Program} {w : World}
theorem run_copyTo {t e : TypeId} {z : Value} {bytes : Nat} (he : Elem P t e z bytes) (ty : TypeId)
    {dp sp : Option Addr} {dLen dCap sLen sCap : Nat} {g off : Nat} {cur : List Value} {T : TypeId} (hg : w.heap[g]? = some (.cells cur.toArray T (0, 0)))
    {cs : List Value} (hn : cs.length = Nat.min sLen dLen)
    (hpos : 0 < cs.length → dp = some ⟨g, off, none⟩ ∧ ∃ ad, sp = some ad ∧ ∀ j v, cs[j]? = some v → w.cell? (ad.add j) = some v)
    (hfit : off + cs.length ≤ cur.length) (h1 : ∀ v ∈ cs, v.oneCell' = true) :
    ∃ w', (Builtin.copy_ #[t, t] ty #[.slice dp dLen dCap, .slice sp sLen sCap]).run P w = .ok (goInt cs.length) w' ∧
      w'.heap[g]? = some (.cells (splice cur off cs).toArray T (0, 0)) ∧ Mod (fun k => k = g) w w' ∧ w'.heap.size = w.heap.size := by
  obtain ⟨ht, _, i, hi, _, hsz, _⟩ := he
  have hone : (P.info? e).map (·.size) = some 1 := by simp [hi, hsz]
  by_cases h0 : cs.length = 0
  · obtain rfl : cs = [] := List.eq_nil_of_length_eq_zero h0
    exact ⟨w, run_copy_none (P := P) w t t ty e dp sp dLen dCap sLen sCap ht hone (by simpa using hn.symm), by simpa [splice] using hg, Mod.refl _ _, rfl⟩
  · obtain ⟨rfl, ad, rfl, hsrc⟩ := hpos (by omega)
    refine ⟨_, run_copy_row (P := P) w t t ty e g off dLen dCap ad sLen sCap cur.toArray T cs ht hone hg hn hsrc (by simpa using hfit) h1, ?_,
      ⟨rfl, rfl, rfl, by simp [World.setRow], fun k _ hk => setRow_other w g k _ hk⟩, by simp [World.setRow]⟩
    rw [setRow_heap w g _ _ T _ hg]
    simp [splice]

theorem wpList_copyTo {ops : Array Oper} {rest : List Oper} {o : Oper} {a : Act} {Q : Exit → Act → World → Prop} (d s : Operand) {t e : TypeId} {z : Value} {bytes : Nat}
    {dp sp : Option Addr} {dLen dCap sLen sCap : Nat} {g off : Nat} {cur : List Value} {T : TypeId} {cs : List Value}
    (he : Elem P t e z bytes) (hgd : o.guard = none)
    (ho : o.op = .call { callee := .builtin .copy, args := #[d, s], argTypes := #[t, t] })
    (hed : a.eval d = .slice dp dLen dCap) (hes : a.eval s = .slice sp sLen sCap)
    (hg : w.heap[g]? = some (.cells cur.toArray T (0, 0))) (hn : cs.length = Nat.min sLen dLen)
    (hpos : 0 < cs.length → dp = some ⟨g, off, none⟩ ∧ ∃ ad, sp = some ad ∧ ∀ j v, cs[j]? = some v → w.cell? (ad.add j) = some v)
    (hfit : off + cs.length ≤ cur.length) (h1 : ∀ v ∈ cs, v.oneCell' = true)
    (h : ∀ w', w'.heap[g]? = some (.cells (splice cur off cs).toArray T (0, 0)) → Mod (fun k => k = g) w w' → w'.heap.size = w.heap.size → wpList P ops Q rest (a.put o.dst (goInt cs.length)) w') :
    wpList P ops Q (o :: rest) a w := by
  refine wpList_plain hgd fun K hK => ?_
  obtain ⟨w', hr, h2, h3, h4⟩ := run_copyTo (P := P) (w := w) he o.type (dp := dp) (sp := sp) (dLen := dLen) (dCap := dCap) (sLen := sLen) (sCap := sCap) (off := off) hg hn hpos hfit h1
  unfold Oper.wp execOp
  simp only [ho, resolve, invoke, builtin, Sem.run_bind, Sem.run_pure, Result.andThen_ok, List.map_toArray, List.map_cons, List.map_nil, hed, hes, hr]
  exact hK _ _ (h w' h2 h3 h4)

theorem wpList_copyAt {ops : Array Oper} {rest : List Oper} {o : Oper} {a : Act} {Q : Exit → Act → World → Prop} (d s : Operand) {t e : TypeId} {z : Value} {bytes : Nat}
    {sp : Option Addr} {dLen dCap sLen sCap : Nat} {g off : Nat} {cur : List Value} {T : TypeId} {cs : List Value}
    (he : Elem P t e z bytes) (hgd : o.guard = none)
    (ho : o.op = .call { callee := .builtin .copy, args := #[d, s], argTypes := #[t, t] })
    (hed : a.eval d = .slice (some ⟨g, off, none⟩) dLen dCap) (hes : a.eval s = .slice sp sLen sCap)
    (hg : w.heap[g]? = some (.cells cur.toArray T (0, 0))) (hn : cs.length = Nat.min sLen dLen)
    (hpos : 0 < cs.length → ∃ ad, sp = some ad ∧ ∀ j v, cs[j]? = some v → w.cell? (ad.add j) = some v)
    (hfit : off + cs.length ≤ cur.length) (h1 : ∀ v ∈ cs, v.oneCell' = true)
    (h : ∀ w', w'.heap[g]? = some (.cells (splice cur off cs).toArray T (0, 0)) → Mod (fun k => k = g) w w' → w'.heap.size = w.heap.size → wpList P ops Q rest (a.put o.dst (goInt cs.length)) w') :
    wpList P ops Q (o :: rest) a w :=
  wpList_copyTo d s he hgd ho hed hes hg hn (fun hp => ⟨rfl, hpos hp⟩) hfit h1 h

/-- The same, the operation by itself (for a region that draws its order). -/
theorem wp_copyTo {o : Oper} {a : Act} {K : Act → World → Prop} {Q : Exit → Act → World → Prop} (d s : Operand) {t e : TypeId} {z : Value} {bytes : Nat}
    {dp sp : Option Addr} {dLen dCap sLen sCap : Nat} {g off : Nat} {cur : List Value} {T : TypeId} {cs : List Value}
    (he : Elem P t e z bytes)
    (ho : o.op = .call { callee := .builtin .copy, args := #[d, s], argTypes := #[t, t] })
    (hed : a.eval d = .slice dp dLen dCap) (hes : a.eval s = .slice sp sLen sCap)
    (hg : w.heap[g]? = some (.cells cur.toArray T (0, 0))) (hn : cs.length = Nat.min sLen dLen)
    (hpos : 0 < cs.length → dp = some ⟨g, off, none⟩ ∧ ∃ ad, sp = some ad ∧ ∀ j v, cs[j]? = some v → w.cell? (ad.add j) = some v)
    (hfit : off + cs.length ≤ cur.length) (h1 : ∀ v ∈ cs, v.oneCell' = true)
    (h : ∀ w', w'.heap[g]? = some (.cells (splice cur off cs).toArray T (0, 0)) → Mod (fun k => k = g) w w' → w'.heap.size = w.heap.size → K (a.put o.dst (goInt cs.length)) w') :
    Oper.wp P o a w K Q := by
  obtain ⟨w', hr, h2, h3, h4⟩ := run_copyTo (P := P) (w := w) he o.type (dp := dp) (sp := sp) (dLen := dLen) (dCap := dCap) (sLen := sLen) (sCap := sCap) (off := off) hg hn hpos hfit h1
  unfold Oper.wp execOp
  simp only [ho, resolve, invoke, builtin, Sem.run_bind, Sem.run_pure, Result.andThen_ok, List.map_toArray, List.map_cons, List.map_nil, hed, hes, hr]
  exact h w' h2 h3 h4
end

/-- A beginning of a slice of bytes, as a source. -/
theorem Sl.srcTake {w : World} {A : Option Addr} {n c : Nat} {xs : List UInt8} (h : Sl w A n c xs) (k : Nat) (hk : k ≤ n) (hp : 0 < ((xs.take k).map bv).length) :
    ∃ ad, A = some ad ∧ ∀ j v, ((xs.take k).map bv)[j]? = some v → w.cell? (ad.add j) = some v := by
  have hl := h.len
  have hn : 0 < n := by simp [hl] at hp; omega
  obtain ⟨_, _, hs⟩ := h.src
  obtain ⟨ad, hA, hc⟩ := hs hn
  refine ⟨ad, hA, fun j v hv => hc j v ?_⟩
  rw [List.map_take, List.getElem?_take] at hv
  split at hv
  · exact hv
  · cases hv
/-- Zeros. -/
def zeros (n : Nat) : List UInt8 := List.replicate n 0
theorem zeros_len (n : Nat) : (zeros n).length = n := List.length_replicate
def zrow (n : Nat) : Array Value := ((zeros n).map bv).toArray
theorem bv_one (xs : List UInt8) : ∀ v ∈ xs.map bv, v.oneCell' = true := by
  intro u hu
  obtain ⟨x, _, rfl⟩ := List.mem_map.1 hu
  rfl
theorem splice_map (L : List UInt8) (off : Nat) (cs : List UInt8) : splice (L.map bv) off (cs.map bv) = (splice L off cs).map bv := by
  simp [splice, List.map_take, List.map_drop]
end Go.Proofs.YtnbamljaiahmdaaGreat

namespace Go.Proofs.YtnbamljaiahmdaaGreat
open Go Go.RowKit

/-- A row of the call's own: elements of 'size' cells each; vs: all their cells. -/
def OwN (w : World) (base : Nat) (e : TypeId) (size : Nat) (A : Option Addr) (n c : Nat) (vs : List Value) : Prop := w.ownsRow base e size (.slice A n c) n vs

section
variable {w w' : World} {base : Nat} {e : TypeId} {size : Nat} {A : Option Addr} {n c : Nat} {vs : List Value}
theorem OwN.nil (w : World) (base : Nat) (e : TypeId) (size : Nat) : OwN w base e size none 0 0 [] := World.ownsRow_nil w base e size
theorem OwN.lt (h : OwN w base e size A n c vs) : ∀ k, blkOf A = some k → base ≤ k ∧ k < w.heap.size := by
  intro k hk
  refine World.ownsRow.lt h k ?_
  cases A with
  | none => simp [blkOf] at hk
  | some a => simpa [Value.ownBlock, blkOf] using hk
theorem OwN.cap (h : OwN w base e size A n c vs) : n ≤ c := by
  rcases h.2 with ⟨hv, h0⟩ | ⟨g, cap, cur, hv, _, hh, h1, _⟩
  · omega
  · injection hv with _ _ hc; omega
theorem OwN.mod {F : Nat → Prop} (h : OwN w base e size A n c vs) (hm : Mod F w w') (hF : ∀ k, blkOf A = some k → ¬ F k) : OwN w' base e size A n c vs := by
  refine ⟨h.1, ?_⟩
  rcases h.2 with hn | ⟨g, cap, cur, hv, hb, hgg, rest⟩
  · exact .inl hn
  · refine .inr ⟨g, cap, cur, hv, hb, ?_, rest⟩
    injection hv with hA
    subst hA
    rw [hm.block g (Array.getElem?_eq_some_iff.1 hgg).1 (hF g rfl)]
    exact hgg
theorem OwN.alloc (h : OwN w base e size A n c vs) (o : Obj) : OwN (w.alloc o) base e size A n c vs := h.mod ((Mod.refl (fun _ => False) w).alloc o) (fun _ _ => id)
theorem OwN.cells (h : OwN w base e size A n c vs) : 0 < n → ∃ g, A = some ⟨g, 0, none⟩ ∧ ∀ j, j < n * size → w.cell? ⟨g, j, none⟩ = vs[j]? := by
  intro hn
  rcases h.2 with ⟨_, h0⟩ | ⟨g, cap, cur, hv, _, hh, h1, h2, h3, h4⟩
  · omega
  · injection hv with hA _ hc
    subst hA; subst hc
    refine ⟨g, rfl, fun j hj => ?_⟩
    rw [cell_of_row w g j cur e (0, 0) hh, ← h4, List.getElem?_take, if_pos hj]
    simp
end

/-- What is known of an element type of 'size' cells. -/
def ElemN (P : Program) (t e : TypeId) (z : Value) (size bytes : Nat) : Prop :=
  P.underlying t = some (.slice e) ∧ z.cells.size = size ∧ 0 < size ∧ ∃ i, P.info? e = some i ∧ i.zero = some z ∧ i.size = size ∧ i.bytes = bytes
theorem ElemN.mk_ {P : Program} {t e : TypeId} {z : Value} {size bytes : Nat} (h1 : P.underlying t = some (.slice e)) (hz : z.cells.size = size) (hs : 0 < size)
    (h2 : (P.info? e).map (fun i => (i.zero, i.size, i.bytes)) = some (some z, size, bytes)) : ElemN P t e z size bytes := by
  cases hi : P.info? e with
  | none => simp [hi] at h2
  | some i => simp [hi] at h2; exact ⟨h1, hz, hs, i, hi, h2.1, h2.2.1, h2.2.2⟩

/-- The cells that are read for an append of m elements. -/
def SrcN (w : World) (A : Option Addr) (m size : Nat) (news : List Value) : Prop :=
  news.length = m * size ∧ (∀ u ∈ news, u.oneCell' = true) ∧ (0 < m → ∃ ad, A = some ad ∧ ∀ j u, news[j]? = some u → w.cell? (ad.add j) = some u)

/-- One element that a literal lays into a block of its own. -/
theorem SrcN.lit (w : World) (cs : List Value) (t : TypeId) (h1 : ∀ u ∈ cs, u.oneCell' = true) : SrcN (w.alloc (.cells cs.toArray t)) (some ⟨w.heap.size, 0, none⟩) 1 cs.length cs :=
  ⟨by simp, h1, fun _ => ⟨_, rfl, World.news_of_block (heap_alloc_new w _)⟩⟩

section
variable {P : Program} {w : World}
theorem run_appN {t e : TypeId} {z : Value} {size bytes : Nat} (he : ElemN P t e z size bytes) (ty : TypeId)
    {base : Nat} {A : Option Addr} {n c : Nat} {vs : List Value} (hown : OwN w base e size A n c vs)
    {A2 : Option Addr} {m c2 : Nat} {news : List Value} (hs : SrcN w A2 m size news)
    (hb : (n + m) * bytes ≤ 140737488355328) (h63 : n + m ≤ maxLen) (hbase : base ≤ w.heap.size) :
    ∃ A' c' w', (Builtin.append_ #[t, t] ty #[.slice A n c, .slice A2 m c2]).run P w = .ok (.slice A' (n + m) c') w' ∧ OwN w' base e size A' (n + m) c' (vs ++ news) ∧
      w.grownBy w' (blkOf A) ∧ (blkOf A' = blkOf A ∨ blkOf A' = some w.heap.size) := by
  obtain ⟨ht, hz1, hsz0, i, hi, hz, hsz, hby⟩ := he
  have hob : ∀ (B : Option Addr) (k c : Nat), (Value.slice B k c).ownBlock = blkOf B := fun B _ _ => by cases B <;> rfl
  have form : ∀ (v : Value) (w' : World) (k : Nat) (xs : List Value), w'.ownsRow base e size v k xs → ∃ A' c', v = .slice A' k c' := by
    intro v w' k xs h
    rcases h.2 with ⟨rfl, rfl⟩ | ⟨g, cap, cur, rfl, _⟩
    · exact ⟨_, _, rfl⟩
    · exact ⟨_, _, rfl⟩
  cases A2 with
  | none =>
    obtain rfl : m = 0 := by
      rcases Nat.eq_zero_or_pos m with h0 | h0
      · exact h0
      · obtain ⟨ad, h, _⟩ := hs.2.2 h0; cases h
    have hn : news = [] := List.eq_nil_of_length_eq_zero (by simpa using hs.1)
    subst hn
    refine ⟨A, c, w, ?_, by simpa using hown, ⟨rfl, rfl, rfl, Nat.le_refl _, fun _ _ _ => rfl⟩, .inl rfl⟩
    rcases hown.2 with ⟨hv, rfl⟩ | ⟨g, cap, cur, hv, _, _, hnc, _⟩
    · injection hv with hA _ hc; subst hA; subst hc
      simp [Builtin.append_, run_underlying ht, sizeOf, typeInfo, hi, Builtin.lenOf, Builtin.firstCells]
    · injection hv with hA _ hc; subst hA; subst hc
      simp [Builtin.append_, run_underlying ht, sizeOf, typeInfo, hi, Builtin.lenOf, Builtin.firstCells, hnc, storeCells]
  | some ad =>
    have hcells : ∀ j u, news[j]? = some u → w.cell? (ad.add j) = some u := by
      intro j u hu
      have hj : 0 < m := by
        have := (List.getElem?_eq_some_iff.1 hu).1
        rcases Nat.eq_zero_or_pos m with h0 | h0
        · rw [hs.1, h0] at this; simp at this
        · exact h0
      obtain ⟨ad', h, hc⟩ := hs.2.2 hj
      injection h with h; subst h
      exact hc j u hu
    obtain ⟨v', w', hr, h2, h3, _, h5⟩ := run_append_own_at (P := P) w base t ty e i z size bytes ht hi hz hsz hby hz1 hsz0 (.slice A n c) n vs hown ad m c2 news hs.1 hcells hs.2.1 h63 hb hbase
    obtain ⟨A', c', rfl⟩ := form v' w' _ _ h2
    rw [hob] at h3
    rw [hob, hob] at h5
    exact ⟨A', c', w', hr, h2, h3, h5⟩

theorem wpList_appN {ops : Array Oper} {rest : List Oper} {o : Oper} {a : Act} {Q : Exit → Act → World → Prop} (s x : Operand) {t e : TypeId} {z : Value} {size bytes : Nat}
    {base : Nat} {A : Option Addr} {n c : Nat} {vs : List Value} {A2 : Option Addr} {m c2 : Nat} {news : List Value}
    (he : ElemN P t e z size bytes) (hgd : o.guard = none)
    (ho : o.op = .call { callee := .builtin .append, args := #[s, x], argTypes := #[t, t] })
    (hes : a.eval s = .slice A n c) (hex : a.eval x = .slice A2 m c2)
    (hown : OwN w base e size A n c vs) (hs : SrcN w A2 m size news)
    (hb : (n + m) * bytes ≤ 140737488355328) (h63 : n + m ≤ maxLen) (hbase : base ≤ w.heap.size)
    (h : ∀ A' c' w', OwN w' base e size A' (n + m) c' (vs ++ news) → w.grownBy w' (blkOf A) → (blkOf A' = blkOf A ∨ blkOf A' = some w.heap.size) → wpList P ops Q rest (a.put o.dst (.slice A' (n + m) c')) w') :
    wpList P ops Q (o :: rest) a w := by
  refine wpList_plain hgd fun K hK => ?_
  obtain ⟨A', c', w', hr, h2, h3, h4⟩ := run_appN (P := P) (w := w) he o.type hown (c2 := c2) hs hb h63 hbase
  unfold Oper.wp execOp
  simp only [ho, resolve, invoke, builtin, Sem.run_bind, Sem.run_pure, Result.andThen_ok, List.map_toArray, List.map_cons, List.map_nil, hes, hex, hr]
  exact hK _ _ (h A' c' w' h2 h3 h4)
end

end Go.Proofs.YtnbamljaiahmdaaGreat
