/-
  Tables in memory: slices of three numbers, a table by value, a table in a box of the call's own.
-/
import Derived.Test.YtpkjafadhnecfaaTMath
import Derived.Test.YtpkjafadhnecfaaRowM
import Derived.Test.YtpkjafadhnecfaaRows
import Derived.Laws.StructEq
namespace Go.Proofs.Ytpkjafadhnecfaa
open Go Go.RowKit

/-- Three cells from a place on. -/
def At3 (w : World) (b o : Nat) (x : Tr) : Prop := w.cell? ⟨b, o, none⟩ = some (.int .i64 x.a) ∧ w.cell? ⟨b, o + 1, none⟩ = some (.int .i64 x.b) ∧ w.cell? ⟨b, o + 2, none⟩ = some (.int .i64 x.c)
theorem At3.keep {w w' : World} {b o : Nat} {x : Tr} (h : At3 w b o x) (hb : w'.heap[b]? = w.heap[b]?) : At3 w' b o x :=
  ⟨(World.cell?_of_block hb).trans h.1, (World.cell?_of_block hb).trans h.2.1, (World.cell?_of_block hb).trans h.2.2⟩
theorem At3.lt {w : World} {b o : Nat} {x : Tr} (h : At3 w b o x) : b < w.heap.size := World.block_lt_of_cell? w _ h.1

/-- The slice value '.slice A n c' reads as the triples l. -/
def Tl (w : World) (A : Option Addr) (n c : Nat) (l : List Tr) : Prop :=
  l.length = n ∧ n ≤ c ∧ (0 < n → ∃ b o, A = some ⟨b, o, none⟩ ∧ ∀ j, j < n → At3 w b (o + j * 3) (atS l j))
section
variable {w w' : World} {A : Option Addr} {n c : Nat} {l : List Tr}
theorem Tl.len (h : Tl w A n c l) : l.length = n := h.1
theorem Tl.cap (h : Tl w A n c l) : n ≤ c := h.2.1
theorem Tl.cells (h : Tl w A n c l) (hn : 0 < n) : ∃ b o, A = some ⟨b, o, none⟩ ∧ ∀ j, j < n → At3 w b (o + j * 3) (atS l j) := h.2.2 hn
theorem Tl.nil (w : World) (A : Option Addr) (c : Nat) : Tl w A 0 c [] := ⟨rfl, Nat.zero_le _, fun h => absurd h (by omega)⟩
theorem Tl.mod {F : Nat → Prop} (h : Tl w A n c l) (hm : Mod F w w') (hF : ∀ k, blkOf A = some k → 0 < n → ¬ F k) : Tl w' A n c l := by
  refine ⟨h.1, h.2.1, fun hn => ?_⟩
  obtain ⟨b, o, rfl, hc⟩ := h.2.2 hn
  exact ⟨b, o, rfl, fun j hj => (hc j hj).keep (hm.block b (hc j hj).lt (hF b rfl hn))⟩
theorem Tl.keep (h : Tl w A n c l) (hm : Mod (fun _ => False) w w') : Tl w' A n c l := h.mod hm (fun _ _ _ => id)
theorem Tl.lt (h : Tl w A n c l) (hn : 0 < n) : ∃ b o, A = some ⟨b, o, none⟩ ∧ b < w.heap.size := by
  obtain ⟨b, o, rfl, hc⟩ := h.2.2 hn
  exact ⟨b, o, rfl, (hc 0 hn).lt⟩
end

/-- All cells of some triples. -/
def tri (x : Tr) : List Value := [.int .i64 x.a, .int .i64 x.b, .int .i64 x.c]
def trs (l : List Tr) : List Value := l.flatMap tri
theorem trs_cons (x : Tr) (l : List Tr) : trs (x :: l) = tri x ++ trs l := rfl
theorem trs_append (a b : List Tr) : trs (a ++ b) = trs a ++ trs b := List.flatMap_append
theorem trs_len : ∀ l : List Tr, (trs l).length = l.length * 3
  | [] => rfl
  | x :: l => by rw [trs_cons, List.length_append, trs_len l, List.length_cons]; simp [tri]; omega
theorem trs_get : ∀ (l : List Tr) (i : Nat), i < l.length → ∀ j, j < 3 → (trs l)[i * 3 + j]? = (tri (atS l i))[j]?
  | [], i, h, _, _ => by simp at h
  | y :: l, 0, _, j, hj => by
    rw [trs_cons, Nat.zero_mul, Nat.zero_add, List.getElem?_append_left (by simp [tri]; omega)]
    rfl
  | y :: l, i + 1, h, j, hj => by
    rw [trs_cons, List.getElem?_append_right (by simp [tri]; omega)]
    have e : (i + 1) * 3 + j - (tri y).length = i * 3 + j := by simp [tri]; omega
    rw [e, trs_get l i (by simpa using h) j hj]
    rfl
theorem trs_one (l : List Tr) : ∀ u ∈ trs l, u.oneCell' = true := by
  intro u hu
  simp only [trs, List.mem_flatMap] at hu
  obtain ⟨x, _, hx⟩ := hu
  simp [tri] at hx
  rcases hx with rfl | rfl | rfl <;> rfl
theorem trs_set : ∀ (l : List Tr) (i : Nat) (x : Tr), i < l.length → (((trs l).set (i * 3) (.int .i64 x.a)).set (i * 3 + 1) (.int .i64 x.b)).set (i * 3 + 2) (.int .i64 x.c) = trs (l.set i x)
  | [], i, _, h => by simp at h
  | y :: l, 0, x, _ => by simp [trs_cons, tri]
  | y :: l, i + 1, x, h => by
    have ih := trs_set l i x (by simpa using h)
    rw [trs_cons, show (i + 1) * 3 = (tri y).length + i * 3 by simp [tri]; omega, Nat.add_assoc, Nat.add_assoc]
    rw [List.set_append_right _ _ (by omega), List.set_append_right _ _ (by omega), List.set_append_right _ _ (by omega)]
    simp only [Nat.add_sub_cancel_left]
    rw [ih]
    rfl

theorem Tl.src {w : World} {A : Option Addr} {n c : Nat} {l : List Tr} (h : Tl w A n c l) : SrcN w A n 3 (trs l) := by
  refine ⟨by rw [trs_len, h.1], trs_one l, fun hp => ?_⟩
  obtain ⟨b, o, rfl, hc⟩ := h.2.2 hp
  refine ⟨_, rfl, fun j u hu => ?_⟩
  have hj : j < l.length * 3 := by rw [← trs_len]; exact (List.getElem?_eq_some_iff.1 hu).1
  have hadd : (⟨b, o, none⟩ : Addr).add j = ⟨b, o + j, none⟩ := by unfold Addr.add; split <;> simp_all
  rw [hadd]
  have hlen := h.1
  obtain ⟨c0, c1, c2⟩ := hc (j / 3) (by omega)
  have hr : j = j / 3 * 3 ∨ j = j / 3 * 3 + 1 ∨ j = j / 3 * 3 + 2 := by omega
  have g := trs_get l (j / 3) (by omega)
  rcases hr with e | e | e
  · have g0 := g 0 (by omega)
    rw [Nat.add_zero] at g0
    rw [e] at hu ⊢; rw [g0] at hu; rw [c0, ← hu]; rfl
  · have g0 := g 1 (by omega)
    rw [e] at hu ⊢; rw [g0] at hu; rw [← Nat.add_assoc, c1, ← hu]; rfl
  · have g0 := g 2 (by omega)
    rw [e] at hu ⊢; rw [g0] at hu; rw [← Nat.add_assoc, c2, ← hu]; rfl

theorem OwN.form {w : World} {A : Option Addr} {n c base : Nat} {e : TypeId} {size : Nat} {vs : List Value} (h : OwN w base e size A n c vs) : A = none ∨ ∃ b, A = some ⟨b, 0, none⟩ := by
  rcases h.2 with ⟨hv, _⟩ | ⟨g, cap, cur, hv, _⟩
  · injection hv with hA; exact .inl hA
  · injection hv with hA; exact .inr ⟨g, hA⟩
theorem OwN.open_ {w : World} {A : Option Addr} {n c base : Nat} {e : TypeId} {size : Nat} {vs : List Value} (h : OwN w base e size A n c vs) (hn : 0 < n) :
    ∃ g cur, A = some ⟨g, 0, none⟩ ∧ base ≤ g ∧ w.heap[g]? = some (.cells (List.toArray cur) e (0, 0)) ∧ n ≤ c ∧ c ≤ maxLen ∧ cur.length = c * size ∧ cur.take (n * size) = vs := by
  rcases h.2 with ⟨_, h0⟩ | ⟨g, cap, cur, hv, hb, hh, h1, h2, h3, h4⟩
  · omega
  · injection hv with hA _ hc
    subst hA; subst hc
    exact ⟨g, cur.toList, rfl, hb, by simpa using hh, h1, h2, by simpa using h3, h4⟩
theorem OwN.mk_ {w : World} {n c base g : Nat} {e : TypeId} {size : Nat} {vs cur : List Value} (hb : base ≤ g) (hh : w.heap[g]? = some (.cells (List.toArray cur) e (0, 0))) (h1 : n ≤ c) (h2 : c ≤ maxLen) (h3 : cur.length = c * size) (h4 : cur.take (n * size) = vs) (hv : vs.length = n * size) :
    OwN w base e size (some ⟨g, 0, none⟩) n c vs :=
  ⟨hv, .inr ⟨g, c, cur.toArray, rfl, hb, hh, h1, h2, by simpa using h3, by simpa using h4⟩⟩

/-- A row of the call's own that holds triples. -/
def Ow3 (w : World) (base : Nat) (e : TypeId) (A : Option Addr) (n c : Nat) (l : List Tr) : Prop := OwN w base e 3 A n c (trs l)
section
variable {w w' : World} {base : Nat} {e : TypeId} {A : Option Addr} {n c : Nat} {l : List Tr}
theorem Ow3.len (h : Ow3 w base e A n c l) : l.length = n := by have := h.1; rw [trs_len] at this; omega
theorem Ow3.tl (h : Ow3 w base e A n c l) : Tl w A n c l := by
  refine ⟨h.len, OwN.cap h, fun hp => ?_⟩
  obtain ⟨g, rfl, hc⟩ := OwN.cells h hp
  refine ⟨g, 0, rfl, fun i hi => ?_⟩
  have hl := h.len
  have d := trs_get l i (by omega)
  have d0 := d 0 (by omega)
  rw [Nat.add_zero] at d0
  rw [Nat.zero_add]
  exact ⟨(hc _ (by omega)).trans d0, (hc _ (by omega)).trans (d 1 (by omega)), (hc _ (by omega)).trans (d 2 (by omega))⟩
theorem Ow3.mod {F : Nat → Prop} (h : Ow3 w base e A n c l) (hm : Mod F w w') (hF : ∀ k, blkOf A = some k → ¬ F k) : Ow3 w' base e A n c l := OwN.mod h hm hF
theorem Ow3.keep (h : Ow3 w base e A n c l) (hm : Mod (fun _ => False) w w') : Ow3 w' base e A n c l := OwN.mod h hm (fun _ _ => id)
theorem Ow3.lt (h : Ow3 w base e A n c l) : ∀ k, blkOf A = some k → base ≤ k ∧ k < w.heap.size := OwN.lt h
/-- Where it lies. -/
theorem Ow3.at_ (h : Ow3 w base e A n c l) (hn : 0 < n) : ∃ g cs, A = some ⟨g, 0, none⟩ ∧ base ≤ g ∧ g < w.heap.size ∧ w.heap[g]? = some (.cells cs e (0, 0)) := by
  obtain ⟨g, cur, hA, hb, hh, _⟩ := OwN.open_ h hn
  exact ⟨g, _, hA, hb, (Array.getElem?_eq_some_iff.1 hh).1, hh⟩
/-- A store of one triple. -/
theorem Ow3.store {g i : Nat} (h : Ow3 w base e (some ⟨g, 0, none⟩) n c l) (hi : i < n) (x : Tr) :
    Ow3 (((w.setCell ⟨g, i * 3, none⟩ (.int .i64 x.a)).setCell ⟨g, i * 3 + 1, none⟩ (.int .i64 x.b)).setCell ⟨g, i * 3 + 2, none⟩ (.int .i64 x.c)) base e (some ⟨g, 0, none⟩) n c (l.set i x) := by
  obtain ⟨g', cur, hA, hb, hh, h1, h2, h3, h4⟩ := OwN.open_ h (by omega)
  injection hA with hA
  injection hA with hA _ _
  subst hA
  have hl := h.len
  have k1 := heap_set hh (i * 3) (.int .i64 x.a)
  have k2 := heap_set k1 (i * 3 + 1) (.int .i64 x.b)
  have k3 := heap_set k2 (i * 3 + 2) (.int .i64 x.c)
  have e : (((cur.toArray.setIfInBounds (i * 3) (.int .i64 x.a)).setIfInBounds (i * 3 + 1) (.int .i64 x.b)).setIfInBounds (i * 3 + 2) (.int .i64 x.c)) = (((cur.set (i * 3) (.int .i64 x.a)).set (i * 3 + 1) (.int .i64 x.b)).set (i * 3 + 2) (.int .i64 x.c)).toArray := by simp
  rw [e] at k3
  refine OwN.mk_ hb k3 h1 h2 (by simp [h3]) ?_ (by rw [trs_len, List.length_set, hl])
  rw [← trs_set l i x (by omega), ← h4, List.take_set, List.take_set, List.take_set]
end
theorem Mod.one {F : Nat → Prop} {a w : World} (h : Mod F a w) {g : Nat} (hg : g < a.heap.size → F g) (i : Nat) (u : Value) : Mod F a (w.setCell ⟨g, i, none⟩ u) := h.setCell hg u
theorem Mod.three {w : World} (g i j k : Nat) (u v z : Value) : Mod (fun q => q = g) w (((w.setCell ⟨g, i, none⟩ u).setCell ⟨g, j, none⟩ v).setCell ⟨g, k, none⟩ z) :=
  (((Mod.refl (fun q => q = g) w).one (fun _ => rfl) i u).one (fun _ => rfl) j v).one (fun _ => rfl) k z

/-- A table by value. -/
structure TV where
  P : Option Addr
  n : Nat
  c : Nat
  S : Option Addr
  m : Nat
  d : Nat
  t : Tb
def TV.val (x : TV) : Value := .agg #[.slice x.P x.n x.c, .slice x.S x.m x.d, .int .i64 x.t.sl, .int .i64 x.t.nw]
structure TV.At (x : TV) (w : World) : Prop where
  pg : Tl w x.P x.n x.c x.t.pg
  sg : Tl w x.S x.m x.d x.t.sg
theorem TV.At.keep {x : TV} {w w' : World} (h : x.At w) (hm : Mod (fun _ => False) w w') : x.At w' := ⟨h.pg.keep hm, h.sg.keep hm⟩
section
variable {w w' : World} {b : Nat} {x : TV}
end
/-- Three numbers in a box. -/
def RBx (W : World) (b : Nat) (e : TypeId) (x : Tr) : Prop := W.heap[b]? = some (.cells #[.int .i64 x.a, .int .i64 x.b, .int .i64 x.c] e (0, 0))
section
variable {w w' : World} {b : Nat} {e : TypeId} {x : Tr}
theorem RBx.new (w : World) (e : TypeId) (x : Tr) : RBx (w.alloc (.cells #[.int .i64 x.a, .int .i64 x.b, .int .i64 x.c] e)) w.heap.size e x := heap_alloc_new w _
theorem RBx.cells (h : RBx w b e x) : w.cell? ⟨b, 0, none⟩ = some (.int .i64 x.a) ∧ w.cell? ⟨b, 1, none⟩ = some (.int .i64 x.b) ∧ w.cell? ⟨b, 2, none⟩ = some (.int .i64 x.c) :=
  ⟨by rw [cell_of_row _ _ _ _ _ _ h]; rfl, by rw [cell_of_row _ _ _ _ _ _ h]; rfl, by rw [cell_of_row _ _ _ _ _ _ h]; rfl⟩
theorem RBx.lt (h : RBx w b e x) : b < w.heap.size := (Array.getElem?_eq_some_iff.1 h).1
theorem RBx.keep (h : RBx w b e x) (hm : Mod (fun _ => False) w w') : RBx w' b e x := (hm.block b h.lt id).trans h
theorem RBx.mod {F : Nat → Prop} (h : RBx w b e x) (hm : Mod F w w') (hF : ¬ F b) : RBx w' b e x := (hm.block b h.lt hF).trans h
theorem RBx.frozen (h : RBx w b e x) (j : Nat) : w.frozen? ⟨b, j, none⟩ = false := frozen_of_block h j
end

/-! ### Two structs compared -/
end Go.Proofs.Ytpkjafadhnecfaa
