/-
  As TFr, for a call with one box more (TFr's text, by gen8.py).
-/
import Derived.Test.YthbcgbbcoanbdaaTFr
namespace Go.Proofs.Ythbcgbbcoanbdaa
open Go Go.RowKit

/-- The two boxes of a call that began in w. -/
structure Bxt (w W : World) (x : TV) : Prop where
  b1 : TBx W w.heap.size x
  b2 : TBx W (w.heap.size + 2) z0
  old : Mod (fun _ => False) w W
  sz : w.heap.size + 3 ≤ W.heap.size
section
variable {w W W' : World} {x y : TV}
theorem Bxt.keep (h : Bxt w W x) (hm : Mod (fun _ => False) W W') : Bxt w W' x := ⟨h.b1.keep hm, h.b2.keep hm, h.old.trans hm (fun _ _ h => h), Nat.le_trans h.sz hm.size⟩
theorem Bxt.old1 {F : Nat → Prop} (h : Bxt w W x) (hm : Mod F W W') (hF : ∀ k, k < w.heap.size → ¬ F k) : Mod (fun _ => False) w W' :=
  ((h.old.mono (G := fun k => w.heap.size ≤ k ∨ F k) (fun _ _ h => h.elim)).trans hm (fun _ _ h => .inr h)).mono (fun k hk e => by
    rcases e with e | e
    · omega
    · exact hF k hk e)
/-- The argument's box takes another table. -/
theorem Bxt.set (h : Bxt w W x) (y : TV) : Bxt w (stT W w.heap.size y) y :=
  ⟨h.b1.set y, h.b2.mod (stT_mod W _ y) (fun e => by omega), h.old1 (stT_mod W _ y) (fun k hk e => by omega), Nat.le_trans h.sz (stT_mod W _ y).size⟩
/-- A store elsewhere. -/
theorem Bxt.other {F : Nat → Prop} (h : Bxt w W x) (hm : Mod F W W') (hF : ∀ k, k < w.heap.size + 3 → ¬ F k) : Bxt w W' x :=
  ⟨h.b1.mod hm (hF _ (by omega)), h.b2.mod hm (hF _ (by omega)), h.old1 hm (fun k hk => hF k (by omega)), Nat.le_trans h.sz hm.size⟩
/-- The clock goes on. -/
theorem Bxt.tick (h : Bxt w W x) (k : Int) : Bxt w (W.setCell ⟨w.heap.size, 3, none⟩ (.int .i64 k)) ⟨x.P, x.n, x.c, x.S, x.m, x.d, ⟨x.t.pg, x.t.sg, x.t.sl, k⟩⟩ := by
  have hm : Mod (fun q => q = w.heap.size) W (W.setCell ⟨w.heap.size, 3, none⟩ (.int .i64 k)) := (Mod.refl (fun q => q = w.heap.size) W).one (fun _ => rfl) 3 _
  exact ⟨heap_set h.b1 3 _, h.b2.mod hm (fun e => by omega), h.old1 hm (fun k hk e => by omega), Nat.le_trans h.sz hm.size⟩
/-- The result: whatever stands in the argument's box. -/
theorem Bxt.fin (h : Bxt w W x) (hx : x.At W) (hlow : ∀ k, blkOf x.P = some k ∨ blkOf x.S = some k → k ≠ w.heap.size + 2) :
    x.At (stT W (w.heap.size + 2) x) ∧ TBx (stT W (w.heap.size + 2) x) (w.heap.size + 2) x ∧ Mod (fun _ => False) w (stT W (w.heap.size + 2) x) :=
  ⟨⟨hx.pg.mod (stT_mod W _ x) (fun k hk _ e => hlow k (.inl hk) e), hx.sg.mod (stT_mod W _ x) (fun k hk _ e => hlow k (.inr hk) e)⟩, h.b2.set x, h.old1 (stT_mod W _ x) (fun k hk e => by omega)⟩
/-- An error: the result's box as it was. -/
theorem Bxt.err (h : Bxt w W x) : TBx (stT W (w.heap.size + 2) z0) (w.heap.size + 2) z0 ∧ Mod (fun _ => False) w (stT W (w.heap.size + 2) z0) :=
  ⟨h.b2.set z0, h.old1 (stT_mod W _ z0) (fun k hk e => by omega)⟩
end

/-- A table of the call's own in its box. -/
structure Ft (w W : World) (y : TV) : Prop where
  bx : Bxt w W y
  own : y.Own W (w.heap.size + 3)
section
variable {w W W' : World} {y : TV}
theorem Ft.keep (h : Ft w W y) (hm : Mod (fun _ => False) W W') : Ft w W' y := ⟨h.bx.keep hm, h.own.keep hm⟩
theorem Ft.start {x : TV} {base : Nat} (h : Bxt w W x) (hy : y.Own W base) (hb : w.heap.size + 3 ≤ base) : Ft w (stT W w.heap.size y) y :=
  ⟨h.set y, ⟨(hy.pg.mod (stT_mod W _ y) (fun k hk e => by have := (hy.pg.lt k hk).1; omega)).rebase3 (fun k hk => by have := (hy.pg.lt k hk).1; omega),
    (hy.sg.mod (stT_mod W _ y) (fun k hk e => by have := (hy.sg.lt k hk).1; omega)).rebase3 (fun k hk => by have := (hy.sg.lt k hk).1; omega)⟩⟩
theorem Ft.tick (h : Ft w W y) (k : Int) : Ft w (W.setCell ⟨w.heap.size, 3, none⟩ (.int .i64 k)) ⟨y.P, y.n, y.c, y.S, y.m, y.d, ⟨y.t.pg, y.t.sg, y.t.sl, k⟩⟩ := by
  have hm : Mod (fun q => q = w.heap.size) W (W.setCell ⟨w.heap.size, 3, none⟩ (.int .i64 k)) := (Mod.refl (fun q => q = w.heap.size) W).one (fun _ => rfl) 3 _
  exact ⟨h.bx.tick k, ⟨h.own.pg.mod hm (fun k hk e => by have := (h.own.pg.lt k hk).1; omega), h.own.sg.mod hm (fun k hk e => by have := (h.own.sg.lt k hk).1; omega)⟩⟩
/-- Where the rows lie: two blocks of two types. -/
theorem Ft.rows (h : Ft w W y) (hn : 0 < y.n) (hm : 0 < y.m) : ∃ gP gS, y.P = some ⟨gP, 0, none⟩ ∧ y.S = some ⟨gS, 0, none⟩ ∧ gP ≠ gS ∧ w.heap.size + 3 ≤ gP ∧ w.heap.size + 3 ≤ gS ∧ gP < W.heap.size ∧ gS < W.heap.size := by
  obtain ⟨gP, csP, hP, hb, hl, hh⟩ := h.own.pg.at_ hn
  obtain ⟨gS, csS, hS, hb', hl', hh'⟩ := h.own.sg.at_ hm
  refine ⟨gP, gS, hP, hS, fun e => ?_, hb, hb', hl, hl'⟩
  subst e
  rw [hh] at hh'
  injection hh' with hh'
  injection hh' with _ hh' _
  exact absurd hh' (by decide)
theorem Ft.frozen {gP gS : Nat} (h : Ft w W y) (hn : 0 < y.n) (hm : 0 < y.m) (hP : y.P = some ⟨gP, 0, none⟩) (hS : y.S = some ⟨gS, 0, none⟩) (j : Nat) : W.frozen? ⟨gP, j, none⟩ = false ∧ W.frozen? ⟨gS, j, none⟩ = false := by
  obtain ⟨g, cs, hA, _, _, hh⟩ := h.own.pg.at_ hn
  obtain ⟨g', cs', hA', _, _, hh'⟩ := h.own.sg.at_ hm
  rw [hP] at hA
  rw [hS] at hA'
  injection hA with hA
  injection hA with hA _ _
  injection hA' with hA'
  injection hA' with hA' _ _
  subst hA; subst hA'
  exact ⟨frozen_of_block hh j, frozen_of_block hh' j⟩
theorem Ft.cellsP {gP : Nat} (h : Ft w W y) (hP : y.P = some ⟨gP, 0, none⟩) {j : Nat} (hj : j < y.n) : At3 W gP (j * 3) (atS y.t.pg j) := by
  obtain ⟨b, o, hA, hc⟩ := h.own.pg.tl.cells (by omega)
  obtain ⟨g, cs, hA', _, _, _⟩ := h.own.pg.at_ (by omega)
  rw [hA] at hA'
  injection hA' with hA'
  injection hA' with h1 h2 _
  rw [hP] at hA
  injection hA with hA
  injection hA with h3 h4 _
  have := hc j hj
  rw [← h3, ← h4, Nat.zero_add] at this
  exact this
theorem Ft.cellsS {gS : Nat} (h : Ft w W y) (hS : y.S = some ⟨gS, 0, none⟩) {j : Nat} (hj : j < y.m) : At3 W gS (j * 3) (atS y.t.sg j) := by
  obtain ⟨b, o, hA, hc⟩ := h.own.sg.tl.cells (by omega)
  rw [hS] at hA
  injection hA with hA
  injection hA with h3 h4 _
  have := hc j hj
  rw [← h3, ← h4, Nat.zero_add] at this
  exact this
/-- A store of one page's place. -/
theorem Ft.setP {gP gS i : Nat} (h : Ft w W y) (hP : y.P = some ⟨gP, 0, none⟩) (hS : y.S = some ⟨gS, 0, none⟩) (hne : gP ≠ gS) (hi : i < y.n) (p : Tr) :
    Ft w (st3 W gP i p) ⟨y.P, y.n, y.c, y.S, y.m, y.d, ⟨y.t.pg.set i p, y.t.sg, y.t.sl, y.t.nw⟩⟩ := by
  have hmm := st3_mod W gP i p
  have hlt := h.own.pg.lt gP (by rw [hP]; rfl)
  refine ⟨⟨h.bx.b1.mod hmm (fun e => by omega), h.bx.b2.mod hmm (fun e => by omega), h.bx.old1 hmm (fun k hk e => by omega), Nat.le_trans h.bx.sz hmm.size⟩, ?_, ?_⟩
  · show Ow3 _ _ _ y.P _ _ _
    rw [hP]
    exact Ow3.store (by have := h.own.pg; rw [hP] at this; exact this) hi p
  · refine h.own.sg.mod hmm (fun k hk e => ?_)
    rw [hS] at hk
    simp [blkOf] at hk
    omega
/-- A store of one segment. -/
theorem Ft.setS {gP gS i : Nat} (h : Ft w W y) (hP : y.P = some ⟨gP, 0, none⟩) (hS : y.S = some ⟨gS, 0, none⟩) (hne : gP ≠ gS) (hi : i < y.m) (p : Tr) :
    Ft w (st3 W gS i p) ⟨y.P, y.n, y.c, y.S, y.m, y.d, ⟨y.t.pg, y.t.sg.set i p, y.t.sl, y.t.nw⟩⟩ := by
  have hmm := st3_mod W gS i p
  have hlt := h.own.sg.lt gS (by rw [hS]; rfl)
  refine ⟨⟨h.bx.b1.mod hmm (fun e => by omega), h.bx.b2.mod hmm (fun e => by omega), h.bx.old1 hmm (fun k hk e => by omega), Nat.le_trans h.bx.sz hmm.size⟩, ?_, ?_⟩
  · refine h.own.pg.mod hmm (fun k hk e => ?_)
    rw [hP] at hk
    simp [blkOf] at hk
    omega
  · show Ow3 _ _ _ y.S _ _ _
    rw [hS]
    exact Ow3.store (by have := h.own.sg; rw [hS] at this; exact this) hi p
theorem Ft.fin (h : Ft w W y) : y.At (stT W (w.heap.size + 2) y) ∧ TBx (stT W (w.heap.size + 2) y) (w.heap.size + 2) y ∧ Mod (fun _ => False) w (stT W (w.heap.size + 2) y) :=
  h.bx.fin h.own.at_ (fun k hk e => by
    rcases hk with hk | hk
    · have := (h.own.pg.lt k hk).1; omega
    · have := (h.own.sg.lt k hk).1; omega)
end
end Go.Proofs.Ythbcgbbcoanbdaa
