/-
  The calls that answer a table: its two boxes (the argument's, the result's), the stores into them, what comes out.
-/
import Derived.Test.YthbcgbbcoanbdaaTCopy
import Derived.Test.YthbcgbbcoanbdaaTLive
namespace Go.Proofs.Ythbcgbbcoanbdaa
open Go Go.RowKit

def z0 : TV := ⟨none, 0, 0, none, 0, 0, noTb⟩
/-- What such a call answers: an error (0: none) and a table. -/
def TbAns (w w' : World) (E : Int) (T : Tb) (e : Ending) : Prop :=
  ∃ y : TV, e = .returned (.tuple #[.agg #[.slice y.P y.n y.c, .slice y.S y.m y.d, .int .i64 y.t.sl, .int .i64 y.t.nw], .int .i64 E]) ∧ y.At w' ∧ y.t = (if E = 0 then T else noTb) ∧ Mod (fun _ => False) w w'
theorem z0_at (w : World) : z0.At w := ⟨Tl.nil _ _ _, Tl.nil _ _ _⟩

/-- Four stores into a box. -/
def stT (W : World) (b : Nat) (y : TV) : World := (((W.setCell ⟨b, 0, none⟩ (.slice y.P y.n y.c)).setCell ⟨b, 1, none⟩ (.slice y.S y.m y.d)).setCell ⟨b, 2, none⟩ (.int .i64 y.t.sl)).setCell ⟨b, 3, none⟩ (.int .i64 y.t.nw)
/-- Three stores into a row. -/
def st3 (W : World) (g i : Nat) (p : Tr) : World := ((W.setCell ⟨g, i * 3, none⟩ (.int .i64 p.a)).setCell ⟨g, i * 3 + 1, none⟩ (.int .i64 p.b)).setCell ⟨g, i * 3 + 2, none⟩ (.int .i64 p.c)
theorem stT_mod (W : World) (b : Nat) (y : TV) : Mod (fun k => k = b) W (stT W b y) := ((((Mod.refl (fun k => k = b) W).one (fun _ => rfl) 0 _).one (fun _ => rfl) 1 _).one (fun _ => rfl) 2 _).one (fun _ => rfl) 3 _
theorem st3_mod (W : World) (g i : Nat) (p : Tr) : Mod (fun k => k = g) W (st3 W g i p) := Mod.three g _ _ _ _ _ _

/-- The two boxes of a call that began in w. -/
structure Bxs (w W : World) (x : TV) : Prop where
  b1 : TBx W w.heap.size x
  b2 : TBx W (w.heap.size + 1) z0
  old : Mod (fun _ => False) w W
  sz : w.heap.size + 2 ≤ W.heap.size
section
variable {w W W' : World} {x y : TV}
theorem Bxs.keep (h : Bxs w W x) (hm : Mod (fun _ => False) W W') : Bxs w W' x := ⟨h.b1.keep hm, h.b2.keep hm, h.old.trans hm (fun _ _ h => h), Nat.le_trans h.sz hm.size⟩
theorem Bxs.old1 {F : Nat → Prop} (h : Bxs w W x) (hm : Mod F W W') (hF : ∀ k, k < w.heap.size → ¬ F k) : Mod (fun _ => False) w W' :=
  ((h.old.mono (G := fun k => w.heap.size ≤ k ∨ F k) (fun _ _ h => h.elim)).trans hm (fun _ _ h => .inr h)).mono (fun k hk e => by
    rcases e with e | e
    · omega
    · exact hF k hk e)
/-- The argument's box takes another table. -/
theorem Bxs.set (h : Bxs w W x) (y : TV) : Bxs w (stT W w.heap.size y) y :=
  ⟨h.b1.set y, h.b2.mod (stT_mod W _ y) (fun e => by omega), h.old1 (stT_mod W _ y) (fun k hk e => by omega), Nat.le_trans h.sz (stT_mod W _ y).size⟩
/-- A store elsewhere. -/
theorem Bxs.other {F : Nat → Prop} (h : Bxs w W x) (hm : Mod F W W') (hF : ∀ k, k < w.heap.size + 2 → ¬ F k) : Bxs w W' x :=
  ⟨h.b1.mod hm (hF _ (by omega)), h.b2.mod hm (hF _ (by omega)), h.old1 hm (fun k hk => hF k (by omega)), Nat.le_trans h.sz hm.size⟩
/-- The clock goes on. -/
theorem Bxs.tick (h : Bxs w W x) (k : Int) : Bxs w (W.setCell ⟨w.heap.size, 3, none⟩ (.int .i64 k)) ⟨x.P, x.n, x.c, x.S, x.m, x.d, ⟨x.t.pg, x.t.sg, x.t.sl, k⟩⟩ := by
  have hm : Mod (fun q => q = w.heap.size) W (W.setCell ⟨w.heap.size, 3, none⟩ (.int .i64 k)) := (Mod.refl (fun q => q = w.heap.size) W).one (fun _ => rfl) 3 _
  exact ⟨heap_set h.b1 3 _, h.b2.mod hm (fun e => by omega), h.old1 hm (fun k hk e => by omega), Nat.le_trans h.sz hm.size⟩
/-- The result: whatever stands in the argument's box. -/
theorem Bxs.fin (h : Bxs w W x) (hx : x.At W) (hlow : ∀ k, blkOf x.P = some k ∨ blkOf x.S = some k → k ≠ w.heap.size + 1) :
    x.At (stT W (w.heap.size + 1) x) ∧ TBx (stT W (w.heap.size + 1) x) (w.heap.size + 1) x ∧ Mod (fun _ => False) w (stT W (w.heap.size + 1) x) :=
  ⟨⟨hx.pg.mod (stT_mod W _ x) (fun k hk _ e => hlow k (.inl hk) e), hx.sg.mod (stT_mod W _ x) (fun k hk _ e => hlow k (.inr hk) e)⟩, h.b2.set x, h.old1 (stT_mod W _ x) (fun k hk e => by omega)⟩
/-- An error: the result's box as it was. -/
theorem Bxs.err (h : Bxs w W x) : TBx (stT W (w.heap.size + 1) z0) (w.heap.size + 1) z0 ∧ Mod (fun _ => False) w (stT W (w.heap.size + 1) z0) :=
  ⟨h.b2.set z0, h.old1 (stT_mod W _ z0) (fun k hk e => by omega)⟩
end

/-- A table of the call's own in its box. -/
structure Fr (w W : World) (y : TV) : Prop where
  bx : Bxs w W y
  own : y.Own W (w.heap.size + 2)
section
variable {w W W' : World} {y : TV}
theorem Fr.keep (h : Fr w W y) (hm : Mod (fun _ => False) W W') : Fr w W' y := ⟨h.bx.keep hm, h.own.keep hm⟩
theorem Fr.start {x : TV} {base : Nat} (h : Bxs w W x) (hy : y.Own W base) (hb : w.heap.size + 2 ≤ base) : Fr w (stT W w.heap.size y) y :=
  ⟨h.set y, ⟨(hy.pg.mod (stT_mod W _ y) (fun k hk e => by have := (hy.pg.lt k hk).1; omega)).rebase3 (fun k hk => by have := (hy.pg.lt k hk).1; omega),
    (hy.sg.mod (stT_mod W _ y) (fun k hk e => by have := (hy.sg.lt k hk).1; omega)).rebase3 (fun k hk => by have := (hy.sg.lt k hk).1; omega)⟩⟩
theorem Fr.tick (h : Fr w W y) (k : Int) : Fr w (W.setCell ⟨w.heap.size, 3, none⟩ (.int .i64 k)) ⟨y.P, y.n, y.c, y.S, y.m, y.d, ⟨y.t.pg, y.t.sg, y.t.sl, k⟩⟩ := by
  have hm : Mod (fun q => q = w.heap.size) W (W.setCell ⟨w.heap.size, 3, none⟩ (.int .i64 k)) := (Mod.refl (fun q => q = w.heap.size) W).one (fun _ => rfl) 3 _
  exact ⟨h.bx.tick k, ⟨h.own.pg.mod hm (fun k hk e => by have := (h.own.pg.lt k hk).1; omega), h.own.sg.mod hm (fun k hk e => by have := (h.own.sg.lt k hk).1; omega)⟩⟩
/-- Where the rows lie: two blocks of two types. -/
theorem Fr.rows (h : Fr w W y) (hn : 0 < y.n) (hm : 0 < y.m) : ∃ gP gS, y.P = some ⟨gP, 0, none⟩ ∧ y.S = some ⟨gS, 0, none⟩ ∧ gP ≠ gS ∧ w.heap.size + 2 ≤ gP ∧ w.heap.size + 2 ≤ gS ∧ gP < W.heap.size ∧ gS < W.heap.size := by
  obtain ⟨gP, csP, hP, hb, hl, hh⟩ := h.own.pg.at_ hn
  obtain ⟨gS, csS, hS, hb', hl', hh'⟩ := h.own.sg.at_ hm
  refine ⟨gP, gS, hP, hS, fun e => ?_, hb, hb', hl, hl'⟩
  subst e
  rw [hh] at hh'
  injection hh' with hh'
  injection hh' with _ hh' _
  exact absurd hh' (by decide)
theorem Fr.frozen {gP gS : Nat} (h : Fr w W y) (hn : 0 < y.n) (hm : 0 < y.m) (hP : y.P = some ⟨gP, 0, none⟩) (hS : y.S = some ⟨gS, 0, none⟩) (j : Nat) : W.frozen? ⟨gP, j, none⟩ = false ∧ W.frozen? ⟨gS, j, none⟩ = false := by
  obtain ⟨g, cs, hA, _, _, hh⟩ := h.own.pg.at_ hn
  obtain ⟨g', cs', hA', _, _, hh'⟩ := h.own.sg.at_ hm
  rw [hP] at hA
  rw [hS] at hA'
  injection hA with hA
  injection hA with hA _ _
  injection hA' with hA'
  injection hA' with hA' _ _
  subst hA; subst hA'
  exact ⟨frozen_of_block hh j, frozen_of_block hh' j⟩
theorem Fr.cellsP {gP : Nat} (h : Fr w W y) (hP : y.P = some ⟨gP, 0, none⟩) {j : Nat} (hj : j < y.n) : At3 W gP (j * 3) (atS y.t.pg j) := by
  obtain ⟨b, o, hA, hc⟩ := h.own.pg.tl.cells (by omega)
  obtain ⟨g, cs, hA', _, _, _⟩ := h.own.pg.at_ (by omega)
  rw [hA] at hA'
  injection hA' with hA'
  injection hA' with h1 h2 _
  rw [hP] at hA
  injection hA with hA
  injection hA with h3 h4 _
  have := hc j hj
  rw [← h3, ← h4, Nat.zero_add] at this
  exact this
theorem Fr.cellsS {gS : Nat} (h : Fr w W y) (hS : y.S = some ⟨gS, 0, none⟩) {j : Nat} (hj : j < y.m) : At3 W gS (j * 3) (atS y.t.sg j) := by
  obtain ⟨b, o, hA, hc⟩ := h.own.sg.tl.cells (by omega)
  rw [hS] at hA
  injection hA with hA
  injection hA with h3 h4 _
  have := hc j hj
  rw [← h3, ← h4, Nat.zero_add] at this
  exact this
/-- A store of one page's place. -/
theorem Fr.setP {gP gS i : Nat} (h : Fr w W y) (hP : y.P = some ⟨gP, 0, none⟩) (hS : y.S = some ⟨gS, 0, none⟩) (hne : gP ≠ gS) (hi : i < y.n) (p : Tr) :
    Fr w (st3 W gP i p) ⟨y.P, y.n, y.c, y.S, y.m, y.d, ⟨y.t.pg.set i p, y.t.sg, y.t.sl, y.t.nw⟩⟩ := by
  have hmm := st3_mod W gP i p
  have hlt := h.own.pg.lt gP (by rw [hP]; rfl)
  refine ⟨⟨h.bx.b1.mod hmm (fun e => by omega), h.bx.b2.mod hmm (fun e => by omega), h.bx.old1 hmm (fun k hk e => by omega), Nat.le_trans h.bx.sz hmm.size⟩, ?_, ?_⟩
  · show Ow3 _ _ _ y.P _ _ _
    rw [hP]
    exact Ow3.store (by have := h.own.pg; rw [hP] at this; exact this) hi p
  · refine h.own.sg.mod hmm (fun k hk e => ?_)
    rw [hS] at hk
    simp [blkOf] at hk
    omega
/-- A store of one segment. -/
theorem Fr.setS {gP gS i : Nat} (h : Fr w W y) (hP : y.P = some ⟨gP, 0, none⟩) (hS : y.S = some ⟨gS, 0, none⟩) (hne : gP ≠ gS) (hi : i < y.m) (p : Tr) :
    Fr w (st3 W gS i p) ⟨y.P, y.n, y.c, y.S, y.m, y.d, ⟨y.t.pg, y.t.sg.set i p, y.t.sl, y.t.nw⟩⟩ := by
  have hmm := st3_mod W gS i p
  have hlt := h.own.sg.lt gS (by rw [hS]; rfl)
  refine ⟨⟨h.bx.b1.mod hmm (fun e => by omega), h.bx.b2.mod hmm (fun e => by omega), h.bx.old1 hmm (fun k hk e => by omega), Nat.le_trans h.bx.sz hmm.size⟩, ?_, ?_⟩
  · refine h.own.pg.mod hmm (fun k hk e => ?_)
    rw [hP] at hk
    simp [blkOf] at hk
    omega
  · show Ow3 _ _ _ y.S _ _ _
    rw [hS]
    exact Ow3.store (by have := h.own.sg; rw [hS] at this; exact this) hi p
theorem Fr.fin (h : Fr w W y) : y.At (stT W (w.heap.size + 1) y) ∧ TBx (stT W (w.heap.size + 1) y) (w.heap.size + 1) y ∧ Mod (fun _ => False) w (stT W (w.heap.size + 1) y) :=
  h.bx.fin h.own.at_ (fun k hk e => by
    rcases hk with hk | hk
    · have := (h.own.pg.lt k hk).1; omega
    · have := (h.own.sg.lt k hk).1; omega)
end
end Go.Proofs.Ythbcgbbcoanbdaa
