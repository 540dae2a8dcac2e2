/-
  A log record in memory, and which fields a kind has.
-/
import Derived.Test.YtpkgeidenkjnfaaByt2r
import Derived.Test.YtpkgeidenkjnfaaSame5
namespace Go.Proofs.Ytpkgeidenkjnfaa
open Go Go.RowKit

/-- A Val by value: its bytes too. -/
structure VlD where
  is : Bool
  B : Option Addr
  m : Nat
  d : Nat
  vs : List UInt8
def VlD.At (w : World) (x : VlD) : Prop := Sl w x.B x.m x.d x.vs
abbrev VlD.v (x : VlD) : Value := .agg #[.bool x.is, .slice x.B x.m x.d]
def VlD.none : VlD := ⟨false, Option.none, 0, 0, []⟩
theorem VlD.At.keep {w w' : World} {x : VlD} (h : x.At w) (hm : Mod (fun _ => False) w w') : x.At w' := Sl.mod h hm (fun _ _ _ => id)
theorem VlD.none_at (w : World) : VlD.none.At w := Sl.none_ w _ _

/-- A record by value: its kind, its numbers by their cells (1 to 9), its two values. -/
structure RcD where
  k : Int
  f : Nat → Int
  o : VlD
  v : VlD
abbrev RcD.cells (x : RcD) : Array Value := #[.int .i64 x.k, .int .i64 (x.f 1), .int .i64 (x.f 2), .int .i64 (x.f 3), .int .i64 (x.f 4), .int .i64 (x.f 5), .int .i64 (x.f 6), .int .i64 (x.f 7), .int .i64 (x.f 8), .int .i64 (x.f 9),
  .bool x.o.is, .slice x.o.B x.o.m x.o.d, .bool x.v.is, .slice x.v.B x.v.m x.v.d]
abbrev RcD.val (x : RcD) : Value := .agg x.cells
def RcD.At (w : World) (x : RcD) : Prop := x.o.At w ∧ x.v.At w
theorem RcD.At.keep {w w' : World} {x : RcD} (h : x.At w) (hm : Mod (fun _ => False) w w') : x.At w' := ⟨h.1.keep hm, h.2.keep hm⟩
/-- It lies in a block. -/
def RcD.In (w : World) (x : RcD) (g : Nat) : Prop := w.heap[g]? = some (.cells x.cells 45 (0, 0))

def upd (f : Nat → Int) (i : Nat) (z : Int) : Nat → Int := fun j => if j = i then z else f j

/-- A field: a number in a cell, of so many bytes; Old; New. -/
inductive Fld where
  | num (i wd : Nat)
  | old
  | new

def fieldsOf (k : Int) : Option (List Fld) :=
  if k = 1 then some [.num 1 1, .num 7 4, .num 3 1, .num 4 2, .old, .new]
  else if k = 2 then some [.num 1 1, .num 8 4, .num 3 1, .num 4 2, .new]
  else if k = 3 ∨ k = 4 ∨ k = 5 then some [.num 1 1]
  else if k = 6 ∨ k = 10 then some [.num 3 1, .num 5 1, .num 6 1, .num 9 4]
  else if k = 7 then some []
  else if k = 8 then some [.num 1 1, .num 2 1, .num 7 4, .num 8 4]
  else if k = 9 then some [.num 3 1, .num 9 4]
  else if k = 11 then some [.num 9 4]
  else none

section
variable {w : World} {x : RcD} {g : Nat}
theorem RcD.In.lt (h : x.In w g) : g < w.heap.size := (Array.getElem?_eq_some_iff.1 h).1
theorem RcD.In.fz (h : x.In w g) (i : Nat) : w.frozen? ⟨g, i, none⟩ = false := frozen_of_block h i
theorem RcD.In.num (h : x.In w g) {i : Nat} (h1 : 1 ≤ i) (h9 : i ≤ 9) : w.cell? ⟨g, i, none⟩ = some (.int .i64 (x.f i)) := by
  rw [cell_of_row w g i _ _ _ h]
  match i, h1, h9 with
  | 1, _, _ | 2, _, _ | 3, _, _ | 4, _, _ | 5, _, _ | 6, _, _ | 7, _, _ | 8, _, _ | 9, _, _ => rfl
theorem RcD.In.kind (h : x.In w g) : w.cell? ⟨g, 0, none⟩ = some (.int .i64 x.k) := by rw [cell_of_row w g 0 _ _ _ h]; rfl
theorem RcD.In.c10 (h : x.In w g) : w.cell? ⟨g, 10, none⟩ = some (.bool x.o.is) := by rw [cell_of_row w g 10 _ _ _ h]; rfl
theorem RcD.In.c11 (h : x.In w g) : w.cell? ⟨g, 11, none⟩ = some (.slice x.o.B x.o.m x.o.d) := by rw [cell_of_row w g 11 _ _ _ h]; rfl
theorem RcD.In.c12 (h : x.In w g) : w.cell? ⟨g, 12, none⟩ = some (.bool x.v.is) := by rw [cell_of_row w g 12 _ _ _ h]; rfl
theorem RcD.In.c13 (h : x.In w g) : w.cell? ⟨g, 13, none⟩ = some (.slice x.v.B x.v.m x.v.d) := by rw [cell_of_row w g 13 _ _ _ h]; rfl
theorem RcD.In.mod {F : Nat → Prop} {w' : World} (h : x.In w g) (hm : Mod F w w') (hg : ¬ F g) : x.In w' g := (hm.block g h.lt hg).trans h
theorem RcD.In.keep {w' : World} (h : x.In w g) (hm : Mod (fun _ => False) w w') : x.In w' g := h.mod hm id
theorem RcD.In.new (w : World) (x : RcD) : x.In (w.alloc (.cells x.cells 45)) w.heap.size := heap_alloc_new w _
/-- A number is stored. -/
theorem RcD.In.setN (h : x.In w g) {i : Nat} (h1 : 1 ≤ i) (h9 : i ≤ 9) (z : Int) : ({ x with f := upd x.f i z } : RcD).In (w.setCell ⟨g, i, none⟩ (.int .i64 z)) g := by
  show _ = _
  rw [heap_set h]
  match i, h1, h9 with
  | 1, _, _ | 2, _, _ | 3, _, _ | 4, _, _ | 5, _, _ | 6, _, _ | 7, _, _ | 8, _, _ | 9, _, _ => rfl
/-- A value is stored. -/
theorem RcD.In.setO (h : x.In w g) (y : VlD) : ({ x with o := y } : RcD).In ((w.setCell ⟨g, 10, none⟩ (.bool y.is)).setCell ⟨g, 11, none⟩ (.slice y.B y.m y.d)) g := by
  show _ = _
  rw [heap_set (heap_set h 10 _) 11 _]
  rfl
theorem RcD.In.setV (h : x.In w g) (y : VlD) : ({ x with v := y } : RcD).In ((w.setCell ⟨g, 12, none⟩ (.bool y.is)).setCell ⟨g, 13, none⟩ (.slice y.B y.m y.d)) g := by
  show _ = _
  rw [heap_set (heap_set h 12 _) 13 _]
  rfl
end

/-- A box of one cell. -/
def Bx (w : World) (b : Nat) (t : TypeId) (u : Value) : Prop := w.heap[b]? = some (.cells #[u] t (0, 0))
section
variable {w : World} {b : Nat} {t : TypeId} {u : Value}
theorem Bx.lt (h : Bx w b t u) : b < w.heap.size := (Array.getElem?_eq_some_iff.1 h).1
theorem Bx.cell (h : Bx w b t u) : w.cell? ⟨b, 0, none⟩ = some u := by rw [cell_of_row w b 0 _ _ _ h]; rfl
theorem Bx.fz (h : Bx w b t u) : w.frozen? ⟨b, 0, none⟩ = false := frozen_of_block h 0
theorem Bx.set (h : Bx w b t u) (u' : Value) : Bx (w.setCell ⟨b, 0, none⟩ u') b t u' := by show _ = _; rw [heap_set h]; rfl
theorem Bx.new (w : World) (t : TypeId) (u : Value) : Bx (w.alloc (.cells #[u] t)) w.heap.size t u := heap_alloc_new w _
theorem Bx.mod {F : Nat → Prop} {w' : World} (h : Bx w b t u) (hm : Mod F w w') (hb : ¬ F b) : Bx w' b t u := (hm.block b h.lt hb).trans h
theorem Bx.keep {w' : World} (h : Bx w b t u) (hm : Mod (fun _ => False) w w') : Bx w' b t u := h.mod hm id
end
end Go.Proofs.Ytpkgeidenkjnfaa
