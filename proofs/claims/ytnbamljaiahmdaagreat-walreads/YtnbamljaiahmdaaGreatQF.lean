/-
  More contracts of package byt: Take.
  A log record in memory, and which fields a kind has.
-/
import Derived.Test.YtnbamljaiahmdaaGreatQA
namespace Go.Proofs.YtnbamljaiahmdaaGreat
open Go Go.RowKit

theorem take_nil (w : World) :
    Calls Tryz.prog 90 #[.pointer none] w fun e w' => e = .returned (.tuple #[.slice none 0 0, .int .i64 6]) ∧ w = w' := by
  go_enter Tryz.func90, Tryz.ntmps90
  go_wp2_with (go_at_call 92; refine (left_nil _).mono ?_; rintro e w' ⟨rfl, rfl⟩)
  go_ret2
  exact ⟨rfl, rfl⟩

set_option maxHeartbeats 400000 in
theorem take_short (w : World) (g : Nat) (A : Option Addr) (n c : Nat) (xs : List UInt8) (h : Rd w g A n c xs) (hn : n < 1 + (xs.getD 0 0).toNat) :
    Calls Tryz.prog 90 #[.pointer (some ⟨g, 0, none⟩)] w fun e w' => e = .returned (.tuple #[.slice none 0 0, .int .i64 6]) ∧ w = w' := by
  have h1 := h.cell
  by_cases h0 : n = 0
  · subst h0
    clear hn
    go_enter Tryz.func90, Tryz.ntmps90
    go_wp2_with (go_at_call 92; refine (left_ok _ g _ 0 c xs h).mono ?_; rintro e w' ⟨rfl, rfl⟩)
    go_ret2
    exact ⟨rfl, rfl⟩
  · obtain ⟨b, o, rfl, hcell⟩ := h.2.1.2.2 (by omega)
    obtain ⟨x, hx⟩ : ∃ x : Nat, (xs.getD 0 0).toNat = x := ⟨_, rfl⟩
    have hc0 : w.cell? ⟨b, o, none⟩ = some (.int .u8 (x : Int)) := by rw [← hx]; exact hcell 0 (by omega)
    have hb : ((n : Int) == 0) = false := by simp; omega
    have hx1 := (xs.getD 0 0).toNat_lt
    rw [hx] at hn hx1
    have hlt : (n : Int) < 1 + (x : Int) := by omega
    have hx2 : (x : Int) < 256 := by omega
    have hn0 : (0 : Int) < n := by omega
    clear hcell hn hx h0 hx1
    go_enter Tryz.func90, Tryz.ntmps90
    go_wp2_with (go_at_call 92; refine (left_ok _ g _ n c xs h).mono ?_; rintro e w' ⟨rfl, rfl⟩)
    go_ret2
    exact ⟨rfl, rfl⟩

set_option maxHeartbeats 800000 in
set_option maxRecDepth 100000 in
theorem take_ok (w : World) (g : Nat) (A : Option Addr) (n c : Nat) (xs : List UInt8) (h : Rd w g A n c xs) (hc : c ≤ maxLen) (h0 : 0 < n) (x : Nat) (hx : (xs.getD 0 0).toNat = x) (hn : 1 + x ≤ n) :
    Calls Tryz.prog 90 #[.pointer (some ⟨g, 0, none⟩)] w fun e w' => e = .returned (.tuple #[.slice (some ⟨w.heap.size, 0, none⟩) x x, .int .i64 0]) ∧
      ∃ w1, Fresh w w1 ((xs.drop 1).take x) ∧ Got w1 g A n c (1 + x) xs w' := by
  have h1 := h.cell
  have h2 := h.frozen
  have hlt := h.lt
  obtain ⟨b, o, rfl, hcell⟩ := h.2.1.2.2 (by omega)
  have hc0 : w.cell? ⟨b, o, none⟩ = some (.int .u8 (x : Int)) := by rw [← hx]; exact hcell 0 (by omega)
  have hb : ((n : Int) == 0) = false := by simp; omega
  have hx1 := (xs.getD 0 0).toNat_lt
  rw [hx] at hx1
  have hx2 : (x : Int) < 256 := by omega
  have hn0 : (0 : Int) < n := by omega
  have hn1 : 1 + (x : Int) ≤ n := by omega
  have hC := h.2.1.cap
  have hC1 : (n : Int) ≤ c := by omega
  have hsub : Sl w (some ⟨b, o + 1, none⟩) x (c - 1) ((xs.drop 1).take x) := by
    refine ⟨by simp [h.2.1.len]; omega, by omega, fun _ => ⟨b, o + 1, rfl, fun j hj => ?_⟩⟩
    rw [Nat.add_assoc, hcell (1 + j) (by omega)]
    simp [hj, Nat.add_comm]
  have ht : (1 + (x : Int)).toNat = 1 + x := by omega
  have hn2 : 1 + (x : Int) ≤ c := by omega
  have Hh := Lib.hid h
  have Hn := Lib.hid hn
  have Hc := Lib.hid hc
  clear hcell hx hx1 hc hn
  obtain ⟨A1, hA1, hsub1⟩ : ∃ A1, A1 = (if c = 1 then some ⟨b, o, none⟩ else some ⟨b, o + 1, none⟩) ∧ Sl w A1 x (c - 1) ((xs.drop 1).take x) := by
    refine ⟨_, rfl, ?_⟩
    split
    · obtain rfl : x = 0 := by omega
      exact ⟨by simp, by omega, fun h => absurd h (by omega)⟩
    · exact hsub
  have HA1 := Lib.hid hA1
  clear hA1 hsub
  by_cases hc1 : c = 1
  · have hA2 := HA1.out
    rw [if_pos hc1] at hA2
    obtain rfl : x = 0 := by omega
    obtain rfl : n = 1 := by omega
    subst hc1 hA2
    go_enter Tryz.func90, Tryz.ntmps90
    go_wp2_with (go_at_call 92; refine (left_ok _ g _ 1 1 xs h).mono ?_; rintro e w' ⟨rfl, rfl⟩)
    refine (clone_ok _ _ 0 (1 - 1) _ hsub1 (by omega)).mono ?_
    rintro e w1 ⟨rfl, hb1, hz1, hm1⟩
    have hr1 : Rd w1 g (some ⟨b, o, none⟩) 1 1 xs := Hh.out.mod hm1 id (fun _ _ _ => id)
    have hg1 := hr1.cell
    have hg2 := hr1.frozen
    have hcut := hr1.cut (1 + 0) (by omega)
    rw [if_pos rfl] at hcut
    have Hcut := Lib.hid hcut
    have Hf : Hid (Fresh w w1 ((xs.drop 1).take 0)) := ⟨hb1, hz1, hm1⟩
    clear hb1 hz1 hm1 hcut h1 h2 hc0 hr1
    go_wp2
    go_ret2
    exact ⟨rfl, w1, Hf.out, Hcut.out⟩
  · have hA2 := HA1.out
    rw [if_neg hc1] at hA2
    subst hA2
    by_cases hc2 : c = 1 + x
    · obtain rfl : n = 1 + x := by omega
      subst hc2
      rw [show 1 + x - 1 = x by omega] at hsub1
      go_enter Tryz.func90, Tryz.ntmps90
      go_wp2_with (go_at_call 92; refine (left_ok _ g _ (1 + x) (1 + x) xs h).mono ?_; rintro e w' ⟨rfl, rfl⟩)
      refine (clone_ok _ _ x x _ hsub1 (by omega)).mono ?_
      rintro e w1 ⟨rfl, hb1, hz1, hm1⟩
      have hr1 : Rd w1 g (some ⟨b, o, none⟩) (1 + x) (1 + x) xs := Hh.out.mod hm1 id (fun _ _ _ => id)
      have hg1 := hr1.cell
      have hg2 := hr1.frozen
      have hcut := hr1.cut (1 + x) (by omega)
      rw [if_pos rfl, Nat.sub_self] at hcut
      have Hcut := Lib.hid hcut
      have Hf : Hid (Fresh w w1 ((xs.drop 1).take x)) := ⟨hb1, hz1, hm1⟩
      clear hb1 hz1 hm1 hcut h1 h2 hc0 hr1
      go_wp2
      go_ret2
      exact ⟨rfl, w1, Hf.out, Hcut.out⟩
    · 
      go_enter Tryz.func90, Tryz.ntmps90
      go_wp2_with (go_at_call 92; refine (left_ok _ g _ n c xs h).mono ?_; rintro e w' ⟨rfl, rfl⟩)
      refine (clone_ok _ _ x (c - 1) _ hsub1 (by omega)).mono ?_
      rintro e w1 ⟨rfl, hb1, hz1, hm1⟩
      have hr1 : Rd w1 g (some ⟨b, o, none⟩) n c xs := Hh.out.mod hm1 id (fun _ _ _ => id)
      have hg1 := hr1.cell
      have hg2 := hr1.frozen
      have hcut := hr1.cut (1 + x) (by omega)
      rw [if_neg hc2] at hcut
      have Hcut := Lib.hid hcut
      have Hf : Hid (Fresh w w1 ((xs.drop 1).take x)) := ⟨hb1, hz1, hm1⟩
      clear hb1 hz1 hm1 hcut h1 h2 hc0 hr1
      go_wp2
      go_ret2
      exact ⟨rfl, w1, Hf.out, Hcut.out⟩
end Go.Proofs.YtnbamljaiahmdaaGreat

namespace Go.Proofs.YtnbamljaiahmdaaGreat
open Go Go.RowKit

/-- A Val by value: its bytes too. -/
structure VlD where
  is : Bool
  B : Option Addr
  m : Nat
  d : Nat
  vs : List UInt8
def VlD.At (w : World) (x : VlD) : Prop := Sl w x.B x.m x.d x.vs
abbrev VlD.v (x : VlD) : Value := .agg #[.bool x.is, .slice x.B x.m x.d]
def VlD.none : VlD := ⟨false, Option.none, 0, 0, []⟩
theorem VlD.At.keep {w w' : World} {x : VlD} (h : x.At w) (hm : Mod (fun _ => False) w w') : x.At w' := Sl.mod h hm (fun _ _ _ => id)
theorem VlD.none_at (w : World) : VlD.none.At w := Sl.none_ w _ _

/-- A record by value: its kind, its numbers by their cells (1 to 9), its two values. -/
structure RcD where
  k : Int
  f : Nat → Int
  o : VlD
  v : VlD
abbrev RcD.cells (x : RcD) : Array Value := #[.int .i64 x.k, .int .i64 (x.f 1), .int .i64 (x.f 2), .int .i64 (x.f 3), .int .i64 (x.f 4), .int .i64 (x.f 5), .int .i64 (x.f 6), .int .i64 (x.f 7), .int .i64 (x.f 8), .int .i64 (x.f 9),
  .bool x.o.is, .slice x.o.B x.o.m x.o.d, .bool x.v.is, .slice x.v.B x.v.m x.v.d]
abbrev RcD.val (x : RcD) : Value := .agg x.cells
def RcD.At (w : World) (x : RcD) : Prop := x.o.At w ∧ x.v.At w
theorem RcD.At.keep {w w' : World} {x : RcD} (h : x.At w) (hm : Mod (fun _ => False) w w') : x.At w' := ⟨h.1.keep hm, h.2.keep hm⟩
/-- It lies in a block. -/
def RcD.In (w : World) (x : RcD) (g : Nat) : Prop := w.heap[g]? = some (.cells x.cells 47 (0, 0))

def upd (f : Nat → Int) (i : Nat) (z : Int) : Nat → Int := fun j => if j = i then z else f j

/-- A field: a number in a cell, of so many bytes; Old; New. -/
inductive Fld where
  | num (i wd : Nat)
  | old
  | new

def fieldsOf (k : Int) : Option (List Fld) :=
  if k = 1 then some [.num 1 1, .num 7 4, .num 3 1, .num 4 2, .old, .new]
  else if k = 2 then some [.num 1 1, .num 8 4, .num 3 1, .num 4 2, .new]
  else if k = 3 ∨ k = 4 ∨ k = 5 then some [.num 1 1]
  else if k = 6 ∨ k = 10 then some [.num 3 1, .num 5 1, .num 6 1, .num 9 4]
  else if k = 7 then some []
  else if k = 8 then some [.num 1 1, .num 2 1, .num 7 4, .num 8 4]
  else if k = 9 then some [.num 3 1, .num 9 4]
  else if k = 11 then some [.num 9 4]
  else none

section
variable {w : World} {x : RcD} {g : Nat}
theorem RcD.In.lt (h : x.In w g) : g < w.heap.size := (Array.getElem?_eq_some_iff.1 h).1
theorem RcD.In.fz (h : x.In w g) (i : Nat) : w.frozen? ⟨g, i, none⟩ = false := frozen_of_block h i
theorem RcD.In.num (h : x.In w g) {i : Nat} (h1 : 1 ≤ i) (h9 : i ≤ 9) : w.cell? ⟨g, i, none⟩ = some (.int .i64 (x.f i)) := by
  rw [cell_of_row w g i _ _ _ h]
  match i, h1, h9 with
  | 1, _, _ | 2, _, _ | 3, _, _ | 4, _, _ | 5, _, _ | 6, _, _ | 7, _, _ | 8, _, _ | 9, _, _ => rfl
theorem RcD.In.kind (h : x.In w g) : w.cell? ⟨g, 0, none⟩ = some (.int .i64 x.k) := by rw [cell_of_row w g 0 _ _ _ h]; rfl
theorem RcD.In.c10 (h : x.In w g) : w.cell? ⟨g, 10, none⟩ = some (.bool x.o.is) := by rw [cell_of_row w g 10 _ _ _ h]; rfl
theorem RcD.In.c11 (h : x.In w g) : w.cell? ⟨g, 11, none⟩ = some (.slice x.o.B x.o.m x.o.d) := by rw [cell_of_row w g 11 _ _ _ h]; rfl
theorem RcD.In.c12 (h : x.In w g) : w.cell? ⟨g, 12, none⟩ = some (.bool x.v.is) := by rw [cell_of_row w g 12 _ _ _ h]; rfl
theorem RcD.In.c13 (h : x.In w g) : w.cell? ⟨g, 13, none⟩ = some (.slice x.v.B x.v.m x.v.d) := by rw [cell_of_row w g 13 _ _ _ h]; rfl
theorem RcD.In.mod {F : Nat → Prop} {w' : World} (h : x.In w g) (hm : Mod F w w') (hg : ¬ F g) : x.In w' g := (hm.block g h.lt hg).trans h
theorem RcD.In.keep {w' : World} (h : x.In w g) (hm : Mod (fun _ => False) w w') : x.In w' g := h.mod hm id
theorem RcD.In.new (w : World) (x : RcD) : x.In (w.alloc (.cells x.cells 47)) w.heap.size := heap_alloc_new w _
/-- A number is stored. -/
theorem RcD.In.setN (h : x.In w g) {i : Nat} (h1 : 1 ≤ i) (h9 : i ≤ 9) (z : Int) : ({ x with f := upd x.f i z } : RcD).In (w.setCell ⟨g, i, none⟩ (.int .i64 z)) g := by
  show _ = _
  rw [heap_set h]
  match i, h1, h9 with
  | 1, _, _ | 2, _, _ | 3, _, _ | 4, _, _ | 5, _, _ | 6, _, _ | 7, _, _ | 8, _, _ | 9, _, _ => rfl
/-- A value is stored. -/
theorem RcD.In.setO (h : x.In w g) (y : VlD) : ({ x with o := y } : RcD).In ((w.setCell ⟨g, 10, none⟩ (.bool y.is)).setCell ⟨g, 11, none⟩ (.slice y.B y.m y.d)) g := by
  show _ = _
  rw [heap_set (heap_set h 10 _) 11 _]
  rfl
theorem RcD.In.setV (h : x.In w g) (y : VlD) : ({ x with v := y } : RcD).In ((w.setCell ⟨g, 12, none⟩ (.bool y.is)).setCell ⟨g, 13, none⟩ (.slice y.B y.m y.d)) g := by
  show _ = _
  rw [heap_set (heap_set h 12 _) 13 _]
  rfl
end

/-- A box of one cell. -/
def Bx (w : World) (b : Nat) (t : TypeId) (u : Value) : Prop := w.heap[b]? = some (.cells #[u] t (0, 0))
section
variable {w : World} {b : Nat} {t : TypeId} {u : Value}
theorem Bx.lt (h : Bx w b t u) : b < w.heap.size := (Array.getElem?_eq_some_iff.1 h).1
theorem Bx.cell (h : Bx w b t u) : w.cell? ⟨b, 0, none⟩ = some u := by rw [cell_of_row w b 0 _ _ _ h]; rfl
theorem Bx.fz (h : Bx w b t u) : w.frozen? ⟨b, 0, none⟩ = false := frozen_of_block h 0
theorem Bx.set (h : Bx w b t u) (u' : Value) : Bx (w.setCell ⟨b, 0, none⟩ u') b t u' := by show _ = _; rw [heap_set h]; rfl
theorem Bx.new (w : World) (t : TypeId) (u : Value) : Bx (w.alloc (.cells #[u] t)) w.heap.size t u := heap_alloc_new w _
theorem Bx.mod {F : Nat → Prop} {w' : World} (h : Bx w b t u) (hm : Mod F w w') (hb : ¬ F b) : Bx w' b t u := (hm.block b h.lt hb).trans h
theorem Bx.keep {w' : World} (h : Bx w b t u) (hm : Mod (fun _ => False) w w') : Bx w' b t u := h.mod hm id
end
end Go.Proofs.YtnbamljaiahmdaaGreat
