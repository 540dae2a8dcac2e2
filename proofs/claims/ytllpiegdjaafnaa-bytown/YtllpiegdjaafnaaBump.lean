/-
  A row of the call's own whose bytes are turned one by one.
-/
import Derived.Test.YtllpiegdjaafnaaAny
namespace Go.Proofs.Ytllpiegdjaafnaa
open Go Go.RowKit

/-- The row still holds n bytes, whichever; nothing else has turned. -/
def Bump (w0 wr : World) (base : Nat) (A : Option Addr) (n c : Nat) : Prop :=
  (∃ ys : List UInt8, OwV wr base 5 A n c (ys.map bv)) ∧ Mod (fun k => blkOf A = some k) w0 wr

theorem Bump.start {w : World} {base : Nat} {A : Option Addr} {n c : Nat} {xs : List UInt8} (h : OwV w base 5 A n c (xs.map bv)) : Bump w w base A n c := ⟨⟨xs, h⟩, Mod.refl _ _⟩

theorem Bump.at_ {w0 wr : World} {base : Nat} {A : Option Addr} {n c j : Nat} (h : Bump w0 wr base A n c) (hj : j < n) :
    ∃ g y, A = some ⟨g, 0, none⟩ ∧ wr.cell? ⟨g, j, none⟩ = some (.int .u8 y) ∧ 0 ≤ y ∧ y < 256 ∧ wr.frozen? ⟨g, j, none⟩ = false := by
  obtain ⟨⟨ys, ho⟩, _⟩ := h
  obtain ⟨g, rfl, hc⟩ := ho.cells (by omega)
  have hl : ys.length = n := by simpa using ho.len
  obtain ⟨_, cur, hh, _⟩ := ho.block (k := g) rfl
  have hlt := (ys[j]'(by omega)).toNat_lt
  refine ⟨g, ((ys[j]'(by omega)).toNat : Int), rfl, ?_, by omega, by omega, frozen_of_block hh j⟩
  rw [hc j hj, List.getElem?_map, List.getElem?_eq_getElem (by omega)]
  rfl

theorem Bump.step {w0 wr : World} {base g n c j : Nat} (h : Bump w0 wr base (some ⟨g, 0, none⟩) n c) (hj : j < n) {z : Int} (h0 : 0 ≤ z) (h1 : z < 256) :
    Bump w0 (wr.setCell ⟨g, j, none⟩ (.int .u8 z)) base (some ⟨g, 0, none⟩) n c := by
  obtain ⟨⟨ys, ho⟩, hm⟩ := h
  refine ⟨⟨ys.set j (UInt8.ofNat z.toNat), ?_⟩, hm.setCell (p := ⟨g, j, none⟩) (fun _ => rfl) _⟩
  rcases ho.2 with ⟨hv, h0⟩ | ⟨g', cap, cur, hv, hb, hh, h2, h3, h4, h5⟩
  · omega
  · injection hv with hA _ hc
    injection hA with hA
    injection hA with hA
    subst hA; subst hc
    refine ⟨by simpa using ho.1, .inr ⟨g, c, cur.setIfInBounds j (.int .u8 z), rfl, hb, heap_set hh j _, h2, h3, by simpa using h4, ?_⟩⟩
    have e : bv (UInt8.ofNat z.toNat) = .int .u8 z := congrArg _ (byte_of_int h0 (by omega))
    rw [Array.toList_setIfInBounds, List.take_set, h5, List.map_set, e]
end Go.Proofs.Ytllpiegdjaafnaa
