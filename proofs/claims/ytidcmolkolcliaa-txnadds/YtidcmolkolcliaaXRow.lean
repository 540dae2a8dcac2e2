/-
  A store of one change into a row of the call's own.
-/
import Derived.Test.YtidcmolkolcliaaXMem
namespace Go.Proofs.Ytidcmolkolcliaa
open Go Go.RowKit
section
variable {w w' : World} {base : Nat} {A : Option Addr} {n c : Nat} {l : List ChD}
/-- A store of one change. -/
theorem OwC.store {g i : Nat} (h : OwC w base (some ⟨g, 0, none⟩) n c l) (hi : i < n) (y : ChD) : OwC (stC w g (i * 7) y) base (some ⟨g, 0, none⟩) n c (l.set i y) := by
  obtain ⟨g', cur, hA, hb, hh, h1, h2, h3, h4⟩ := OwN.open_ h (by omega)
  obtain rfl : g = g' := by simpa using hA
  have hl := OwC.len h
  have k1 := heap_set hh (i * 7) (.int .i64 y.lsn)
  have k2 := heap_set k1 (i * 7 + 1) (.int .i64 y.page)
  have k3 := heap_set k2 (i * 7 + 2) (.int .i64 y.key)
  have k4 := heap_set k3 (i * 7 + 3) (.bool y.o.is)
  have k5 := heap_set k4 (i * 7 + 4) (.slice y.o.B y.o.m y.o.d)
  have k6 := heap_set k5 (i * 7 + 5) (.bool y.v.is)
  have k7 := heap_set k6 (i * 7 + 6) (.slice y.v.B y.v.m y.v.d)
  simp only [List.setIfInBounds_toArray] at k7
  have e := chs_set l i y (by omega)
  clear k1 k2 k3 k4 k5 k6
  refine OwN.mk_ hb k7 h1 h2 ?_ ?_ (by rw [chs_len, List.length_set, hl])
  · simp only [List.length_set]
    exact h3
  · simp only [List.take_set, h4]
    exact e
end
end Go.Proofs.Ytidcmolkolcliaa
