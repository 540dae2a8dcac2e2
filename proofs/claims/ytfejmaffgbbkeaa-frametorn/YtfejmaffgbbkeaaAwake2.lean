/-
  The statements' own helper 'awake' (the chapter's example): it answers true. Seal in all its cases at once.
-/
import Derived.Test.YtfejmaffgbbkeaaOpen
namespace Go.Proofs.Ytfejmaffgbbkeaa
open Go Go.RowKit

theorem at_of_block {w : World} {g : Nat} {ys : List UInt8} {t : TypeId} {fr : Nat × Nat} (h : w.heap[g]? = some (.cells (ys.map bv).toArray t fr)) (j : Nat) (b : UInt8) (hj : ys[j]? = some b) :
    w.cell? ⟨g, j, none⟩ = some (bv b) := by
  rw [cell_of_row _ _ _ _ _ _ h]
  simp [hj]

set_option maxRecDepth 100000 in
set_option maxHeartbeats 800000 in
theorem awake_ok (w : World) : Calls Try.prog 10 #[] w fun e w' => e = .returned (.bool true) ∧ Mod (fun _ => False) w w' := by
  go_enter Try.func10, Try.ntmps10
  go_wp2_with fail
  have hsl : Sl (w.alloc (.cells #[.int .u8 9] 5)) (some ⟨w.heap.size, 0, none⟩) 1 1 [9] := Sl.lit [9] (heap_alloc_new w _)
  refine (seal_ok _ 258 _ 1 1 [9] hsl (by omega) (by omega) (by omega)).mono ?_
  rintro e w1 ⟨g, rfl, hs⟩
  have hM : Mod (fun _ => False) w w1 := ((Mod.refl _ w).alloc _).trans hs.2.2 (fun _ _ h => h)
  have c0 := at_of_block hs.2.1 0 2 (by decide +kernel)
  have c1 := at_of_block hs.2.1 1 1 (by decide +kernel)
  have c4 := at_of_block hs.2.1 4 9 (by decide +kernel)
  have c5 := at_of_block hs.2.1 5 0 (by decide +kernel)
  have c252 := at_of_block hs.2.1 252 2 (by decide +kernel)
  have c253 := at_of_block hs.2.1 253 1 (by decide +kernel)
  have c255 := at_of_block hs.2.1 255 0 (by decide +kernel)
  clear hs hsl
  go_wp2
  go_ret
  exact ⟨rfl, hM⟩

/-- A slice that reads as ys; nothing old has turned. -/
def Gives (w w' : World) (A : Option Addr) (n c : Nat) (ys : List UInt8) : Prop := Sl w' A n c ys ∧ Mod (fun _ => False) w w'

def sealB (n : Int) (m : Nat) : Bool := decide (0 ≤ n) && decide (n ≤ 4294967295) && decide (m ≤ 248)
def sealBytes (n : Int) (m : Nat) (xs : List UInt8) : List UInt8 := if sealB n m then secOf n xs else []
def sealErr (n : Int) (m : Nat) : Int := if n < 0 ∨ 4294967295 < n then 1 else if 248 < m then 2 else 0

theorem seal_any (w : World) (n : Int) (A : Option Addr) (m c : Nat) (xs : List UInt8) (h : Sl w A m c xs) :
    Calls Try.prog 11 #[.int .i64 n, .slice A m c] w fun e w' => ∃ A' k c', e = .returned (.tuple #[.slice A' k c', .int .i64 (sealErr n m)]) ∧ k ≤ 256 ∧ Gives w w' A' k c' (sealBytes n m xs) := by
  by_cases h1 : n < 0 ∨ 4294967295 < n
  · refine (seal_arg w n A m c h1).mono ?_
    rintro e w' ⟨rfl, rfl⟩
    have hb : sealB n m = false := by
      simp only [sealB, Bool.and_eq_false_iff, decide_eq_false_iff_not]
      omega
    refine ⟨none, 0, 0, by rw [sealErr, if_pos h1], by omega, ?_, Mod.refl _ _⟩
    rw [sealBytes, hb]
    exact Sl.none_ _ _ _
  · by_cases h2 : 248 < m
    · refine (seal_long w n A m c (by omega) (by omega) h2).mono ?_
      rintro e w' ⟨rfl, rfl⟩
      have hb : sealB n m = false := by
        simp only [sealB, Bool.and_eq_false_iff, decide_eq_false_iff_not]
        omega
      refine ⟨none, 0, 0, by rw [sealErr, if_neg h1, if_pos h2], by omega, ?_, Mod.refl _ _⟩
      rw [sealBytes, hb]
      exact Sl.none_ _ _ _
    · refine (seal_ok w n A m c xs h (by omega) (by omega) (by omega)).mono ?_
      rintro e w' ⟨g, rfl, hs⟩
      have hb : sealB n m = true := by
        simp only [sealB, Bool.and_eq_true, decide_eq_true_eq]
        omega
      refine ⟨_, 256, 256, by rw [sealErr, if_neg h1, if_neg h2], Nat.le_refl _, ?_, hs.2.2⟩
      rw [sealBytes, hb]
      exact hs.sl (secOf_len n xs (by rw [h.len]; omega))
end Go.Proofs.Ytfejmaffgbbkeaa
