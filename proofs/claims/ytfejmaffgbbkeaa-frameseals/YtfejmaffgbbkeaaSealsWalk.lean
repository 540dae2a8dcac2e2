/-
  What a call of the statement FrameSeals does: it answers true, and turns nothing that was there.
-/
import Derived.Test.YtfejmaffgbbkeaaRefSeal
namespace Go.Proofs.Ytfejmaffgbbkeaa
open Go Go.RowKit

set_option maxRecDepth 100000 in
set_option maxHeartbeats 1600000 in
theorem seals_walk (n : Int) (A : Option Addr) (m c : Nat) (xs : List UInt8) (w : World) (h : Sl w A m c xs) :
    Calls Try.prog 3 #[.int .i64 n, .slice A m c] w fun e w' => e = .returned (.bool true) ∧ Below w.heap.size w w' := by
  go_enter Try.func3, Try.ntmps3
  go_wp2_with fail
  refine (awake_ok _).mono ?_
  rintro e w1 ⟨rfl, hm1⟩
  have h1 : Sl w1 A m c xs := h.mod hm1 (fun _ _ _ => id)
  clear h
  by_cases hbig : 2000 < m
  · have hb' : (2000 : Int) < m := by omega
    go_wp2
    go_ret
    exact ⟨rfl, hm1.below (Nat.le_refl _) (fun _ _ => id)⟩
  · have hb' : ¬ (2000 : Int) < m := by omega
    clear hbig
    go_wp2_with fail
    refine (seal_any _ n _ _ _ _ h1).mono ?_
    rintro e w2 ⟨As, ks, cs, rfl, hk2, hs2, hm2⟩
    have h2 : Sl w2 A m c xs := h1.mod hm2 (fun _ _ _ => id)
    have hM2 := hm1.trans hm2 (fun _ _ h => h)
    clear h1 hm1 hm2
    go_wp2_with fail
    refine (refSeal_any _ n _ _ _ _ h2).mono ?_
    rintro e w3 ⟨At, kt, ct, rfl, hk3, ht3, hm3⟩
    have hs3 := hs2.mod hm3 (fun _ _ _ => id)
    have hM3 := hM2.trans hm3 (fun _ _ h => h)
    clear h2 hM2 hm3 hs2
    go_wp2_with fail
    refine (same_ok _ _ _ _ _ _ _ _ _ hs3 ht3 (by omega) (by omega)).mono ?_
    rintro e w4 ⟨rfl, q, rfl⟩
    rw [eqB_self]
    have hM4 := hM3.drewN q
    clear hs3 ht3 hM3
    go_wp2
    go_ret
    exact ⟨rfl, hM4.below (Nat.le_refl _) (fun _ _ => id)⟩
end Go.Proofs.Ytfejmaffgbbkeaa
