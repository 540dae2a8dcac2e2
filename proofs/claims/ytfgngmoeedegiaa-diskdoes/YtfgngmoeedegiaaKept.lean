/-
  disk.kept: how many bytes of a pending write survive.
-/
import Derived.Test.YtfgngmoeedegiaaNew
namespace Go.Proofs.Ytfgngmoeedegiaa
open Go Go.RowKit

/-- The slice value '.slice A n c' reads as the bools ks. -/
def Bl (w : World) (A : Option Addr) (n c : Nat) (ks : List Bool) : Prop :=
  ks.length = n ∧ n ≤ c ∧ (0 < n → ∃ b o, A = some ⟨b, o, none⟩ ∧ ∀ j, j < n → w.cell? ⟨b, o + j, none⟩ = some (.bool (ks.getD j false)))
section
variable {w w' : World} {A : Option Addr} {n c : Nat} {ks : List Bool}
theorem Bl.mod {F : Nat → Prop} (h : Bl w A n c ks) (hm : Mod F w w') (hF : ∀ k, blkOf A = some k → 0 < n → ¬ F k) : Bl w' A n c ks := by
  refine ⟨h.1, h.2.1, fun hn => ?_⟩
  obtain ⟨b, o, rfl, hc⟩ := h.2.2 hn
  exact ⟨b, o, rfl, fun j hj => (World.cell?_of_block (hm.block b (World.block_lt_of_cell? w _ (hc j hj)) (hF b rfl hn))).trans (hc j hj)⟩
theorem Bl.keep (h : Bl w A n c ks) (hm : Mod (fun _ => False) w w') : Bl w' A n c ks := h.mod hm (fun _ _ _ => id)
theorem Bl.below {B : Nat} (h : Bl w A n c ks) (hB : ∀ k, blkOf A = some k → 0 < n → k < B) (hb : Below B w w') : Bl w' A n c ks := by
  refine ⟨h.1, h.2.1, fun hn => ?_⟩
  obtain ⟨b, o, rfl, hc⟩ := h.2.2 hn
  exact ⟨b, o, rfl, fun j hj => (World.cell?_of_block (hb.block b (hB b rfl hn))).trans (hc j hj)⟩
end

set_option maxRecDepth 100000 in
set_option maxHeartbeats 800000 in
theorem kept_ok (w : World) (A : Option Addr) (n c : Nat) (ks : List Bool) (hk : Bl w A n c ks) (hn : n ≤ 9223372036854775807) (torn kk : Int) (i : Nat) (hi : i ≤ 1000) :
    Calls Try.prog 42 #[.agg #[.slice A n c, .int .i64 torn, .int .i64 kk], .int .i64 i] w fun e w' => e = .returned (.int .i64 (keptN ks torn kk i : Int)) ∧ Mod (fun _ => False) w w' := by
  by_cases ht : (i : Int) = torn
  · have hb : ((i : Int) == torn) = true := by simpa using ht
    by_cases h0 : kk < 0
    · have e : keptN ks torn kk i = 0 := by unfold keptN; rw [if_pos ht]; omega
      have hd0 : ¬ 0 ≤ kk := by omega
      rw [e]
      clear ht hk e
      go_enter Try.func42, Try.ntmps42
      go_wp2
      go_ret
      exact ⟨rfl, (Mod.refl _ w).alloc _⟩
    · by_cases h1 : 256 < kk
      · have e : keptN ks torn kk i = 256 := by unfold keptN; rw [if_pos ht]; omega
        rw [e]
        clear ht hk e
        go_enter Try.func42, Try.ntmps42
        go_wp2
        go_ret
        exact ⟨rfl, (Mod.refl _ w).alloc _⟩
      · have e : (keptN ks torn kk i : Int) = kk := by unfold keptN; rw [if_pos ht]; omega
        rw [e]
        clear ht hk e
        go_enter Try.func42, Try.ntmps42
        go_wp2
        go_ret
        exact ⟨rfl, (Mod.refl _ w).alloc _⟩
  · have hb : ((i : Int) == torn) = false := by simpa using ht
    by_cases h0 : n = 0
    · subst h0
      have hl := List.eq_nil_of_length_eq_zero hk.1
      have e : keptN ks torn kk i = 0 := by unfold keptN; rw [if_neg ht, hl]; rfl
      rw [e]
      clear ht hk e hl
      go_enter Try.func42, Try.ntmps42
      go_wp2
      go_quiet (fail)
      go_wp2
      go_ret
      exact ⟨rfl, ((Mod.refl _ w).alloc _).drewN _⟩
    · have hpos : 0 < n := by omega
      have hmod : i % n < n := Nat.mod_lt _ hpos
      obtain ⟨b, o, rfl, hc⟩ := hk.2.2 hpos
      have hc' := hc (i % n) hmod
      have hbl := World.block_lt_of_cell? w _ hc'
      have e : keptN ks torn kk i = if ks.getD (i % n) false then 256 else 0 := by unfold keptN; rw [if_neg ht, hk.1]
      rw [e]
      have hc2 : (w.alloc (.cells #[.slice (some ⟨b, o, none⟩) n c, .int .i64 torn, .int .i64 kk] 36)).cell? ⟨b, o + i % n, none⟩ = some (.bool (ks.getD (i % n) false)) :=
        (World.cell?_of_block (Below.heap_alloc w _ _ hbl)).trans hc'
      have hd : decide ((0 : Int) < n) = true := by simp; omega
      have hr : Int.tmod (i : Int) n = ((i % n : Nat) : Int) := by rw [Int.tmod_eq_emod_of_nonneg (by omega)]; rfl
      generalize ks.getD (i % n) false = q at *
      generalize i % n = r at *
      clear ht hk e hc hc'
      cases q with
      | true =>
        go_enter Try.func42, Try.ntmps42
        go_wp2
        go_quiet (fail)
        go_wp2
        go_ret
        exact ⟨rfl, ((Mod.refl _ w).alloc _).drewN _⟩
      | false =>
        go_enter Try.func42, Try.ntmps42
        go_wp2
        go_quiet (fail)
        go_wp2
        go_ret
        exact ⟨rfl, ((Mod.refl _ w).alloc _).drewN _⟩
end Go.Proofs.Ytfgngmoeedegiaa
