/-
  bobbinref12: Same, Ints, of lists that are the same.
-/
import Derived.Test.YtpkjafadhnecfaaKSort
import Derived.Laws.StructEq
import Derived.BigQuiet
namespace Go.Proofs.Ytpkjafadhnecfaa
open Go Go.RowKit

set_option maxRecDepth 100000 in
theorem eq_hd (m k : Tr) (w : World) :
    (Op.equalIn 10000 37 (.agg #[.int .i64 m.a, .int .i64 m.b, .int .i64 m.c]) (.agg #[.int .i64 k.a, .int .i64 k.b, .int .i64 k.c])).run Try.prog w = .ok (eqT m k) w := by
  have q : ∀ (a b : Int) (w : World), (Op.equalIn 9999 3 (.int .i64 a) (.int .i64 b)).run Try.prog w = .ok (a == b) w := fun a b w => run_equalIn_int w 9998 _ _ _ _ _ Try.underlying3
  have e := run_equalIn_struct (P := Try.prog) w 9999 37 #[.int .i64 m.a, .int .i64 m.b, .int .i64 m.c] #[.int .i64 k.a, .int .i64 k.b, .int .i64 k.c] (by kernel_rfl) (by kernel_rfl)
  refine e.trans ?_
  clear e
  simp only [Program.fieldsOf, Try.underlying37]
  simp [go_sem]
  unfold eqT
  by_cases h0 : m.a = k.a
  · by_cases h1 : m.b = k.b
    · by_cases h2 : m.c = k.c
      · rw [if_pos h0, if_pos h1, if_pos h2, decide_eq_true h0, decide_eq_true h1, decide_eq_true h2]; rfl
      · rw [if_pos h0, if_pos h1, if_neg h2, decide_eq_true h0, decide_eq_true h1, decide_eq_false h2]; rfl
    · rw [if_pos h0, if_neg h1, decide_eq_true h0, decide_eq_false h1]; rfl
  · rw [if_neg h0, decide_eq_false h0]; rfl

set_option maxRecDepth 100000 in
set_option maxHeartbeats 1600000 in
theorem same_ok (w : World) (A B : Option Addr) (n c d : Nat) (l : List Tr) (h1 : Tl w A n c l) (h2 : Tl w B n d l) (hn : n ≤ 1000) :
    Calls Try.prog 16 #[.slice A n c, .slice B n d] w fun e w' => e = .returned (.bool true) ∧ Mod (fun _ => False) w w' := by
  have H1 := Lib.hid h1
  have H2 := Lib.hid h2
  clear h1 h2
  go_enter Try.func16, Try.ntmps16
  go_wp2
  go_loopw [5] (fun k wr => ∃ j : Nat, j ≤ n ∧ k = .int .i64 j ∧ Mod (fun _ => False) w wr) (fun k _ => n - (intOf k).toNat)
  case atStart => exact ⟨0, Nat.zero_le _, rfl, Mod.refl _ _⟩
  case round =>
    obtain ⟨j, hj, rfl, hmr⟩ := hrel
    have Hmr := Lib.hid hmr
    clear hmr
    by_cases hlt : j < n
    · obtain ⟨g, o, hA, hc⟩ := (H1.out.keep Hmr.out).cells (by omega)
      obtain ⟨g', o', hB, hc'⟩ := (H2.out.keep Hmr.out).cells (by omega)
      obtain ⟨s0, s1, s2⟩ := hc j hlt
      obtain ⟨s0', s1', s2'⟩ := hc' j hlt
      rw [hA, hB]
      have heq : ∀ w, (Op.equalIn 10000 37 (.agg #[.int .i64 (atS l j).a, .int .i64 (atS l j).b, .int .i64 (atS l j).c]) (.agg #[.int .i64 (atS l j).a, .int .i64 (atS l j).b, .int .i64 (atS l j).c])).run Try.prog w = .ok true w := fun w => (eq_hd (atS l j) (atS l j) w).trans (by rw [eqT_self])
      generalize atS l j = s at *
      have hji : (j : Int) < (n : Int) := by omega
      have hj0 : (0 : Int) ≤ (j : Int) := by omega
      clear hc hc' hA hB
      go_wp2_with fail
      go_quiet (fail)
      go_wp2
      go_roundw
      case rel => exact ⟨j + 1, by omega, by go_num, Hmr.out.drewN _⟩
      case measure => simp [intOf]; omega
    · obtain rfl : j = n := by omega
      go_wp2
      go_ret
      exact ⟨rfl, Hmr.out⟩

/-- The slice value '.slice A n c' reads as the numbers zs. -/
def Il (w : World) (A : Option Addr) (n c : Nat) (zs : List Int) : Prop :=
  zs.length = n ∧ n ≤ c ∧ (0 < n → ∃ b o, A = some ⟨b, o, none⟩ ∧ ∀ j, j < n → w.cell? ⟨b, o + j, none⟩ = some (.int .i64 (zs.getD j 0)))
theorem Il.keep {w w' : World} {A : Option Addr} {n c : Nat} {zs : List Int} (h : Il w A n c zs) (hm : Mod (fun _ => False) w w') : Il w' A n c zs := by
  refine ⟨h.1, h.2.1, fun hn => ?_⟩
  obtain ⟨b, o, rfl, hc⟩ := h.2.2 hn
  exact ⟨b, o, rfl, fun j hj => (World.cell?_of_block (hm.block b (World.block_lt_of_cell? w _ (hc j hj)) id)).trans (hc j hj)⟩
theorem OwI.il {w : World} {base : Nat} {A : Option Addr} {n c : Nat} {zs : List Int} (h : OwI w base A n c zs) : Il w A n c zs := by
  refine ⟨h.len, OwV.cap h, fun hn => ?_⟩
  obtain ⟨g, rfl, hc⟩ := OwV.cells h hn
  refine ⟨g, 0, rfl, fun j hj => ?_⟩
  have hl := h.len
  rw [Nat.zero_add, hc j hj, ivs, List.getElem?_map, List.getD_eq_getElem?_getD, List.getElem?_eq_getElem (by omega)]
  rfl

set_option maxRecDepth 100000 in
set_option maxHeartbeats 1600000 in
theorem ints_ok (w : World) (A B : Option Addr) (n c d : Nat) (l : List Int) (h1 : Il w A n c l) (h2 : Il w B n d l) (hn : n ≤ 1000) :
    Calls Try.prog 11 #[.slice A n c, .slice B n d] w fun e w' => e = .returned (.bool true) ∧ Mod (fun _ => False) w w' := by
  have H1 := Lib.hid h1
  have H2 := Lib.hid h2
  clear h1 h2
  go_enter Try.func11, Try.ntmps11
  go_wp2
  go_loopw [5] (fun k wr => ∃ j : Nat, j ≤ n ∧ k = .int .i64 j ∧ Mod (fun _ => False) w wr) (fun k _ => n - (intOf k).toNat)
  case atStart => exact ⟨0, Nat.zero_le _, rfl, Mod.refl _ _⟩
  case round =>
    obtain ⟨j, hj, rfl, hmr⟩ := hrel
    have Hmr := Lib.hid hmr
    clear hmr
    by_cases hlt : j < n
    · obtain ⟨g, o, hA, hc⟩ := (H1.out.keep Hmr.out).2.2 (by omega)
      obtain ⟨g', o', hB, hc'⟩ := (H2.out.keep Hmr.out).2.2 (by omega)
      have s0 := hc j hlt
      have s0' := hc' j hlt
      rw [hA, hB]
      generalize l.getD j 0 = s at *
      have hss : (s != s) = false := by simp
      have hji : (j : Int) < (n : Int) := by omega
      have hj0 : (0 : Int) ≤ (j : Int) := by omega
      clear hc hc' hA hB
      go_wp2_with fail
      go_quiet (fail)
      go_wp2
      go_roundw
      case rel => exact ⟨j + 1, by omega, by go_num, Hmr.out.drewN _⟩
      case measure => simp [intOf]; omega
    · obtain rfl : j = n := by omega
      go_wp2
      go_ret
      exact ⟨rfl, Hmr.out⟩
end Go.Proofs.Ytpkjafadhnecfaa
