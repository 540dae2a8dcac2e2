/-
  bobbinref10.Same of two tables that are the same.
-/
import Derived.Test.YthbcgbbcoanbdaaTMem
import Derived.Deep.RegionHeld3
namespace Go.Proofs.Ythbcgbbcoanbdaa
open Go Go.RowKit

set_option maxRecDepth 100000 in
set_option maxHeartbeats 3200000 in
theorem same_ok (w : World) (P P' S S' : Option Addr) (n m c c' d d' : Nat) (t : Tb) (h1 : (⟨P, n, c, S, m, d, t⟩ : TV).At w) (h2 : (⟨P', n, c', S', m, d', t⟩ : TV).At w) (hn : n ≤ 1000) (hm : m ≤ 1000) :
    Calls Try.prog 11 #[.agg #[.slice P n c, .slice S m d, .int .i64 t.sl, .int .i64 t.nw], .agg #[.slice P' n c', .slice S' m d', .int .i64 t.sl, .int .i64 t.nw]] w fun e w' => e = .returned (.bool true) ∧ Mod (fun _ => False) w w' := by
  obtain ⟨w1, hw1⟩ : ∃ w1, (w.alloc (.cells #[.slice P n c, .slice S m d, .int .i64 t.sl, .int .i64 t.nw] 27)).alloc (.cells #[.slice P' n c', .slice S' m d', .int .i64 t.sl, .int .i64 t.nw] 27) = w1 := ⟨_, rfl⟩
  have hm1 : Mod (fun _ => False) w w1 := by rw [← hw1]; exact ((Mod.refl _ w).alloc _).alloc _
  have hb1 : TBx w1 w.heap.size ⟨P, n, c, S, m, d, t⟩ := by rw [← hw1]; exact (TBx.new w ⟨P, n, c, S, m, d, t⟩).keep ((Mod.refl _ _).alloc _)
  have hb2 : TBx w1 (w.heap.size + 1) ⟨P', n, c', S', m, d', t⟩ := by
    rw [← hw1]
    have := TBx.new (w.alloc (.cells #[.slice P n c, .slice S m d, .int .i64 t.sl, .int .i64 t.nw] 27)) ⟨P', n, c', S', m, d', t⟩
    rw [World.size_alloc] at this
    exact this
  obtain ⟨a0, a1, a2, a3⟩ := hb1.cells
  obtain ⟨b0, b1, b2, b3⟩ := hb2.cells
  have HM := Lib.hid hm1
  have H1 := Lib.hid (h1.keep hm1)
  have H2 := Lib.hid (h2.keep hm1)
  have HB1 := Lib.hid hb1
  have HB2 := Lib.hid hb2
  clear hm1 hb1 hb2 h1 h2
  go_enter Try.func11, Try.ntmps11
  go_wp2
  clear hw1
  go_loopw [5] (fun k wr => ∃ j : Nat, j ≤ n ∧ k = .int .i64 j ∧ Mod (fun _ => False) w1 wr) (fun k _ => n - (intOf k).toNat)
  case atStart => exact ⟨0, Nat.zero_le _, rfl, Mod.refl _ _⟩
  clear a0 a1 a2 a3 b0 b1 b2 b3
  case round =>
    obtain ⟨j, hj, rfl, hmr⟩ := hrel
    have Hmr := Lib.hid hmr
    obtain ⟨a0, a1, a2, a3⟩ := (HB1.out.keep hmr).cells
    obtain ⟨b0, b1, b2, b3⟩ := (HB2.out.keep hmr).cells
    by_cases hlt : j < n
    · obtain ⟨g, o, hP, hc⟩ := (H1.out.keep hmr).pg.cells (by show 0 < n; omega)
      obtain ⟨g', o', hP', hc'⟩ := (H2.out.keep hmr).pg.cells (by show 0 < n; omega)
      obtain ⟨s0, s1, s2⟩ := hc j hlt
      obtain ⟨s0', s1', s2'⟩ := hc' j hlt
      have heq : ∀ w, (Op.equalIn 10000 34 (.agg #[.int .i64 (atS t.pg j).a, .int .i64 (atS t.pg j).b, .int .i64 (atS t.pg j).c]) (.agg #[.int .i64 (atS t.pg j).a, .int .i64 (atS t.pg j).b, .int .i64 (atS t.pg j).c])).run Try.prog w = .ok true w := fun w => (eq_pl (atS t.pg j) (atS t.pg j) w).trans (by rw [eqT_self])
      replace hP : P = some ⟨g, o, none⟩ := hP
      replace hP' : P' = some ⟨g', o', none⟩ := hP'
      subst hP
      subst hP'
      change wr.cell? ⟨g, o + j * 3, none⟩ = some (.int .i64 (atS t.pg j).a) at s0
      change wr.cell? ⟨g, o + j * 3 + 1, none⟩ = some (.int .i64 (atS t.pg j).b) at s1
      change wr.cell? ⟨g, o + j * 3 + 2, none⟩ = some (.int .i64 (atS t.pg j).c) at s2
      change wr.cell? ⟨g', o' + j * 3, none⟩ = some (.int .i64 (atS t.pg j).a) at s0'
      change wr.cell? ⟨g', o' + j * 3 + 1, none⟩ = some (.int .i64 (atS t.pg j).b) at s1'
      change wr.cell? ⟨g', o' + j * 3 + 2, none⟩ = some (.int .i64 (atS t.pg j).c) at s2'
      generalize atS t.pg j = s at *
      have hji : (j : Int) < (n : Int) := by omega
      have hj0 : (0 : Int) ≤ (j : Int) := by omega
      clear hc hc' hmr
      go_wp2_with fail
      go_quiet (fail)
      go_wp2
      go_roundw
      case rel => exact ⟨j + 1, by omega, by go_num, Hmr.out.drewN _⟩
      case measure => simp [intOf]; omega
    · obtain rfl : j = n := by omega
      clear hmr
      go_wp2
      clear a0 a1 a2 a3 b0 b1 b2 b3
      go_loopw [6] (fun k wv => ∃ j : Nat, j ≤ m ∧ k = .int .i64 j ∧ Mod (fun _ => False) w1 wv) (fun k _ => m - (intOf k).toNat)
      case atStart => exact ⟨0, Nat.zero_le _, rfl, Hmr.out⟩
      case round =>
        obtain ⟨k, hk, rfl, hmv⟩ := hrel
        rename_i wv _ _
        have Hmv := Lib.hid hmv
        obtain ⟨a0, a1, a2, a3⟩ := (HB1.out.keep hmv).cells
        obtain ⟨b0, b1, b2, b3⟩ := (HB2.out.keep hmv).cells
        by_cases hlt2 : k < m
        · obtain ⟨g, o, hP, hc⟩ := (H1.out.keep hmv).sg.cells (by show 0 < m; omega)
          obtain ⟨g', o', hP', hc'⟩ := (H2.out.keep hmv).sg.cells (by show 0 < m; omega)
          have hs := hc k hlt2
          have hs' := hc' k hlt2
          have heq : ∀ w, (Op.equalIn 10000 45 (.agg #[.int .i64 (atS t.sg k).a, .int .i64 (atS t.sg k).b, .int .i64 (atS t.sg k).c]) (.agg #[.int .i64 (atS t.sg k).a, .int .i64 (atS t.sg k).b, .int .i64 (atS t.sg k).c])).run Try.prog w = .ok true w := fun w => (eq_sg (atS t.sg k) (atS t.sg k) w).trans (by rw [eqT_self])
          replace hP : S = some ⟨g, o, none⟩ := hP
          replace hP' : S' = some ⟨g', o', none⟩ := hP'
          subst hP
          subst hP'
          change At3 _ g (o + k * 3) (atS t.sg k) at hs
          change At3 _ g' (o' + k * 3) (atS t.sg k) at hs'
          generalize atS t.sg k = s at *
          obtain ⟨s0, s1, s2⟩ := hs
          obtain ⟨s0', s1', s2'⟩ := hs'
          have hji : (k : Int) < (m : Int) := by omega
          have hj0 : (0 : Int) ≤ (k : Int) := by omega
          clear hc hc' hmv
          go_wp2_with fail
          go_quiet (fail)
          go_wp2
          go_roundw
          case rel => exact ⟨k + 1, by omega, by go_num, Hmv.out.drewN _⟩
          case measure => simp [intOf]; omega
        · obtain rfl : k = m := by omega
          clear hmv
          go_wp2
          go_ret
          exact ⟨rfl, HM.out.trans Hmv.out (fun _ _ h => h)⟩
end Go.Proofs.Ythbcgbbcoanbdaa
