/-
  Package table: mayPages, May.
-/
import Derived.Test.YthbcgbbcoanbdaaTHav
namespace Go.Proofs.Ythbcgbbcoanbdaa
open Go Go.RowKit

set_option maxRecDepth 100000 in
set_option maxHeartbeats 6400000 in
theorem mayPages_ok (w : World) (x : TV) (h : x.At w) (hn : x.n ≤ 1000) (hm : x.m ≤ 1000) (k1 : 1 ≤ x.t.sl) (k2 : x.t.sl ≤ 16) :
    Calls Try.prog 42 #[.agg #[.slice x.P x.n x.c, .slice x.S x.m x.d, .int .i64 x.t.sl, .int .i64 x.t.nw]] w fun e w' => e = .returned (.bool (pagB x.t)) ∧ Mod (fun _ => False) w w' := by
  obtain ⟨w1, hw1⟩ : ∃ w1, w.alloc (.cells #[.slice x.P x.n x.c, .slice x.S x.m x.d, .int .i64 x.t.sl, .int .i64 x.t.nw] 27) = w1 := ⟨_, rfl⟩
  have hm1 : Mod (fun _ => False) w w1 := by rw [← hw1]; exact (Mod.refl _ w).alloc _
  have hbx : TBx w1 w.heap.size x := by rw [← hw1]; exact TBx.new w x
  have c0 := hbx.cells.1
  have HB := Lib.hid hbx
  have HM := Lib.hid hm1
  have HX := Lib.hid (h.keep hm1)
  have Hsl : Hid (x.t.pg.length = x.n) := h.pg.len
  clear hbx hm1 h
  go_enter Try.func42, Try.ntmps42
  go_wp2
  go_loopw [8] (fun k wr => ∃ j : Nat, j ≤ x.n ∧ k = .int .i64 j ∧ (∀ q, q < j → pgB x.t q = true) ∧ Mod (fun _ => False) w1 wr) (fun k _ => x.n - (intOf k).toNat)
  case atStart => exact ⟨0, Nat.zero_le _, rfl, fun q hq => absurd hq (by omega), Mod.refl _ _⟩
  case round =>
    obtain ⟨j, hj, rfl, hyes, hmr⟩ := hrel
    have Hyes := Lib.hid hyes
    have Hmr := Lib.hid hmr
    clear hyes hmr hw1 c0
    by_cases hlt : j < x.n
    · obtain ⟨b, o, hP, hc⟩ := (HX.out.keep Hmr.out).pg.cells (by omega)
      obtain ⟨s0, s1, s2⟩ := hc j hlt
      have Hpg : Hid (pgB x.t j = (eqT (atS x.t.pg j) emT || havB x.t j (atS x.t.pg j))) := rfl
      generalize hT : atS x.t.pg j = s at *
      clear hT hc
      have HP := Lib.hid hP
      clear hP
      obtain ⟨w2, hw2⟩ : ∃ w2, wr.alloc (.cells #[.int .i64 s.a, .int .i64 s.b, .int .i64 s.c] 34) = w2 := ⟨_, rfl⟩
      have hm2 : Mod (fun _ => False) wr w2 := by rw [← hw2]; exact (Mod.refl _ wr).alloc _
      have hr2 : RBx w2 wr.heap.size 34 s := by rw [← hw2]; exact RBx.new wr _ s
      have HM2 := Lib.hid (Hmr.out.trans hm2 (fun _ _ h => h))
      have HS2 := Lib.hid hr2
      have HB2 := Lib.hid ((HB.out.keep Hmr.out).keep hm2)
      have HX2 := Lib.hid ((HX.out.keep Hmr.out).keep hm2)
      clear hm2 hr2
      have M0 : Hid (Mod (fun _ => False) w2 w2.drew) := (Mod.refl _ w2).drew
      have HEM : Hid (∀ W, Mod (fun _ => False) w2 W → Calls Try.prog 27 #[] W fun e w' => e = .returned (.agg #[.int .i64 (-1), .int .i64 0, .int .i64 0]) ∧ Mod (fun _ => False) w2 w') := fun W hW => (empty_ok W).mono (fun e w' h => ⟨h.1, hW.trans h.2 (fun _ _ h => h)⟩)
      have HHV : Hid (∀ W, Mod (fun _ => False) w2 W → Calls Try.prog 61 #[.agg #[.slice x.P x.n x.c, .slice x.S x.m x.d, .int .i64 x.t.sl, .int .i64 x.t.nw], .int .i64 j, .agg #[.int .i64 s.a, .int .i64 s.b, .int .i64 s.c]] W fun e w' => e = .returned (.bool (havB x.t j s)) ∧ Mod (fun _ => False) w2 w') := fun W hW => (mayHave_ok W x (HX2.out.keep hW) hn hm k1 k2 j s).mono (fun e w' h => ⟨h.1, hW.trans h.2 (fun _ _ h => h)⟩)
      have heq : ∀ w, (Op.equalIn 10000 34 (.agg #[.int .i64 s.a, .int .i64 s.b, .int .i64 s.c]) (.agg #[.int .i64 (-1), .int .i64 0, .int .i64 0])).run Try.prog w = .ok (eqT s emT) w := fun w => eq_pl s emT w
      rw [HP.out]
      cases hE : eqT s emT with
      | true =>
        rw [hE] at heq
        have Hpy : Hid (pgB x.t j = true) := by rw [Hpg.out, hE]; rfl
        clear hE Hpg
        go_wp2_with fail
        clear hw2 s0 s1 s2
        refine wp_region_held (S := (fun W : World => (W.cell? ⟨w.heap.size, 0, none⟩ = some (.slice x.P x.n x.c) ∧ W.cell? ⟨w.heap.size, 1, none⟩ = some (.slice x.S x.m x.d) ∧ W.cell? ⟨w.heap.size, 2, none⟩ = some (.int .i64 x.t.sl) ∧ W.cell? ⟨w.heap.size, 3, none⟩ = some (.int .i64 x.t.nw)) ∧ (W.cell? ⟨wr.heap.size, 0, none⟩ = some (.int .i64 s.a) ∧ W.cell? ⟨wr.heap.size, 1, none⟩ = some (.int .i64 s.b) ∧ W.cell? ⟨wr.heap.size, 2, none⟩ = some (.int .i64 s.c)))) (by kernel_rfl) ?_
        have hI := (show (fun W : World => (W.cell? ⟨w.heap.size, 0, none⟩ = some (.slice x.P x.n x.c) ∧ W.cell? ⟨w.heap.size, 1, none⟩ = some (.slice x.S x.m x.d) ∧ W.cell? ⟨w.heap.size, 2, none⟩ = some (.int .i64 x.t.sl) ∧ W.cell? ⟨w.heap.size, 3, none⟩ = some (.int .i64 x.t.nw)) ∧ (W.cell? ⟨wr.heap.size, 0, none⟩ = some (.int .i64 s.a) ∧ W.cell? ⟨wr.heap.size, 1, none⟩ = some (.int .i64 s.b) ∧ W.cell? ⟨wr.heap.size, 2, none⟩ = some (.int .i64 s.c))) _ from ⟨(HB2.out.keep M0.out).cells, (HS2.out.keep M0.out).cells⟩)
        refine rg_take (n := 9) (v := ?_) 0 (some 13) rfl rfl (by kernel_rfl) (by kernel_rfl) (by kernel_rfl) (fun _ _ _ h => h) (by rfl) hI ?_ ?_
        rotate_left
        · ((intro w hSw; (try dsimp only at hSw); go_simp); (try with_reducible rfl))
        try simp only [Act.put, List.setIfInBounds_toArray, List.set_cons_zero, List.set_cons_succ]
        refine rg_one (n := 8) 1 rfl (by kernel_rfl) (by rfl) ?_
        go_simp
        go_at_call 27
        refine (HEM.out _ M0.out).mono ?_
        rintro e w3 ⟨rfl, hm3⟩
        have Hm3 := Lib.hid hm3
        clear hm3
        clear hI
        have hI := (show (fun W : World => (W.cell? ⟨w.heap.size, 0, none⟩ = some (.slice x.P x.n x.c) ∧ W.cell? ⟨w.heap.size, 1, none⟩ = some (.slice x.S x.m x.d) ∧ W.cell? ⟨w.heap.size, 2, none⟩ = some (.int .i64 x.t.sl) ∧ W.cell? ⟨w.heap.size, 3, none⟩ = some (.int .i64 x.t.nw)) ∧ (W.cell? ⟨wr.heap.size, 0, none⟩ = some (.int .i64 s.a) ∧ W.cell? ⟨wr.heap.size, 1, none⟩ = some (.int .i64 s.b) ∧ W.cell? ⟨wr.heap.size, 2, none⟩ = some (.int .i64 s.c))) _ from ⟨(HB2.out.keep Hm3.out).cells, (HS2.out.keep Hm3.out).cells⟩)
        refine ⟨hI, ?_⟩
        try simp only [Act.put, List.setIfInBounds_toArray, List.set_cons_zero, List.set_cons_succ]
        refine rg_take (n := 7) (v := ?_) 2 (some 15) rfl rfl (by kernel_rfl) (by kernel_rfl) (by kernel_rfl) (fun _ _ _ h => h) (by rfl) hI ?_ ?_
        rotate_left
        · ((intro w hSw; (try dsimp only at hSw); go_simp); (try with_reducible rfl))
        try simp only [Act.put, List.setIfInBounds_toArray, List.set_cons_zero, List.set_cons_succ]
        refine rg_take (n := 6) (v := ?_) 3 (some 16) rfl rfl (by kernel_rfl) (by kernel_rfl) (by kernel_rfl) (fun _ _ _ h => h) (by rfl) hI ?_ ?_
        rotate_left
        · ((intro w hSw; (try dsimp only at hSw); go_simp); (try with_reducible rfl))
        try simp only [Act.put, List.setIfInBounds_toArray, List.set_cons_zero, List.set_cons_succ]
        refine rg_skip (n := 5) 4 (some 17) rfl rfl (by kernel_rfl) (by kernel_rfl) (by kernel_rfl) (fun _ _ _ h => h) (by rfl) hI ?_
        try simp only [Act.put, List.setIfInBounds_toArray, List.set_cons_zero, List.set_cons_succ]
        refine rg_skip (n := 4) 5 (some 18) rfl rfl (by kernel_rfl) (by kernel_rfl) (by kernel_rfl) (fun _ _ _ h => h) (by rfl) hI ?_
        try simp only [Act.put, List.setIfInBounds_toArray, List.set_cons_zero, List.set_cons_succ]
        refine rg_skip (n := 3) 6 (some 19) rfl rfl (by kernel_rfl) (by kernel_rfl) (by kernel_rfl) (fun _ _ _ h => h) (by rfl) hI ?_
        try simp only [Act.put, List.setIfInBounds_toArray, List.set_cons_zero, List.set_cons_succ]
        refine rg_skip (n := 2) 7 (some 20) rfl rfl (by kernel_rfl) (by kernel_rfl) (by kernel_rfl) (fun _ _ _ h => h) (by rfl) hI ?_
        try simp only [Act.put, List.setIfInBounds_toArray, List.set_cons_zero, List.set_cons_succ]
        refine rg_skip (n := 1) 8 (some 21) rfl rfl (by kernel_rfl) (by kernel_rfl) (by kernel_rfl) (fun _ _ _ h => h) (by rfl) hI ?_
        try simp only [Act.put, List.setIfInBounds_toArray, List.set_cons_zero, List.set_cons_succ]
        refine rg_take (n := 0) (v := ?_) 9 (some 22) rfl rfl (by kernel_rfl) (by kernel_rfl) (by kernel_rfl) (fun _ _ _ h => h) (by rfl) hI ?_ ?_
        rotate_left
        · ((intro w hSw; (try dsimp only at hSw); go_simp); (try with_reducible rfl))
        try simp only [Act.put, List.setIfInBounds_toArray, List.set_cons_zero, List.set_cons_succ]
        refine wpAnyH_done (by kernel_rfl) ?_ _
        clear hI
        go_wp2
        go_roundw
        case rel => exact ⟨j + 1, by omega, by go_num, fun q hq => (by rcases Nat.lt_succ_iff_lt_or_eq.1 hq with h | h; exact Hyes.out q h; rw [h]; exact Hpy.out), HM2.out.trans Hm3.out (fun _ _ h => h)⟩
        case measure => simp [intOf]; omega
      | false =>
        rw [hE] at heq
        cases hH : havB x.t j s with
        | true =>
          rw [hH] at HHV
          have Hpy : Hid (pgB x.t j = true) := by rw [Hpg.out, hE, hH]; rfl
          clear hE Hpg hH
          go_wp2_with fail
          clear hw2 s0 s1 s2
          refine wp_region_held (S := (fun W : World => (W.cell? ⟨w.heap.size, 0, none⟩ = some (.slice x.P x.n x.c) ∧ W.cell? ⟨w.heap.size, 1, none⟩ = some (.slice x.S x.m x.d) ∧ W.cell? ⟨w.heap.size, 2, none⟩ = some (.int .i64 x.t.sl) ∧ W.cell? ⟨w.heap.size, 3, none⟩ = some (.int .i64 x.t.nw)) ∧ (W.cell? ⟨wr.heap.size, 0, none⟩ = some (.int .i64 s.a) ∧ W.cell? ⟨wr.heap.size, 1, none⟩ = some (.int .i64 s.b) ∧ W.cell? ⟨wr.heap.size, 2, none⟩ = some (.int .i64 s.c)))) (by kernel_rfl) ?_
          have hI := (show (fun W : World => (W.cell? ⟨w.heap.size, 0, none⟩ = some (.slice x.P x.n x.c) ∧ W.cell? ⟨w.heap.size, 1, none⟩ = some (.slice x.S x.m x.d) ∧ W.cell? ⟨w.heap.size, 2, none⟩ = some (.int .i64 x.t.sl) ∧ W.cell? ⟨w.heap.size, 3, none⟩ = some (.int .i64 x.t.nw)) ∧ (W.cell? ⟨wr.heap.size, 0, none⟩ = some (.int .i64 s.a) ∧ W.cell? ⟨wr.heap.size, 1, none⟩ = some (.int .i64 s.b) ∧ W.cell? ⟨wr.heap.size, 2, none⟩ = some (.int .i64 s.c))) _ from ⟨(HB2.out.keep M0.out).cells, (HS2.out.keep M0.out).cells⟩)
          refine rg_take (n := 9) (v := ?_) 0 (some 13) rfl rfl (by kernel_rfl) (by kernel_rfl) (by kernel_rfl) (fun _ _ _ h => h) (by rfl) hI ?_ ?_
          rotate_left
          · ((intro w hSw; (try dsimp only at hSw); go_simp); (try with_reducible rfl))
          try simp only [Act.put, List.setIfInBounds_toArray, List.set_cons_zero, List.set_cons_succ]
          refine rg_one (n := 8) 1 rfl (by kernel_rfl) (by rfl) ?_
          go_simp
          go_at_call 27
          refine (HEM.out _ M0.out).mono ?_
          rintro e w3 ⟨rfl, hm3⟩
          have Hm3 := Lib.hid hm3
          clear hm3
          clear hI
          have hI := (show (fun W : World => (W.cell? ⟨w.heap.size, 0, none⟩ = some (.slice x.P x.n x.c) ∧ W.cell? ⟨w.heap.size, 1, none⟩ = some (.slice x.S x.m x.d) ∧ W.cell? ⟨w.heap.size, 2, none⟩ = some (.int .i64 x.t.sl) ∧ W.cell? ⟨w.heap.size, 3, none⟩ = some (.int .i64 x.t.nw)) ∧ (W.cell? ⟨wr.heap.size, 0, none⟩ = some (.int .i64 s.a) ∧ W.cell? ⟨wr.heap.size, 1, none⟩ = some (.int .i64 s.b) ∧ W.cell? ⟨wr.heap.size, 2, none⟩ = some (.int .i64 s.c))) _ from ⟨(HB2.out.keep Hm3.out).cells, (HS2.out.keep Hm3.out).cells⟩)
          refine ⟨hI, ?_⟩
          try simp only [Act.put, List.setIfInBounds_toArray, List.set_cons_zero, List.set_cons_succ]
          refine rg_take (n := 7) (v := ?_) 2 (some 15) rfl rfl (by kernel_rfl) (by kernel_rfl) (by kernel_rfl) (fun _ _ _ h => h) (by rfl) hI ?_ ?_
          rotate_left
          · ((intro w hSw; (try dsimp only at hSw); go_simp); (try with_reducible rfl))
          try simp only [Act.put, List.setIfInBounds_toArray, List.set_cons_zero, List.set_cons_succ]
          refine rg_take (n := 6) (v := ?_) 3 (some 16) rfl rfl (by kernel_rfl) (by kernel_rfl) (by kernel_rfl) (fun _ _ _ h => h) (by rfl) hI ?_ ?_
          rotate_left
          · ((intro w hSw; (try dsimp only at hSw); go_simp); (try with_reducible rfl))
          try simp only [Act.put, List.setIfInBounds_toArray, List.set_cons_zero, List.set_cons_succ]
          refine rg_take (n := 5) (v := ?_) 4 (some 17) rfl rfl (by kernel_rfl) (by kernel_rfl) (by kernel_rfl) (fun _ _ _ h => h) (by rfl) hI ?_ ?_
          rotate_left
          · ((intro w hSw; (try dsimp only at hSw); go_simp); (try with_reducible rfl))
          try simp only [Act.put, List.setIfInBounds_toArray, List.set_cons_zero, List.set_cons_succ]
          refine rg_take (n := 4) (v := ?_) 5 (some 18) rfl rfl (by kernel_rfl) (by kernel_rfl) (by kernel_rfl) (fun _ _ _ h => h) (by rfl) hI ?_ ?_
          rotate_left
          · ((intro w hSw; (try dsimp only at hSw); go_simp); (try with_reducible rfl))
          try simp only [Act.put, List.setIfInBounds_toArray, List.set_cons_zero, List.set_cons_succ]
          refine rg_take (n := 3) (v := ?_) 6 (some 19) rfl rfl (by kernel_rfl) (by kernel_rfl) (by kernel_rfl) (fun _ _ _ h => h) (by rfl) hI ?_ ?_
          rotate_left
          · ((intro w hSw; (try dsimp only at hSw); go_simp); (try with_reducible rfl))
          try simp only [Act.put, List.setIfInBounds_toArray, List.set_cons_zero, List.set_cons_succ]
          refine rg_one (n := 2) 7 rfl (by kernel_rfl) (by rfl) ?_
          go_simp
          go_at_call 61
          refine (HHV.out _ Hm3.out).mono ?_
          rintro e w4 ⟨rfl, hm4⟩
          have Hm4 := Lib.hid hm4
          clear hm4
          clear hI
          have hI := (show (fun W : World => (W.cell? ⟨w.heap.size, 0, none⟩ = some (.slice x.P x.n x.c) ∧ W.cell? ⟨w.heap.size, 1, none⟩ = some (.slice x.S x.m x.d) ∧ W.cell? ⟨w.heap.size, 2, none⟩ = some (.int .i64 x.t.sl) ∧ W.cell? ⟨w.heap.size, 3, none⟩ = some (.int .i64 x.t.nw)) ∧ (W.cell? ⟨wr.heap.size, 0, none⟩ = some (.int .i64 s.a) ∧ W.cell? ⟨wr.heap.size, 1, none⟩ = some (.int .i64 s.b) ∧ W.cell? ⟨wr.heap.size, 2, none⟩ = some (.int .i64 s.c))) _ from ⟨(HB2.out.keep Hm4.out).cells, (HS2.out.keep Hm4.out).cells⟩)
          refine ⟨hI, ?_⟩
          try simp only [Act.put, List.setIfInBounds_toArray, List.set_cons_zero, List.set_cons_succ]
          refine rg_take (n := 1) (v := ?_) 8 (some 21) rfl rfl (by kernel_rfl) (by kernel_rfl) (by kernel_rfl) (fun _ _ _ h => h) (by rfl) hI ?_ ?_
          rotate_left
          · ((intro w hSw; (try dsimp only at hSw); go_simp); (try with_reducible rfl))
          try simp only [Act.put, List.setIfInBounds_toArray, List.set_cons_zero, List.set_cons_succ]
          refine rg_take (n := 0) (v := ?_) 9 (some 22) rfl rfl (by kernel_rfl) (by kernel_rfl) (by kernel_rfl) (fun _ _ _ h => h) (by rfl) hI ?_ ?_
          rotate_left
          · ((intro w hSw; (try dsimp only at hSw); go_simp); (try with_reducible rfl))
          try simp only [Act.put, List.setIfInBounds_toArray, List.set_cons_zero, List.set_cons_succ]
          refine wpAnyH_done (by kernel_rfl) ?_ _
          clear hI
          go_wp2
          go_roundw
          case rel => exact ⟨j + 1, by omega, by go_num, fun q hq => (by rcases Nat.lt_succ_iff_lt_or_eq.1 hq with h | h; exact Hyes.out q h; rw [h]; exact Hpy.out), HM2.out.trans Hm4.out (fun _ _ h => h)⟩
          case measure => simp [intOf]; omega
        | false =>
          rw [hH] at HHV
          have Hpy : Hid (pgB x.t j = false) := by rw [Hpg.out, hE, hH]; rfl
          clear hE Hpg hH
          go_wp2_with fail
          clear hw2 s0 s1 s2
          refine wp_region_held (S := (fun W : World => (W.cell? ⟨w.heap.size, 0, none⟩ = some (.slice x.P x.n x.c) ∧ W.cell? ⟨w.heap.size, 1, none⟩ = some (.slice x.S x.m x.d) ∧ W.cell? ⟨w.heap.size, 2, none⟩ = some (.int .i64 x.t.sl) ∧ W.cell? ⟨w.heap.size, 3, none⟩ = some (.int .i64 x.t.nw)) ∧ (W.cell? ⟨wr.heap.size, 0, none⟩ = some (.int .i64 s.a) ∧ W.cell? ⟨wr.heap.size, 1, none⟩ = some (.int .i64 s.b) ∧ W.cell? ⟨wr.heap.size, 2, none⟩ = some (.int .i64 s.c)))) (by kernel_rfl) ?_
          have hI := (show (fun W : World => (W.cell? ⟨w.heap.size, 0, none⟩ = some (.slice x.P x.n x.c) ∧ W.cell? ⟨w.heap.size, 1, none⟩ = some (.slice x.S x.m x.d) ∧ W.cell? ⟨w.heap.size, 2, none⟩ = some (.int .i64 x.t.sl) ∧ W.cell? ⟨w.heap.size, 3, none⟩ = some (.int .i64 x.t.nw)) ∧ (W.cell? ⟨wr.heap.size, 0, none⟩ = some (.int .i64 s.a) ∧ W.cell? ⟨wr.heap.size, 1, none⟩ = some (.int .i64 s.b) ∧ W.cell? ⟨wr.heap.size, 2, none⟩ = some (.int .i64 s.c))) _ from ⟨(HB2.out.keep M0.out).cells, (HS2.out.keep M0.out).cells⟩)
          refine rg_take (n := 9) (v := ?_) 0 (some 13) rfl rfl (by kernel_rfl) (by kernel_rfl) (by kernel_rfl) (fun _ _ _ h => h) (by rfl) hI ?_ ?_
          rotate_left
          · ((intro w hSw; (try dsimp only at hSw); go_simp); (try with_reducible rfl))
          try simp only [Act.put, List.setIfInBounds_toArray, List.set_cons_zero, List.set_cons_succ]
          refine rg_one (n := 8) 1 rfl (by kernel_rfl) (by rfl) ?_
          go_simp
          go_at_call 27
          refine (HEM.out _ M0.out).mono ?_
          rintro e w3 ⟨rfl, hm3⟩
          have Hm3 := Lib.hid hm3
          clear hm3
          clear hI
          have hI := (show (fun W : World => (W.cell? ⟨w.heap.size, 0, none⟩ = some (.slice x.P x.n x.c) ∧ W.cell? ⟨w.heap.size, 1, none⟩ = some (.slice x.S x.m x.d) ∧ W.cell? ⟨w.heap.size, 2, none⟩ = some (.int .i64 x.t.sl) ∧ W.cell? ⟨w.heap.size, 3, none⟩ = some (.int .i64 x.t.nw)) ∧ (W.cell? ⟨wr.heap.size, 0, none⟩ = some (.int .i64 s.a) ∧ W.cell? ⟨wr.heap.size, 1, none⟩ = some (.int .i64 s.b) ∧ W.cell? ⟨wr.heap.size, 2, none⟩ = some (.int .i64 s.c))) _ from ⟨(HB2.out.keep Hm3.out).cells, (HS2.out.keep Hm3.out).cells⟩)
          refine ⟨hI, ?_⟩
          try simp only [Act.put, List.setIfInBounds_toArray, List.set_cons_zero, List.set_cons_succ]
          refine rg_take (n := 7) (v := ?_) 2 (some 15) rfl rfl (by kernel_rfl) (by kernel_rfl) (by kernel_rfl) (fun _ _ _ h => h) (by rfl) hI ?_ ?_
          rotate_left
          · ((intro w hSw; (try dsimp only at hSw); go_simp); (try with_reducible rfl))
          try simp only [Act.put, List.setIfInBounds_toArray, List.set_cons_zero, List.set_cons_succ]
          refine rg_take (n := 6) (v := ?_) 3 (some 16) rfl rfl (by kernel_rfl) (by kernel_rfl) (by kernel_rfl) (fun _ _ _ h => h) (by rfl) hI ?_ ?_
          rotate_left
          · ((intro w hSw; (try dsimp only at hSw); go_simp); (try with_reducible rfl))
          try simp only [Act.put, List.setIfInBounds_toArray, List.set_cons_zero, List.set_cons_succ]
          refine rg_take (n := 5) (v := ?_) 4 (some 17) rfl rfl (by kernel_rfl) (by kernel_rfl) (by kernel_rfl) (fun _ _ _ h => h) (by rfl) hI ?_ ?_
          rotate_left
          · ((intro w hSw; (try dsimp only at hSw); go_simp); (try with_reducible rfl))
          try simp only [Act.put, List.setIfInBounds_toArray, List.set_cons_zero, List.set_cons_succ]
          refine rg_take (n := 4) (v := ?_) 5 (some 18) rfl rfl (by kernel_rfl) (by kernel_rfl) (by kernel_rfl) (fun _ _ _ h => h) (by rfl) hI ?_ ?_
          rotate_left
          · ((intro w hSw; (try dsimp only at hSw); go_simp); (try with_reducible rfl))
          try simp only [Act.put, List.setIfInBounds_toArray, List.set_cons_zero, List.set_cons_succ]
          refine rg_take (n := 3) (v := ?_) 6 (some 19) rfl rfl (by kernel_rfl) (by kernel_rfl) (by kernel_rfl) (fun _ _ _ h => h) (by rfl) hI ?_ ?_
          rotate_left
          · ((intro w hSw; (try dsimp only at hSw); go_simp); (try with_reducible rfl))
          try simp only [Act.put, List.setIfInBounds_toArray, List.set_cons_zero, List.set_cons_succ]
          refine rg_one (n := 2) 7 rfl (by kernel_rfl) (by rfl) ?_
          go_simp
          go_at_call 61
          refine (HHV.out _ Hm3.out).mono ?_
          rintro e w4 ⟨rfl, hm4⟩
          have Hm4 := Lib.hid hm4
          clear hm4
          clear hI
          have hI := (show (fun W : World => (W.cell? ⟨w.heap.size, 0, none⟩ = some (.slice x.P x.n x.c) ∧ W.cell? ⟨w.heap.size, 1, none⟩ = some (.slice x.S x.m x.d) ∧ W.cell? ⟨w.heap.size, 2, none⟩ = some (.int .i64 x.t.sl) ∧ W.cell? ⟨w.heap.size, 3, none⟩ = some (.int .i64 x.t.nw)) ∧ (W.cell? ⟨wr.heap.size, 0, none⟩ = some (.int .i64 s.a) ∧ W.cell? ⟨wr.heap.size, 1, none⟩ = some (.int .i64 s.b) ∧ W.cell? ⟨wr.heap.size, 2, none⟩ = some (.int .i64 s.c))) _ from ⟨(HB2.out.keep Hm4.out).cells, (HS2.out.keep Hm4.out).cells⟩)
          refine ⟨hI, ?_⟩
          try simp only [Act.put, List.setIfInBounds_toArray, List.set_cons_zero, List.set_cons_succ]
          refine rg_take (n := 1) (v := ?_) 8 (some 21) rfl rfl (by kernel_rfl) (by kernel_rfl) (by kernel_rfl) (fun _ _ _ h => h) (by rfl) hI ?_ ?_
          rotate_left
          · ((intro w hSw; (try dsimp only at hSw); go_simp); (try with_reducible rfl))
          try simp only [Act.put, List.setIfInBounds_toArray, List.set_cons_zero, List.set_cons_succ]
          refine rg_take (n := 0) (v := ?_) 9 (some 22) rfl rfl (by kernel_rfl) (by kernel_rfl) (by kernel_rfl) (fun _ _ _ h => h) (by rfl) hI ?_ ?_
          rotate_left
          · ((intro w hSw; (try dsimp only at hSw); go_simp); (try with_reducible rfl))
          try simp only [Act.put, List.setIfInBounds_toArray, List.set_cons_zero, List.set_cons_succ]
          refine wpAnyH_done (by kernel_rfl) ?_ _
          clear hI
          go_wp2
          go_ret
          exact ⟨by
            have e : pagB x.t = false := allN_no (i := j) (by rw [Hsl.out]; exact hlt) Hpy.out
            rw [e]; first | done | rfl, HM.out.trans (HM2.out.trans Hm4.out (fun _ _ h => h)) (fun _ _ h => h)⟩
    · obtain rfl : j = x.n := by omega
      go_wp2
      go_ret
      exact ⟨by
        have e : pagB x.t = true := allN_iff.2 (fun q hq => Hyes.out q (by rw [← Hsl.out]; exact hq))
        rw [e]; first | done | rfl, HM.out.trans Hmr.out (fun _ _ h => h)⟩

set_option maxRecDepth 100000 in
set_option maxHeartbeats 3200000 in
theorem tmay_ok (w : World) (x : TV) (h : x.At w) (hn : x.n ≤ 1000) (hm : x.m ≤ 1000) :
    Calls Try.prog 20 #[.agg #[.slice x.P x.n x.c, .slice x.S x.m x.d, .int .i64 x.t.sl, .int .i64 x.t.nw]] w fun e w' => e = .returned (.bool (mayB x.t)) ∧ Mod (fun _ => False) w w' := by
  obtain ⟨w1, hw1⟩ : ∃ w1, w.alloc (.cells #[.slice x.P x.n x.c, .slice x.S x.m x.d, .int .i64 x.t.sl, .int .i64 x.t.nw] 27) = w1 := ⟨_, rfl⟩
  have hm1 : Mod (fun _ => False) w w1 := by rw [← hw1]; exact (Mod.refl _ w).alloc _
  have hbx : TBx w1 w.heap.size x := by rw [← hw1]; exact TBx.new w x
  obtain ⟨c0, c1, c2, c3⟩ := hbx.cells
  have HB := Lib.hid hbx
  have HM := Lib.hid hm1
  have HX := Lib.hid (h.keep hm1)
  have W1 := Lib.hid (sizes_ok w1 x.n x.m x.t.sl)
  have W2 := Lib.hid (within_ok w1 x.t.nw 0 1099511627776)
  have hgo : mayB x.t = (sizB x.n x.m x.t.sl && inB x.t.nw 0 1099511627776 && sgsB x.t && pagB x.t) := by
    unfold mayB
    rw [h.pg.len, h.sg.len]
  rw [hgo]
  clear hgo hbx hm1 h
  cases hs : sizB x.n x.m x.t.sl with
  | false =>
    rw [hs] at W1
    clear hs
    go_enter Try.func20, Try.ntmps20
    go_wp2_with fail
    refine W1.out.mono ?_
    rintro e w' ⟨rfl, rfl⟩
    go_wp2
    go_ret
    exact ⟨by simp, HM.out⟩
  | true =>
    rw [hs] at W1
    have hk : 1 ≤ x.t.sl ∧ x.t.sl ≤ 16 := by
      unfold sizB at hs
      rw [Bool.and_eq_true, inB_iff] at hs
      exact hs.2
    clear hs
    have W3 := Lib.hid (tmaySegs_ok w1 x HX.out hm hk.1 hk.2)
    have W4 := Lib.hid (fun W (hW : Mod (fun _ => False) w1 W) => mayPages_ok W x (HX.out.keep hW) hn hm hk.1 hk.2)
    clear hk
    cases hn : inB x.t.nw 0 1099511627776 with
    | false =>
      rw [hn] at W2
      clear hn
      go_enter Try.func20, Try.ntmps20
      go_wp2_with fail
      refine W1.out.mono ?_
      rintro e w' ⟨rfl, rfl⟩
      go_wp2_with fail
      refine W2.out.mono ?_
      rintro e w' ⟨rfl, rfl⟩
      go_wp2
      go_ret
      exact ⟨by simp, HM.out⟩
    | true =>
      rw [hn] at W2
      clear hn
      cases hg : sgsB x.t with
      | false =>
        rw [hg] at W3
        clear hg
        go_enter Try.func20, Try.ntmps20
        go_wp2_with fail
        refine W1.out.mono ?_
        rintro e w' ⟨rfl, rfl⟩
        go_wp2_with fail
        refine W2.out.mono ?_
        rintro e w' ⟨rfl, rfl⟩
        go_wp2_with fail
        refine W3.out.mono ?_
        rintro e w2 ⟨rfl, hm2⟩
        have HM2 := Lib.hid (HM.out.trans hm2 (fun _ _ h => h))
        clear hm2
        go_wp2
        go_ret
        exact ⟨by simp, HM2.out⟩
      | true =>
        rw [hg] at W3
        clear hg
        generalize pagB x.t = bb at *
        go_enter Try.func20, Try.ntmps20
        go_wp2_with fail
        refine W1.out.mono ?_
        rintro e w' ⟨rfl, rfl⟩
        go_wp2_with fail
        refine W2.out.mono ?_
        rintro e w' ⟨rfl, rfl⟩
        go_wp2_with fail
        refine W3.out.mono ?_
        rintro e w2 ⟨rfl, hm2⟩
        have Hm2 := Lib.hid hm2
        have W5 := Lib.hid (W4.out w2 hm2)
        obtain ⟨d0, d1, d2, d3⟩ := (HB.out.keep hm2).cells
        clear hm2 W3 W4 c0 c1 c2 c3 hw1
        go_wp2_with fail
        refine W5.out.mono ?_
        rintro e w3 ⟨rfl, hm3⟩
        have HM3 := Lib.hid (HM.out.trans (Hm2.out.trans hm3 (fun _ _ h => h)) (fun _ _ h => h))
        clear hm3 d0 d1 d2 d3
        go_wp2
        go_ret
        exact ⟨by simp, HM3.out⟩
end Go.Proofs.Ythbcgbbcoanbdaa
