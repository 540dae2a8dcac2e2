/-
  Package txn: mayFollow, mayChanges, May.
-/
import Derived.Test.YtidcmolkolcliaaX1b
import Derived.Test.YtidcmolkolcliaaXOrd
namespace Go.Proofs.Ytidcmolkolcliaa
open Go Go.RowKit

set_option maxRecDepth 100000 in
set_option maxHeartbeats 3200000 in
theorem mayFollow_ok (w : World) (A : Option Addr) (n c : Nat) (l : List ChD) (hl : Cs w A n c l) (hn : n ≤ 1000) (x : ChD) (h : x.At w) :
    Calls Try.prog 31 #[.slice A n c, .agg #[.int .i64 x.lsn, .int .i64 x.page, .int .i64 x.key, .bool x.o.is, .slice x.o.B x.o.m x.o.d, .bool x.v.is, .slice x.v.B x.v.m x.v.d]] w fun e w' => e = .returned (.bool (folB (pc l) x.p)) ∧ Mod (fun _ => False) w w' := by
  obtain ⟨w1, hw1⟩ : ∃ w1, w.alloc (.cells #[.int .i64 x.lsn, .int .i64 x.page, .int .i64 x.key, .bool x.o.is, .slice x.o.B x.o.m x.o.d, .bool x.v.is, .slice x.v.B x.v.m x.v.d] 30) = w1 := ⟨_, rfl⟩
  have hin : x.In w1 w.heap.size := by rw [← hw1]; exact ChD.In.new w x
  have HM1 : Hid (Mod (fun _ => False) w w1) := by rw [← hw1]; exact (Mod.refl _ w).alloc _
  obtain ⟨c0, c1, c2, c3, c4, c5, c6⟩ := hin.cells
  have HI1 := Lib.hid hin
  clear hin
  have hnl : (pc l).length = n := (pc_len l).trans hl.len
  have HC := Lib.hid (fun V (hV : Mod (fun _ => False) w1 V) => mayChange_ok V x (h.keep (HM1.out.trans hV (fun _ _ h => h))))
  have hE : folB (pc l) x.p = (cB x.p && (decide (n = 0) || decide ((atC (pc l) (n - 1)).lsn < x.lsn))) := by unfold folB; rw [hnl]; rfl
  rw [hE]
  clear hE
  cases hc : cB x.p with
  | false =>
    rw [hc] at HC
    clear hc h hnl hl
    go_enter Try.func31, Try.ntmps31
    go_wp2_with fail
    have HD : Hid (Mod (fun _ => False) w1 w1.drew) := (Mod.refl _ w1).drew
    refine wp_region_held (S := (fun W : World => W.cell? ⟨w.heap.size, 0, none⟩ = some (.int .i64 x.lsn) ∧ W.cell? ⟨w.heap.size, 1, none⟩ = some (.int .i64 x.page) ∧ W.cell? ⟨w.heap.size, 2, none⟩ = some (.int .i64 x.key) ∧ W.cell? ⟨w.heap.size, 3, none⟩ = some (.bool x.o.is) ∧ W.cell? ⟨w.heap.size, 4, none⟩ = some (.slice x.o.B x.o.m x.o.d) ∧ W.cell? ⟨w.heap.size, 5, none⟩ = some (.bool x.v.is) ∧ W.cell? ⟨w.heap.size, 6, none⟩ = some (.slice x.v.B x.v.m x.v.d))) (by kernel_rfl) ?_
    have hI := (show (fun W : World => W.cell? ⟨w.heap.size, 0, none⟩ = some (.int .i64 x.lsn) ∧ W.cell? ⟨w.heap.size, 1, none⟩ = some (.int .i64 x.page) ∧ W.cell? ⟨w.heap.size, 2, none⟩ = some (.int .i64 x.key) ∧ W.cell? ⟨w.heap.size, 3, none⟩ = some (.bool x.o.is) ∧ W.cell? ⟨w.heap.size, 4, none⟩ = some (.slice x.o.B x.o.m x.o.d) ∧ W.cell? ⟨w.heap.size, 5, none⟩ = some (.bool x.v.is) ∧ W.cell? ⟨w.heap.size, 6, none⟩ = some (.slice x.v.B x.v.m x.v.d)) _ from (HI1.out.keep HD.out).cells)
    refine rg_take (n := 19) (v := ?_) 0 (some 5) rfl rfl (by kernel_rfl) (by kernel_rfl) (by kernel_rfl) (fun _ _ _ h => h) (by rfl) hI ?_ ?_
    rotate_left
    · ((intro w hSw; (try dsimp only at hSw); go_simp); (try with_reducible rfl))
    try simp only [Act.put, List.setIfInBounds_toArray, List.set_cons_zero, List.set_cons_succ]
    refine rg_one (n := 18) 1 rfl (by kernel_rfl) (by rfl) ?_
    go_simp
    go_at_call 40
    refine (HC.out _ HD.out).mono ?_
    rintro e w3 ⟨rfl, hm3⟩
    have HM3 := Lib.hid (HD.out.trans hm3 (fun _ _ h => h))
    clear hm3
    clear hI
    have hI := (show (fun W : World => W.cell? ⟨w.heap.size, 0, none⟩ = some (.int .i64 x.lsn) ∧ W.cell? ⟨w.heap.size, 1, none⟩ = some (.int .i64 x.page) ∧ W.cell? ⟨w.heap.size, 2, none⟩ = some (.int .i64 x.key) ∧ W.cell? ⟨w.heap.size, 3, none⟩ = some (.bool x.o.is) ∧ W.cell? ⟨w.heap.size, 4, none⟩ = some (.slice x.o.B x.o.m x.o.d) ∧ W.cell? ⟨w.heap.size, 5, none⟩ = some (.bool x.v.is) ∧ W.cell? ⟨w.heap.size, 6, none⟩ = some (.slice x.v.B x.v.m x.v.d)) _ from (HI1.out.keep HM3.out).cells)
    refine ⟨hI, ?_⟩
    try simp only [Act.put, List.setIfInBounds_toArray, List.set_cons_zero, List.set_cons_succ]
    refine rg_take (n := 17) (v := ?_) 2 (some 7) rfl rfl (by kernel_rfl) (by kernel_rfl) (by kernel_rfl) (fun _ _ _ h => h) (by rfl) hI ?_ ?_
    rotate_left
    · ((intro w hSw; (try dsimp only at hSw); go_simp); (try with_reducible rfl))
    try simp only [Act.put, List.setIfInBounds_toArray, List.set_cons_zero, List.set_cons_succ]
    refine rg_skip (n := 16) 3 (some 8) rfl rfl (by kernel_rfl) (by kernel_rfl) (by kernel_rfl) (fun _ _ _ h => h) (by rfl) hI ?_
    try simp only [Act.put, List.setIfInBounds_toArray, List.set_cons_zero, List.set_cons_succ]
    refine rg_skip (n := 15) 4 (some 9) rfl rfl (by kernel_rfl) (by kernel_rfl) (by kernel_rfl) (fun _ _ _ h => h) (by rfl) hI ?_
    try simp only [Act.put, List.setIfInBounds_toArray, List.set_cons_zero, List.set_cons_succ]
    refine rg_skip (n := 14) 5 (some 10) rfl rfl (by kernel_rfl) (by kernel_rfl) (by kernel_rfl) (fun _ _ _ h => h) (by rfl) hI ?_
    try simp only [Act.put, List.setIfInBounds_toArray, List.set_cons_zero, List.set_cons_succ]
    refine rg_skip (n := 13) 6 (some 11) rfl rfl (by kernel_rfl) (by kernel_rfl) (by kernel_rfl) (fun _ _ _ h => h) (by rfl) hI ?_
    try simp only [Act.put, List.setIfInBounds_toArray, List.set_cons_zero, List.set_cons_succ]
    refine rg_skip (n := 12) 7 (some 12) rfl rfl (by kernel_rfl) (by kernel_rfl) (by kernel_rfl) (fun _ _ _ h => h) (by rfl) hI ?_
    try simp only [Act.put, List.setIfInBounds_toArray, List.set_cons_zero, List.set_cons_succ]
    refine rg_skip (n := 11) 8 (some 13) rfl rfl (by kernel_rfl) (by kernel_rfl) (by kernel_rfl) (fun _ _ _ h => h) (by rfl) hI ?_
    try simp only [Act.put, List.setIfInBounds_toArray, List.set_cons_zero, List.set_cons_succ]
    refine rg_skip (n := 10) 9 (some 14) rfl rfl (by kernel_rfl) (by kernel_rfl) (by kernel_rfl) (fun _ _ _ h => h) (by rfl) hI ?_
    try simp only [Act.put, List.setIfInBounds_toArray, List.set_cons_zero, List.set_cons_succ]
    refine rg_skip (n := 9) 10 (some 15) rfl rfl (by kernel_rfl) (by kernel_rfl) (by kernel_rfl) (fun _ _ _ h => h) (by rfl) hI ?_
    try simp only [Act.put, List.setIfInBounds_toArray, List.set_cons_zero, List.set_cons_succ]
    refine rg_skip (n := 8) 11 (some 16) rfl rfl (by kernel_rfl) (by kernel_rfl) (by kernel_rfl) (fun _ _ _ h => h) (by rfl) hI ?_
    try simp only [Act.put, List.setIfInBounds_toArray, List.set_cons_zero, List.set_cons_succ]
    refine rg_skip (n := 7) 12 (some 17) rfl rfl (by kernel_rfl) (by kernel_rfl) (by kernel_rfl) (fun _ _ _ h => h) (by rfl) hI ?_
    try simp only [Act.put, List.setIfInBounds_toArray, List.set_cons_zero, List.set_cons_succ]
    refine rg_skip (n := 6) 13 (some 18) rfl rfl (by kernel_rfl) (by kernel_rfl) (by kernel_rfl) (fun _ _ _ h => h) (by rfl) hI ?_
    try simp only [Act.put, List.setIfInBounds_toArray, List.set_cons_zero, List.set_cons_succ]
    refine rg_skip (n := 5) 14 (some 19) rfl rfl (by kernel_rfl) (by kernel_rfl) (by kernel_rfl) (fun _ _ _ h => h) (by rfl) hI ?_
    try simp only [Act.put, List.setIfInBounds_toArray, List.set_cons_zero, List.set_cons_succ]
    refine rg_skip (n := 4) 15 (some 20) rfl rfl (by kernel_rfl) (by kernel_rfl) (by kernel_rfl) (fun _ _ _ h => h) (by rfl) hI ?_
    try simp only [Act.put, List.setIfInBounds_toArray, List.set_cons_zero, List.set_cons_succ]
    refine rg_skip (n := 3) 16 (some 21) rfl rfl (by kernel_rfl) (by kernel_rfl) (by kernel_rfl) (fun _ _ _ h => h) (by rfl) hI ?_
    try simp only [Act.put, List.setIfInBounds_toArray, List.set_cons_zero, List.set_cons_succ]
    refine rg_skip (n := 2) 17 (some 22) rfl rfl (by kernel_rfl) (by kernel_rfl) (by kernel_rfl) (fun _ _ _ h => h) (by rfl) hI ?_
    try simp only [Act.put, List.setIfInBounds_toArray, List.set_cons_zero, List.set_cons_succ]
    refine rg_take (n := 1) (v := ?_) 18 (some 23) rfl rfl (by kernel_rfl) (by kernel_rfl) (by kernel_rfl) (fun _ _ _ h => h) (by rfl) hI ?_ ?_
    rotate_left
    · ((intro w hSw; (try dsimp only at hSw); go_simp); (try with_reducible rfl))
    try simp only [Act.put, List.setIfInBounds_toArray, List.set_cons_zero, List.set_cons_succ]
    refine rg_take (n := 0) (v := ?_) 19 (some 4) rfl rfl (by kernel_rfl) (by kernel_rfl) (by kernel_rfl) (fun _ _ _ h => h) (by rfl) hI ?_ ?_
    rotate_left
    · ((intro w hSw; (try dsimp only at hSw); go_simp); (try with_reducible rfl))
    try simp only [Act.put, List.setIfInBounds_toArray, List.set_cons_zero, List.set_cons_succ]
    refine wpAnyH_done (by kernel_rfl) ?_ _
    clear hI
    go_wp2
    go_ret
    exact ⟨rfl, HM1.out.trans HM3.out (fun _ _ h => h)⟩
  | true =>
  rw [hc] at HC
  by_cases h0 : n = 0
  · subst h0
    clear hc h hnl hl
    go_enter Try.func31, Try.ntmps31
    go_wp2_with fail
    have HD : Hid (Mod (fun _ => False) w1 w1.drew) := (Mod.refl _ w1).drew
    refine wp_region_held (S := (fun W : World => W.cell? ⟨w.heap.size, 0, none⟩ = some (.int .i64 x.lsn) ∧ W.cell? ⟨w.heap.size, 1, none⟩ = some (.int .i64 x.page) ∧ W.cell? ⟨w.heap.size, 2, none⟩ = some (.int .i64 x.key) ∧ W.cell? ⟨w.heap.size, 3, none⟩ = some (.bool x.o.is) ∧ W.cell? ⟨w.heap.size, 4, none⟩ = some (.slice x.o.B x.o.m x.o.d) ∧ W.cell? ⟨w.heap.size, 5, none⟩ = some (.bool x.v.is) ∧ W.cell? ⟨w.heap.size, 6, none⟩ = some (.slice x.v.B x.v.m x.v.d))) (by kernel_rfl) ?_
    have hI := (show (fun W : World => W.cell? ⟨w.heap.size, 0, none⟩ = some (.int .i64 x.lsn) ∧ W.cell? ⟨w.heap.size, 1, none⟩ = some (.int .i64 x.page) ∧ W.cell? ⟨w.heap.size, 2, none⟩ = some (.int .i64 x.key) ∧ W.cell? ⟨w.heap.size, 3, none⟩ = some (.bool x.o.is) ∧ W.cell? ⟨w.heap.size, 4, none⟩ = some (.slice x.o.B x.o.m x.o.d) ∧ W.cell? ⟨w.heap.size, 5, none⟩ = some (.bool x.v.is) ∧ W.cell? ⟨w.heap.size, 6, none⟩ = some (.slice x.v.B x.v.m x.v.d)) _ from (HI1.out.keep HD.out).cells)
    refine rg_take (n := 19) (v := ?_) 0 (some 5) rfl rfl (by kernel_rfl) (by kernel_rfl) (by kernel_rfl) (fun _ _ _ h => h) (by rfl) hI ?_ ?_
    rotate_left
    · ((intro w hSw; (try dsimp only at hSw); go_simp); (try with_reducible rfl))
    try simp only [Act.put, List.setIfInBounds_toArray, List.set_cons_zero, List.set_cons_succ]
    refine rg_one (n := 18) 1 rfl (by kernel_rfl) (by rfl) ?_
    go_simp
    go_at_call 40
    refine (HC.out _ HD.out).mono ?_
    rintro e w3 ⟨rfl, hm3⟩
    have HM3 := Lib.hid (HD.out.trans hm3 (fun _ _ h => h))
    clear hm3
    clear hI
    have hI := (show (fun W : World => W.cell? ⟨w.heap.size, 0, none⟩ = some (.int .i64 x.lsn) ∧ W.cell? ⟨w.heap.size, 1, none⟩ = some (.int .i64 x.page) ∧ W.cell? ⟨w.heap.size, 2, none⟩ = some (.int .i64 x.key) ∧ W.cell? ⟨w.heap.size, 3, none⟩ = some (.bool x.o.is) ∧ W.cell? ⟨w.heap.size, 4, none⟩ = some (.slice x.o.B x.o.m x.o.d) ∧ W.cell? ⟨w.heap.size, 5, none⟩ = some (.bool x.v.is) ∧ W.cell? ⟨w.heap.size, 6, none⟩ = some (.slice x.v.B x.v.m x.v.d)) _ from (HI1.out.keep HM3.out).cells)
    refine ⟨hI, ?_⟩
    try simp only [Act.put, List.setIfInBounds_toArray, List.set_cons_zero, List.set_cons_succ]
    refine rg_take (n := 17) (v := ?_) 2 (some 7) rfl rfl (by kernel_rfl) (by kernel_rfl) (by kernel_rfl) (fun _ _ _ h => h) (by rfl) hI ?_ ?_
    rotate_left
    · ((intro w hSw; (try dsimp only at hSw); go_simp); (try with_reducible rfl))
    try simp only [Act.put, List.setIfInBounds_toArray, List.set_cons_zero, List.set_cons_succ]
    refine rg_take (n := 16) (v := ?_) 3 (some 8) rfl rfl (by kernel_rfl) (by kernel_rfl) (by kernel_rfl) (fun _ _ _ h => h) (by rfl) hI ?_ ?_
    rotate_left
    · ((intro w hSw; (try dsimp only at hSw); go_simp); (try with_reducible rfl))
    try simp only [Act.put, List.setIfInBounds_toArray, List.set_cons_zero, List.set_cons_succ]
    refine rg_take (n := 15) (v := ?_) 4 (some 9) rfl rfl (by kernel_rfl) (by kernel_rfl) (by kernel_rfl) (fun _ _ _ h => h) (by rfl) hI ?_ ?_
    rotate_left
    · ((intro w hSw; (try dsimp only at hSw); go_simp); (try with_reducible rfl))
    try simp only [Act.put, List.setIfInBounds_toArray, List.set_cons_zero, List.set_cons_succ]
    refine rg_take (n := 14) (v := ?_) 5 (some 10) rfl rfl (by kernel_rfl) (by kernel_rfl) (by kernel_rfl) (fun _ _ _ h => h) (by rfl) hI ?_ ?_
    rotate_left
    · ((intro w hSw; (try dsimp only at hSw); go_simp); (try with_reducible rfl))
    try simp only [Act.put, List.setIfInBounds_toArray, List.set_cons_zero, List.set_cons_succ]
    refine rg_take (n := 13) (v := ?_) 6 (some 11) rfl rfl (by kernel_rfl) (by kernel_rfl) (by kernel_rfl) (fun _ _ _ h => h) (by rfl) hI ?_ ?_
    rotate_left
    · ((intro w hSw; (try dsimp only at hSw); go_simp); (try with_reducible rfl))
    try simp only [Act.put, List.setIfInBounds_toArray, List.set_cons_zero, List.set_cons_succ]
    refine rg_skip (n := 12) 7 (some 12) rfl rfl (by kernel_rfl) (by kernel_rfl) (by kernel_rfl) (fun _ _ _ h => h) (by rfl) hI ?_
    try simp only [Act.put, List.setIfInBounds_toArray, List.set_cons_zero, List.set_cons_succ]
    refine rg_skip (n := 11) 8 (some 13) rfl rfl (by kernel_rfl) (by kernel_rfl) (by kernel_rfl) (fun _ _ _ h => h) (by rfl) hI ?_
    try simp only [Act.put, List.setIfInBounds_toArray, List.set_cons_zero, List.set_cons_succ]
    refine rg_skip (n := 10) 9 (some 14) rfl rfl (by kernel_rfl) (by kernel_rfl) (by kernel_rfl) (fun _ _ _ h => h) (by rfl) hI ?_
    try simp only [Act.put, List.setIfInBounds_toArray, List.set_cons_zero, List.set_cons_succ]
    refine rg_skip (n := 9) 10 (some 15) rfl rfl (by kernel_rfl) (by kernel_rfl) (by kernel_rfl) (fun _ _ _ h => h) (by rfl) hI ?_
    try simp only [Act.put, List.setIfInBounds_toArray, List.set_cons_zero, List.set_cons_succ]
    refine rg_skip (n := 8) 11 (some 16) rfl rfl (by kernel_rfl) (by kernel_rfl) (by kernel_rfl) (fun _ _ _ h => h) (by rfl) hI ?_
    try simp only [Act.put, List.setIfInBounds_toArray, List.set_cons_zero, List.set_cons_succ]
    refine rg_skip (n := 7) 12 (some 17) rfl rfl (by kernel_rfl) (by kernel_rfl) (by kernel_rfl) (fun _ _ _ h => h) (by rfl) hI ?_
    try simp only [Act.put, List.setIfInBounds_toArray, List.set_cons_zero, List.set_cons_succ]
    refine rg_skip (n := 6) 13 (some 18) rfl rfl (by kernel_rfl) (by kernel_rfl) (by kernel_rfl) (fun _ _ _ h => h) (by rfl) hI ?_
    try simp only [Act.put, List.setIfInBounds_toArray, List.set_cons_zero, List.set_cons_succ]
    refine rg_skip (n := 5) 14 (some 19) rfl rfl (by kernel_rfl) (by kernel_rfl) (by kernel_rfl) (fun _ _ _ h => h) (by rfl) hI ?_
    try simp only [Act.put, List.setIfInBounds_toArray, List.set_cons_zero, List.set_cons_succ]
    refine rg_skip (n := 4) 15 (some 20) rfl rfl (by kernel_rfl) (by kernel_rfl) (by kernel_rfl) (fun _ _ _ h => h) (by rfl) hI ?_
    try simp only [Act.put, List.setIfInBounds_toArray, List.set_cons_zero, List.set_cons_succ]
    refine rg_skip (n := 3) 16 (some 21) rfl rfl (by kernel_rfl) (by kernel_rfl) (by kernel_rfl) (fun _ _ _ h => h) (by rfl) hI ?_
    try simp only [Act.put, List.setIfInBounds_toArray, List.set_cons_zero, List.set_cons_succ]
    refine rg_take (n := 2) (v := ?_) 17 (some 22) rfl rfl (by kernel_rfl) (by kernel_rfl) (by kernel_rfl) (fun _ _ _ h => h) (by rfl) hI ?_ ?_
    rotate_left
    · ((intro w hSw; (try dsimp only at hSw); go_simp); (try with_reducible rfl))
    try simp only [Act.put, List.setIfInBounds_toArray, List.set_cons_zero, List.set_cons_succ]
    refine rg_take (n := 1) (v := ?_) 18 (some 23) rfl rfl (by kernel_rfl) (by kernel_rfl) (by kernel_rfl) (fun _ _ _ h => h) (by rfl) hI ?_ ?_
    rotate_left
    · ((intro w hSw; (try dsimp only at hSw); go_simp); (try with_reducible rfl))
    try simp only [Act.put, List.setIfInBounds_toArray, List.set_cons_zero, List.set_cons_succ]
    refine rg_take (n := 0) (v := ?_) 19 (some 4) rfl rfl (by kernel_rfl) (by kernel_rfl) (by kernel_rfl) (fun _ _ _ h => h) (by rfl) hI ?_ ?_
    rotate_left
    · ((intro w hSw; (try dsimp only at hSw); go_simp); (try with_reducible rfl))
    try simp only [Act.put, List.setIfInBounds_toArray, List.set_cons_zero, List.set_cons_succ]
    refine wpAnyH_done (by kernel_rfl) ?_ _
    clear hI
    go_wp2
    go_ret
    exact ⟨rfl, HM1.out.trans HM3.out (fun _ _ h => h)⟩
  have hd0 : ((n : Int) == 0) = false := by simpa using h0
  have hd1 : decide (n = 0) = false := decide_eq_false h0
  obtain ⟨y, hy⟩ : ∃ y, l[n - 1]? = some y := ⟨_, List.getElem?_eq_getElem (by rw [hl.len]; omega)⟩
  have hyl : (atC (pc l) (n - 1)).lsn = y.lsn := by rw [atC_of (pc_at hy)]; rfl
  rw [hyl, hd1]
  obtain ⟨b, o, hA, hcs⟩ := hl.cells (by omega)
  have hcy := hcs _ y hy
  have HL : Hid (∀ V, Mod (fun _ => False) w1 V → V.cell? ⟨b, o + (n - 1) * 7, none⟩ = some (.int .i64 y.lsn)) := fun V hV => (hcy.keep ((HM1.out.trans hV (fun _ _ h => h)).block b hcy.lt (fun h => h))).c0
  have e1 : IntKind.i64.wrap ((n - 1 : Nat) : Int) = ((n - 1 : Nat) : Int) := by rw [IntKind.wrap_i64]; omega
  have e2 : (n : Int) - 1 = ((n - 1 : Nat) : Int) := by omega
  have l1 : n - 1 < n := by omega
  rw [hA]
  clear hc h hnl hl hyl hy hcs hcy hA h0
  go_enter Try.func31, Try.ntmps31
  go_wp2_with fail
  have HD : Hid (Mod (fun _ => False) w1 w1.drew) := (Mod.refl _ w1).drew
  refine wp_region_held (S := (fun W : World => (W.cell? ⟨w.heap.size, 0, none⟩ = some (.int .i64 x.lsn) ∧ W.cell? ⟨w.heap.size, 1, none⟩ = some (.int .i64 x.page) ∧ W.cell? ⟨w.heap.size, 2, none⟩ = some (.int .i64 x.key) ∧ W.cell? ⟨w.heap.size, 3, none⟩ = some (.bool x.o.is) ∧ W.cell? ⟨w.heap.size, 4, none⟩ = some (.slice x.o.B x.o.m x.o.d) ∧ W.cell? ⟨w.heap.size, 5, none⟩ = some (.bool x.v.is) ∧ W.cell? ⟨w.heap.size, 6, none⟩ = some (.slice x.v.B x.v.m x.v.d)) ∧ W.cell? ⟨b, o + (n - 1) * 7, none⟩ = some (.int .i64 y.lsn))) (by kernel_rfl) ?_
  have hI := (show (fun W : World => (W.cell? ⟨w.heap.size, 0, none⟩ = some (.int .i64 x.lsn) ∧ W.cell? ⟨w.heap.size, 1, none⟩ = some (.int .i64 x.page) ∧ W.cell? ⟨w.heap.size, 2, none⟩ = some (.int .i64 x.key) ∧ W.cell? ⟨w.heap.size, 3, none⟩ = some (.bool x.o.is) ∧ W.cell? ⟨w.heap.size, 4, none⟩ = some (.slice x.o.B x.o.m x.o.d) ∧ W.cell? ⟨w.heap.size, 5, none⟩ = some (.bool x.v.is) ∧ W.cell? ⟨w.heap.size, 6, none⟩ = some (.slice x.v.B x.v.m x.v.d)) ∧ W.cell? ⟨b, o + (n - 1) * 7, none⟩ = some (.int .i64 y.lsn)) _ from ⟨(HI1.out.keep HD.out).cells, HL.out _ HD.out⟩)
  refine rg_take (n := 19) (v := ?_) 0 (some 5) rfl rfl (by kernel_rfl) (by kernel_rfl) (by kernel_rfl) (fun _ _ _ h => h) (by rfl) hI ?_ ?_
  rotate_left
  · ((intro w hSw; (try dsimp only at hSw); go_simp); (try with_reducible rfl))
  try simp only [Act.put, List.setIfInBounds_toArray, List.set_cons_zero, List.set_cons_succ]
  refine rg_one (n := 18) 1 rfl (by kernel_rfl) (by rfl) ?_
  go_simp
  go_at_call 40
  refine (HC.out _ HD.out).mono ?_
  rintro e w3 ⟨rfl, hm3⟩
  have HM3 := Lib.hid (HD.out.trans hm3 (fun _ _ h => h))
  clear hm3
  clear hI
  have hI := (show (fun W : World => (W.cell? ⟨w.heap.size, 0, none⟩ = some (.int .i64 x.lsn) ∧ W.cell? ⟨w.heap.size, 1, none⟩ = some (.int .i64 x.page) ∧ W.cell? ⟨w.heap.size, 2, none⟩ = some (.int .i64 x.key) ∧ W.cell? ⟨w.heap.size, 3, none⟩ = some (.bool x.o.is) ∧ W.cell? ⟨w.heap.size, 4, none⟩ = some (.slice x.o.B x.o.m x.o.d) ∧ W.cell? ⟨w.heap.size, 5, none⟩ = some (.bool x.v.is) ∧ W.cell? ⟨w.heap.size, 6, none⟩ = some (.slice x.v.B x.v.m x.v.d)) ∧ W.cell? ⟨b, o + (n - 1) * 7, none⟩ = some (.int .i64 y.lsn)) _ from ⟨(HI1.out.keep HM3.out).cells, HL.out _ HM3.out⟩)
  refine ⟨hI, ?_⟩
  try simp only [Act.put, List.setIfInBounds_toArray, List.set_cons_zero, List.set_cons_succ]
  refine rg_take (n := 17) (v := ?_) 2 (some 7) rfl rfl (by kernel_rfl) (by kernel_rfl) (by kernel_rfl) (fun _ _ _ h => h) (by rfl) hI ?_ ?_
  rotate_left
  · ((intro w hSw; (try dsimp only at hSw); go_simp); (try with_reducible rfl))
  try simp only [Act.put, List.setIfInBounds_toArray, List.set_cons_zero, List.set_cons_succ]
  refine rg_take (n := 16) (v := ?_) 3 (some 8) rfl rfl (by kernel_rfl) (by kernel_rfl) (by kernel_rfl) (fun _ _ _ h => h) (by rfl) hI ?_ ?_
  rotate_left
  · ((intro w hSw; (try dsimp only at hSw); go_simp); (try with_reducible rfl))
  try simp only [Act.put, List.setIfInBounds_toArray, List.set_cons_zero, List.set_cons_succ]
  refine rg_take (n := 15) (v := ?_) 4 (some 9) rfl rfl (by kernel_rfl) (by kernel_rfl) (by kernel_rfl) (fun _ _ _ h => h) (by rfl) hI ?_ ?_
  rotate_left
  · ((intro w hSw; (try dsimp only at hSw); go_simp); (try with_reducible rfl))
  try simp only [Act.put, List.setIfInBounds_toArray, List.set_cons_zero, List.set_cons_succ]
  refine rg_take (n := 14) (v := ?_) 5 (some 10) rfl rfl (by kernel_rfl) (by kernel_rfl) (by kernel_rfl) (fun _ _ _ h => h) (by rfl) hI ?_ ?_
  rotate_left
  · ((intro w hSw; (try dsimp only at hSw); go_simp); (try with_reducible rfl))
  try simp only [Act.put, List.setIfInBounds_toArray, List.set_cons_zero, List.set_cons_succ]
  refine rg_take (n := 13) (v := ?_) 6 (some 11) rfl rfl (by kernel_rfl) (by kernel_rfl) (by kernel_rfl) (fun _ _ _ h => h) (by rfl) hI ?_ ?_
  rotate_left
  · ((intro w hSw; (try dsimp only at hSw); go_simp); (try with_reducible rfl))
  try simp only [Act.put, List.setIfInBounds_toArray, List.set_cons_zero, List.set_cons_succ]
  refine rg_take (n := 12) (v := ?_) 7 (some 12) rfl rfl (by kernel_rfl) (by kernel_rfl) (by kernel_rfl) (fun _ _ _ h => h) (by rfl) hI ?_ ?_
  rotate_left
  · ((intro w hSw; (try dsimp only at hSw); go_simp); (try with_reducible rfl))
  try simp only [Act.put, List.setIfInBounds_toArray, List.set_cons_zero, List.set_cons_succ]
  refine rg_take (n := 11) (v := ?_) 8 (some 13) rfl rfl (by kernel_rfl) (by kernel_rfl) (by kernel_rfl) (fun _ _ _ h => h) (by rfl) hI ?_ ?_
  rotate_left
  · ((intro w hSw; (try dsimp only at hSw); go_simp); (try with_reducible rfl))
  try simp only [Act.put, List.setIfInBounds_toArray, List.set_cons_zero, List.set_cons_succ]
  refine rg_take (n := 10) (v := ?_) 9 (some 14) rfl rfl (by kernel_rfl) (by kernel_rfl) (by kernel_rfl) (fun _ _ _ h => h) (by rfl) hI ?_ ?_
  rotate_left
  · ((intro w hSw; (try dsimp only at hSw); go_simp); (try with_reducible rfl))
  try simp only [Act.put, List.setIfInBounds_toArray, List.set_cons_zero, List.set_cons_succ]
  refine rg_take (n := 9) (v := ?_) 10 (some 15) rfl rfl (by kernel_rfl) (by kernel_rfl) (by kernel_rfl) (fun _ _ _ h => h) (by rfl) hI ?_ ?_
  rotate_left
  · ((intro w hSw; (try dsimp only at hSw); go_simp); (try with_reducible rfl))
  try simp only [Act.put, List.setIfInBounds_toArray, List.set_cons_zero, List.set_cons_succ]
  refine rg_take (n := 8) (v := ?_) 11 (some 16) rfl rfl (by kernel_rfl) (by kernel_rfl) (by kernel_rfl) (fun _ _ _ h => h) (by rfl) hI ?_ ?_
  rotate_left
  · ((intro w hSw; (try dsimp only at hSw); go_simp); (try with_reducible rfl))
  try simp only [Act.put, List.setIfInBounds_toArray, List.set_cons_zero, List.set_cons_succ]
  refine rg_take (n := 7) (v := ?_) 12 (some 17) rfl rfl (by kernel_rfl) (by kernel_rfl) (by kernel_rfl) (fun _ _ _ h => h) (by rfl) hI ?_ ?_
  rotate_left
  · ((intro w hSw; (try dsimp only at hSw); go_simp); (try with_reducible rfl))
  try simp only [Act.put, List.setIfInBounds_toArray, List.set_cons_zero, List.set_cons_succ]
  refine rg_take (n := 6) (v := ?_) 13 (some 18) rfl rfl (by kernel_rfl) (by kernel_rfl) (by kernel_rfl) (fun _ _ _ h => h) (by rfl) hI ?_ ?_
  rotate_left
  · ((intro w hSw; (try dsimp only at hSw); go_simp); (try with_reducible rfl))
  try simp only [Act.put, List.setIfInBounds_toArray, List.set_cons_zero, List.set_cons_succ]
  refine rg_take (n := 5) (v := ?_) 14 (some 19) rfl rfl (by kernel_rfl) (by kernel_rfl) (by kernel_rfl) (fun _ _ _ h => h) (by rfl) hI ?_ ?_
  rotate_left
  · ((intro w hSw; (try dsimp only at hSw); go_simp); (try with_reducible rfl))
  try simp only [Act.put, List.setIfInBounds_toArray, List.set_cons_zero, List.set_cons_succ]
  refine rg_take (n := 4) (v := ?_) 15 (some 20) rfl rfl (by kernel_rfl) (by kernel_rfl) (by kernel_rfl) (fun _ _ _ h => h) (by rfl) hI ?_ ?_
  rotate_left
  · ((intro w hSw; (try dsimp only at hSw); go_simp); (try with_reducible rfl))
  try simp only [Act.put, List.setIfInBounds_toArray, List.set_cons_zero, List.set_cons_succ]
  refine rg_take (n := 3) (v := ?_) 16 (some 21) rfl rfl (by kernel_rfl) (by kernel_rfl) (by kernel_rfl) (fun _ _ _ h => h) (by rfl) hI ?_ ?_
  rotate_left
  · ((intro w hSw; (try dsimp only at hSw); go_simp); (try with_reducible rfl))
  try simp only [Act.put, List.setIfInBounds_toArray, List.set_cons_zero, List.set_cons_succ]
  refine rg_take (n := 2) (v := ?_) 17 (some 22) rfl rfl (by kernel_rfl) (by kernel_rfl) (by kernel_rfl) (fun _ _ _ h => h) (by rfl) hI ?_ ?_
  rotate_left
  · ((intro w hSw; (try dsimp only at hSw); go_simp); (try with_reducible rfl))
  try simp only [Act.put, List.setIfInBounds_toArray, List.set_cons_zero, List.set_cons_succ]
  refine rg_take (n := 1) (v := ?_) 18 (some 23) rfl rfl (by kernel_rfl) (by kernel_rfl) (by kernel_rfl) (fun _ _ _ h => h) (by rfl) hI ?_ ?_
  rotate_left
  · ((intro w hSw; (try dsimp only at hSw); go_simp); (try with_reducible rfl))
  try simp only [Act.put, List.setIfInBounds_toArray, List.set_cons_zero, List.set_cons_succ]
  refine rg_take (n := 0) (v := ?_) 19 (some 4) rfl rfl (by kernel_rfl) (by kernel_rfl) (by kernel_rfl) (fun _ _ _ h => h) (by rfl) hI ?_ ?_
  rotate_left
  · ((intro w hSw; (try dsimp only at hSw); go_simp); (try with_reducible rfl))
  try simp only [Act.put, List.setIfInBounds_toArray, List.set_cons_zero, List.set_cons_succ]
  refine wpAnyH_done (by kernel_rfl) ?_ _
  clear hI
  go_wp2
  go_ret
  exact ⟨rfl, HM1.out.trans HM3.out (fun _ _ h => h)⟩

set_option maxRecDepth 100000 in
set_option maxHeartbeats 3200000 in
theorem mayChanges_ok (w : World) (A : Option Addr) (n c : Nat) (l : List ChD) (hl : Cs w A n c l) (hn : n ≤ 1000) :
    Calls Try.prog 38 #[.slice A n c] w fun e w' => e = .returned (.bool (cL (pc l))) ∧ Mod (fun _ => False) w w' := by
  have HX := Lib.hid hl
  have hnl : (pc l).length = n := (pc_len l).trans hl.len
  have Hnl := Lib.hid hnl
  have Hll := Lib.hid hl.len
  have hcap := hl.cap
  clear hl
  by_cases h6 : 6 < n
  · have hd : decide ((6 : Int) < (n : Int)) = true := decide_eq_true (by omega)
    have He : Hid (cL (pc l) = false) := by show _ = _; unfold cL; rw [decide_eq_false (by omega), Bool.false_and]
    rw [He.out]
    clear h6 hnl
    go_enter Try.func38, Try.ntmps38
    go_wp2
    go_ret
    exact ⟨rfl, Mod.refl _ _⟩
  have hd : decide ((6 : Int) < (n : Int)) = false := decide_eq_false (by omega)
  clear hnl
  go_enter Try.func38, Try.ntmps38
  go_wp2
  go_loopw [10] (fun k wr => ∃ i : Nat, k = .int .i64 i ∧ i ≤ n ∧ (∀ j, j < i → okC (pc l) j = true) ∧ Mod (fun _ => False) w wr) (fun k _ => n - (intOf k).toNat)
  case atStart => exact ⟨0, rfl, by omega, fun j hj => by omega, Mod.refl _ _⟩
  case round =>
    obtain ⟨i, rfl, hi, hs, hm⟩ := hrel
    have HS := Lib.hid hs
    have HM := Lib.hid hm
    clear hs hm
    by_cases hlt : i < n
    · obtain ⟨x, hx⟩ : ∃ x, l[i]? = some x := ⟨_, List.getElem?_eq_getElem (by rw [Hll.out]; omega)⟩
      have HXr := Lib.hid (HX.out.keep HM.out)
      have hxa := HXr.out.ats x (List.mem_of_getElem? hx)
      obtain ⟨b, o, hA, hcs⟩ := HXr.out.cells (by omega)
      obtain ⟨s0, s1, s2, s3, s4, s5, s6⟩ := hcs i x hx
      obtain ⟨w2, hw2⟩ : ∃ w2, wr.alloc (.cells #[.int .i64 x.lsn, .int .i64 x.page, .int .i64 x.key, .bool x.o.is, .slice x.o.B x.o.m x.o.d, .bool x.v.is, .slice x.v.B x.v.m x.v.d] 30) = w2 := ⟨_, rfl⟩
      have HI2 : Hid (x.In w2 wr.heap.size) := by rw [← hw2]; exact ChD.In.new wr x
      have hm2 : Mod (fun _ => False) wr w2 := by rw [← hw2]; exact (Mod.refl _ wr).alloc _
      have HM2 := Lib.hid (HM.out.trans hm2 (fun _ _ h => h))
      have HF := Lib.hid (fun V (hV : Mod (fun _ => False) w2 V) => mayFollow_ok V A i c (l.take i) ((HXr.out.keep (hm2.trans hV (fun _ _ h => h))).pre (by omega) c (by omega)) (by omega) x (hxa.keep (hm2.trans hV (fun _ _ h => h))))
      have hok : folB (pc (l.take i)) x.p = okC (pc l) i := by unfold okC; rw [pc_take, atC_of (pc_at hx)]
      rw [hok] at HF
      rw [hA] at HF ⊢
      have l1 : i ≤ c := by omega
      generalize hg : wr.heap.size = g at *
      clear hcs hA hok hxa hm2 hx
      cases hb : okC (pc l) i with
      | false =>
        rw [hb] at HF
        have Hno : Hid (cL (pc l) = false) := cL_no (by rw [Hnl.out]; exact hlt) hb
        clear hb
        go_wp2_with fail
        have HD : Hid (Mod (fun _ => False) w2 w2.drew) := (Mod.refl _ w2).drew
        refine wp_region_held (S := (fun W : World => W.cell? ⟨g, 0, none⟩ = some (.int .i64 x.lsn) ∧ W.cell? ⟨g, 1, none⟩ = some (.int .i64 x.page) ∧ W.cell? ⟨g, 2, none⟩ = some (.int .i64 x.key) ∧ W.cell? ⟨g, 3, none⟩ = some (.bool x.o.is) ∧ W.cell? ⟨g, 4, none⟩ = some (.slice x.o.B x.o.m x.o.d) ∧ W.cell? ⟨g, 5, none⟩ = some (.bool x.v.is) ∧ W.cell? ⟨g, 6, none⟩ = some (.slice x.v.B x.v.m x.v.d))) (by kernel_rfl) ?_
        have hI := (show (fun W : World => W.cell? ⟨g, 0, none⟩ = some (.int .i64 x.lsn) ∧ W.cell? ⟨g, 1, none⟩ = some (.int .i64 x.page) ∧ W.cell? ⟨g, 2, none⟩ = some (.int .i64 x.key) ∧ W.cell? ⟨g, 3, none⟩ = some (.bool x.o.is) ∧ W.cell? ⟨g, 4, none⟩ = some (.slice x.o.B x.o.m x.o.d) ∧ W.cell? ⟨g, 5, none⟩ = some (.bool x.v.is) ∧ W.cell? ⟨g, 6, none⟩ = some (.slice x.v.B x.v.m x.v.d)) _ from (HI2.out.keep HD.out).cells)
        refine rg_take (n := 5) (v := ?_) 0 (some 15) rfl rfl (by kernel_rfl) (by kernel_rfl) (by kernel_rfl) (fun _ _ _ h => h) (by rfl) hI ?_ ?_
        rotate_left
        · ((intro w hSw; (try dsimp only at hSw); go_simp); (try with_reducible rfl))
        try simp only [Act.put, List.setIfInBounds_toArray, List.set_cons_zero, List.set_cons_succ]
        refine rg_take (n := 4) (v := ?_) 1 (some 16) rfl rfl (by kernel_rfl) (by kernel_rfl) (by kernel_rfl) (fun _ _ _ h => h) (by rfl) hI ?_ ?_
        rotate_left
        · ((intro w hSw; (try dsimp only at hSw); go_simp); (try with_reducible rfl))
        try simp only [Act.put, List.setIfInBounds_toArray, List.set_cons_zero, List.set_cons_succ]
        refine rg_take (n := 3) (v := ?_) 2 (some 17) rfl rfl (by kernel_rfl) (by kernel_rfl) (by kernel_rfl) (fun _ _ _ h => h) (by rfl) hI ?_ ?_
        rotate_left
        · ((intro w hSw; (try dsimp only at hSw); go_simp); (try with_reducible rfl))
        try simp only [Act.put, List.setIfInBounds_toArray, List.set_cons_zero, List.set_cons_succ]
        refine rg_take (n := 2) (v := ?_) 3 (some 18) rfl rfl (by kernel_rfl) (by kernel_rfl) (by kernel_rfl) (fun _ _ _ h => h) (by rfl) hI ?_ ?_
        rotate_left
        · ((intro w hSw; (try dsimp only at hSw); go_simp); (try with_reducible rfl))
        try simp only [Act.put, List.setIfInBounds_toArray, List.set_cons_zero, List.set_cons_succ]
        refine rg_one (n := 1) 4 rfl (by kernel_rfl) (by rfl) ?_
        go_simp
        go_at_call 31
        refine (HF.out _ HD.out).mono ?_
        rintro e w3 ⟨rfl, hm3⟩
        have HM3 := Lib.hid (HM2.out.trans (HD.out.trans hm3 (fun _ _ h => h)) (fun _ _ h => h))
        have HI3 := Lib.hid ((HI2.out.keep HD.out).keep hm3)
        clear hm3
        clear hI
        have hI := (show (fun W : World => W.cell? ⟨g, 0, none⟩ = some (.int .i64 x.lsn) ∧ W.cell? ⟨g, 1, none⟩ = some (.int .i64 x.page) ∧ W.cell? ⟨g, 2, none⟩ = some (.int .i64 x.key) ∧ W.cell? ⟨g, 3, none⟩ = some (.bool x.o.is) ∧ W.cell? ⟨g, 4, none⟩ = some (.slice x.o.B x.o.m x.o.d) ∧ W.cell? ⟨g, 5, none⟩ = some (.bool x.v.is) ∧ W.cell? ⟨g, 6, none⟩ = some (.slice x.v.B x.v.m x.v.d)) _ from HI3.out.cells)
        refine ⟨hI, ?_⟩
        try simp only [Act.put, List.setIfInBounds_toArray, List.set_cons_zero, List.set_cons_succ]
        refine rg_take (n := 0) (v := ?_) 5 (some 20) rfl rfl (by kernel_rfl) (by kernel_rfl) (by kernel_rfl) (fun _ _ _ h => h) (by rfl) hI ?_ ?_
        rotate_left
        · ((intro w hSw; (try dsimp only at hSw); go_simp); (try with_reducible rfl))
        try simp only [Act.put, List.setIfInBounds_toArray, List.set_cons_zero, List.set_cons_succ]
        refine wpAnyH_done (by kernel_rfl) ?_ _
        clear hI
        go_wp2
        go_ret
        exact ⟨by rw [Hno.out]; rfl, HM3.out⟩
      | true =>
        rw [hb] at HF
        have HS2 : Hid (∀ j, j < i + 1 → okC (pc l) j = true) := fun j hj => by
          rcases Nat.lt_or_ge j i with h | h
          · exact HS.out j h
          · obtain rfl : j = i := by omega
            exact hb
        clear hb
        go_wp2_with fail
        have HD : Hid (Mod (fun _ => False) w2 w2.drew) := (Mod.refl _ w2).drew
        refine wp_region_held (S := (fun W : World => W.cell? ⟨g, 0, none⟩ = some (.int .i64 x.lsn) ∧ W.cell? ⟨g, 1, none⟩ = some (.int .i64 x.page) ∧ W.cell? ⟨g, 2, none⟩ = some (.int .i64 x.key) ∧ W.cell? ⟨g, 3, none⟩ = some (.bool x.o.is) ∧ W.cell? ⟨g, 4, none⟩ = some (.slice x.o.B x.o.m x.o.d) ∧ W.cell? ⟨g, 5, none⟩ = some (.bool x.v.is) ∧ W.cell? ⟨g, 6, none⟩ = some (.slice x.v.B x.v.m x.v.d))) (by kernel_rfl) ?_
        have hI := (show (fun W : World => W.cell? ⟨g, 0, none⟩ = some (.int .i64 x.lsn) ∧ W.cell? ⟨g, 1, none⟩ = some (.int .i64 x.page) ∧ W.cell? ⟨g, 2, none⟩ = some (.int .i64 x.key) ∧ W.cell? ⟨g, 3, none⟩ = some (.bool x.o.is) ∧ W.cell? ⟨g, 4, none⟩ = some (.slice x.o.B x.o.m x.o.d) ∧ W.cell? ⟨g, 5, none⟩ = some (.bool x.v.is) ∧ W.cell? ⟨g, 6, none⟩ = some (.slice x.v.B x.v.m x.v.d)) _ from (HI2.out.keep HD.out).cells)
        refine rg_take (n := 5) (v := ?_) 0 (some 15) rfl rfl (by kernel_rfl) (by kernel_rfl) (by kernel_rfl) (fun _ _ _ h => h) (by rfl) hI ?_ ?_
        rotate_left
        · ((intro w hSw; (try dsimp only at hSw); go_simp); (try with_reducible rfl))
        try simp only [Act.put, List.setIfInBounds_toArray, List.set_cons_zero, List.set_cons_succ]
        refine rg_take (n := 4) (v := ?_) 1 (some 16) rfl rfl (by kernel_rfl) (by kernel_rfl) (by kernel_rfl) (fun _ _ _ h => h) (by rfl) hI ?_ ?_
        rotate_left
        · ((intro w hSw; (try dsimp only at hSw); go_simp); (try with_reducible rfl))
        try simp only [Act.put, List.setIfInBounds_toArray, List.set_cons_zero, List.set_cons_succ]
        refine rg_take (n := 3) (v := ?_) 2 (some 17) rfl rfl (by kernel_rfl) (by kernel_rfl) (by kernel_rfl) (fun _ _ _ h => h) (by rfl) hI ?_ ?_
        rotate_left
        · ((intro w hSw; (try dsimp only at hSw); go_simp); (try with_reducible rfl))
        try simp only [Act.put, List.setIfInBounds_toArray, List.set_cons_zero, List.set_cons_succ]
        refine rg_take (n := 2) (v := ?_) 3 (some 18) rfl rfl (by kernel_rfl) (by kernel_rfl) (by kernel_rfl) (fun _ _ _ h => h) (by rfl) hI ?_ ?_
        rotate_left
        · ((intro w hSw; (try dsimp only at hSw); go_simp); (try with_reducible rfl))
        try simp only [Act.put, List.setIfInBounds_toArray, List.set_cons_zero, List.set_cons_succ]
        refine rg_one (n := 1) 4 rfl (by kernel_rfl) (by rfl) ?_
        go_simp
        go_at_call 31
        refine (HF.out _ HD.out).mono ?_
        rintro e w3 ⟨rfl, hm3⟩
        have HM3 := Lib.hid (HM2.out.trans (HD.out.trans hm3 (fun _ _ h => h)) (fun _ _ h => h))
        have HI3 := Lib.hid ((HI2.out.keep HD.out).keep hm3)
        clear hm3
        clear hI
        have hI := (show (fun W : World => W.cell? ⟨g, 0, none⟩ = some (.int .i64 x.lsn) ∧ W.cell? ⟨g, 1, none⟩ = some (.int .i64 x.page) ∧ W.cell? ⟨g, 2, none⟩ = some (.int .i64 x.key) ∧ W.cell? ⟨g, 3, none⟩ = some (.bool x.o.is) ∧ W.cell? ⟨g, 4, none⟩ = some (.slice x.o.B x.o.m x.o.d) ∧ W.cell? ⟨g, 5, none⟩ = some (.bool x.v.is) ∧ W.cell? ⟨g, 6, none⟩ = some (.slice x.v.B x.v.m x.v.d)) _ from HI3.out.cells)
        refine ⟨hI, ?_⟩
        try simp only [Act.put, List.setIfInBounds_toArray, List.set_cons_zero, List.set_cons_succ]
        refine rg_take (n := 0) (v := ?_) 5 (some 20) rfl rfl (by kernel_rfl) (by kernel_rfl) (by kernel_rfl) (fun _ _ _ h => h) (by rfl) hI ?_ ?_
        rotate_left
        · ((intro w hSw; (try dsimp only at hSw); go_simp); (try with_reducible rfl))
        try simp only [Act.put, List.setIfInBounds_toArray, List.set_cons_zero, List.set_cons_succ]
        refine wpAnyH_done (by kernel_rfl) ?_ _
        clear hI
        go_wp2
        go_roundw
        case rel => exact ⟨i + 1, by go_num, by omega, HS2.out, HM3.out⟩
        case measure => simp [intOf]; omega
    · obtain rfl : i = n := by omega
      have Hyes : Hid (cL (pc l) = true) := cL_iff.2 ⟨by rw [Hnl.out]; omega, fun j hj => HS.out j (by rw [← Hnl.out]; exact hj)⟩
      go_wp2
      go_ret
      exact ⟨by rw [Hyes.out]; rfl, HM.out⟩
set_option maxRecDepth 100000 in
set_option maxHeartbeats 3200000 in
theorem may_ok (w : World) (x : TxD) (h : x.At w) (hn : x.n ≤ 1000) (hm : x.m ≤ 1000) :
    Calls Try.prog 22 #[.agg #[.int .i64 x.id, .int .i64 x.st, .int .i64 x.f, .int .i64 x.l, .slice x.A x.n x.c, .slice x.B x.m x.d]] w fun e w' => e = .returned (.bool (mayT x.p)) ∧ Mod (fun _ => False) w w' := by
  obtain ⟨w1, hw1⟩ : ∃ w1, w.alloc (.cells #[.int .i64 x.id, .int .i64 x.st, .int .i64 x.f, .int .i64 x.l, .slice x.A x.n x.c, .slice x.B x.m x.d] 25) = w1 := ⟨_, rfl⟩
  have hin : x.In w1 w.heap.size := by rw [← hw1]; exact TxD.In.new w x
  have HM1 : Hid (Mod (fun _ => False) w w1) := by rw [← hw1]; exact (Mod.refl _ w).alloc _
  obtain ⟨c0, c1, c2, c3, c4, c5⟩ := hin.cells
  have HI1 := Lib.hid hin
  clear hin
  have W1 := Lib.hid (fun V => within_ok V x.id 1 255)
  have W2 := Lib.hid (fun V => within_ok V x.st 1 3)
  have W3 := Lib.hid (fun V => within_ok V x.f 0 4294967295)
  have W4 := Lib.hid (fun V => within_ok V x.l 0 4294967295)
  have V1 := Lib.hid (fun V (hV : Mod (fun _ => False) w V) => mayChanges_ok V x.A x.n x.c x.L (h.keep hV).L hn)
  have V2 := Lib.hid (fun V (hV : Mod (fun _ => False) w V) => maySaves_ok V x.B x.m x.d x.S (h.keep hV).S x.n hm)
  have hE : mayT x.p = (inB x.id 1 255 && inB x.st 1 3 && inB x.f 0 4294967295 && inB x.l 0 4294967295 && cL (pc x.L) && sL x.S x.n) := by unfold mayT; rw [h.nL]; rfl
  rw [hE]
  generalize inB x.id 1 255 = b1 at *
  generalize inB x.st 1 3 = b2 at *
  generalize inB x.f 0 4294967295 = b3 at *
  generalize inB x.l 0 4294967295 = b4 at *
  generalize cL (pc x.L) = b5 at *
  generalize sL x.S x.n = b6 at *
  clear hE h
  cases b1 with
  | false =>
    go_enter Try.func22, Try.ntmps22
    go_wp2_with fail
    refine (W1.out _).mono ?_
    rintro e w' ⟨rfl, hw⟩
    subst w'
    go_wp2
    go_ret
    exact ⟨rfl, HM1.out⟩
  | true =>
  cases b2 with
  | false =>
    go_enter Try.func22, Try.ntmps22
    go_wp2_with fail
    refine (W1.out _).mono ?_
    rintro e w' ⟨rfl, hw⟩
    subst w'
    go_wp2_with fail
    refine (W2.out _).mono ?_
    rintro e w' ⟨rfl, hw⟩
    subst w'
    go_wp2
    go_ret
    exact ⟨rfl, HM1.out⟩
  | true =>
  cases b3 with
  | false =>
    go_enter Try.func22, Try.ntmps22
    go_wp2_with fail
    refine (W1.out _).mono ?_
    rintro e w' ⟨rfl, hw⟩
    subst w'
    go_wp2_with fail
    refine (W2.out _).mono ?_
    rintro e w' ⟨rfl, hw⟩
    subst w'
    go_wp2_with fail
    refine (W3.out _).mono ?_
    rintro e w' ⟨rfl, hw⟩
    subst w'
    go_wp2
    go_ret
    exact ⟨rfl, HM1.out⟩
  | true =>
  cases b4 with
  | false =>
    go_enter Try.func22, Try.ntmps22
    go_wp2_with fail
    refine (W1.out _).mono ?_
    rintro e w' ⟨rfl, hw⟩
    subst w'
    go_wp2_with fail
    refine (W2.out _).mono ?_
    rintro e w' ⟨rfl, hw⟩
    subst w'
    go_wp2_with fail
    refine (W3.out _).mono ?_
    rintro e w' ⟨rfl, hw⟩
    subst w'
    go_wp2_with fail
    refine (W4.out _).mono ?_
    rintro e w' ⟨rfl, hw⟩
    subst w'
    go_wp2
    go_ret
    exact ⟨rfl, HM1.out⟩
  | true =>
  cases b5 with
  | false =>
    go_enter Try.func22, Try.ntmps22
    go_wp2_with fail
    refine (W1.out _).mono ?_
    rintro e w' ⟨rfl, hw⟩
    subst w'
    go_wp2_with fail
    refine (W2.out _).mono ?_
    rintro e w' ⟨rfl, hw⟩
    subst w'
    go_wp2_with fail
    refine (W3.out _).mono ?_
    rintro e w' ⟨rfl, hw⟩
    subst w'
    go_wp2_with fail
    refine (W4.out _).mono ?_
    rintro e w' ⟨rfl, hw⟩
    subst w'
    go_wp2_with fail
    refine (V1.out _ HM1.out).mono ?_
    rintro e w2 ⟨rfl, hm⟩
    have HI2 := Lib.hid (HI1.out.keep hm)
    have HM2 := Lib.hid (HM1.out.trans hm (fun _ _ h => h))
    clear hm c0 c1 c2 c3 c4 c5
    obtain ⟨c0, c1, c2, c3, c4, c5⟩ := HI2.out.cells
    go_wp2
    go_ret
    exact ⟨rfl, HM2.out⟩
  | true =>
  cases b6 with
  | false =>
    go_enter Try.func22, Try.ntmps22
    go_wp2_with fail
    refine (W1.out _).mono ?_
    rintro e w' ⟨rfl, hw⟩
    subst w'
    go_wp2_with fail
    refine (W2.out _).mono ?_
    rintro e w' ⟨rfl, hw⟩
    subst w'
    go_wp2_with fail
    refine (W3.out _).mono ?_
    rintro e w' ⟨rfl, hw⟩
    subst w'
    go_wp2_with fail
    refine (W4.out _).mono ?_
    rintro e w' ⟨rfl, hw⟩
    subst w'
    go_wp2_with fail
    refine (V1.out _ HM1.out).mono ?_
    rintro e w2 ⟨rfl, hm⟩
    have HI2 := Lib.hid (HI1.out.keep hm)
    have HM2 := Lib.hid (HM1.out.trans hm (fun _ _ h => h))
    clear hm c0 c1 c2 c3 c4 c5
    obtain ⟨c0, c1, c2, c3, c4, c5⟩ := HI2.out.cells
    go_wp2_with fail
    refine (V2.out _ HM2.out).mono ?_
    rintro e w3 ⟨rfl, hm⟩
    have HI3 := Lib.hid (HI2.out.keep hm)
    have HM3 := Lib.hid (HM2.out.trans hm (fun _ _ h => h))
    clear hm c0 c1 c2 c3 c4 c5
    obtain ⟨c0, c1, c2, c3, c4, c5⟩ := HI3.out.cells
    go_wp2
    go_ret
    exact ⟨rfl, HM3.out⟩
  | true =>
  go_enter Try.func22, Try.ntmps22
  go_wp2_with fail
  refine (W1.out _).mono ?_
  rintro e w' ⟨rfl, hw⟩
  subst w'
  go_wp2_with fail
  refine (W2.out _).mono ?_
  rintro e w' ⟨rfl, hw⟩
  subst w'
  go_wp2_with fail
  refine (W3.out _).mono ?_
  rintro e w' ⟨rfl, hw⟩
  subst w'
  go_wp2_with fail
  refine (W4.out _).mono ?_
  rintro e w' ⟨rfl, hw⟩
  subst w'
  go_wp2_with fail
  refine (V1.out _ HM1.out).mono ?_
  rintro e w2 ⟨rfl, hm⟩
  have HI2 := Lib.hid (HI1.out.keep hm)
  have HM2 := Lib.hid (HM1.out.trans hm (fun _ _ h => h))
  clear hm c0 c1 c2 c3 c4 c5
  obtain ⟨c0, c1, c2, c3, c4, c5⟩ := HI2.out.cells
  go_wp2_with fail
  refine (V2.out _ HM2.out).mono ?_
  rintro e w3 ⟨rfl, hm⟩
  have HI3 := Lib.hid (HI2.out.keep hm)
  have HM3 := Lib.hid (HM2.out.trans hm (fun _ _ h => h))
  clear hm c0 c1 c2 c3 c4 c5
  obtain ⟨c0, c1, c2, c3, c4, c5⟩ := HI3.out.cells
  go_wp2
  go_ret
  exact ⟨rfl, HM3.out⟩
end Go.Proofs.Ytidcmolkolcliaa
