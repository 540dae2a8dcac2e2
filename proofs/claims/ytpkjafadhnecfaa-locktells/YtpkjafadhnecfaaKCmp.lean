/-
  Package lock: how Safe compares two locks; cmp.Or.
-/
import Derived.Test.YtpkjafadhnecfaaKShelf
import Derived.Test.YtpkjafadhnecfaaTMem
import Derived.Test.YtpkjafadhnecfaaKMath3
import Derived.Deep.RegionHeld3
import Derived.Test.YtpkjafadhnecfaaKOrd
import Derived.BigQuiet
namespace Go.Proofs.Ytpkjafadhnecfaa
open Go Go.RowKit Go.Sort

def orI (p q : Int) : Int := if p = 0 then q else p
/-- By resource, and then by transaction. -/
def cfH (x y : Tr) : Int := orI (Lib.compareInt x.b y.b) (Lib.compareInt x.a y.a)
theorem cmpI (x y : Int) : (x < y ∧ Lib.compareInt x y = -1) ∨ (x = y ∧ Lib.compareInt x y = 0) ∨ (y < x ∧ Lib.compareInt x y = 1) := by
  unfold Lib.compareInt
  by_cases h1 : x < y
  · exact .inl ⟨h1, by simp [h1]⟩
  · by_cases h2 : y < x
    · exact .inr (.inr ⟨h2, by simp [h1, h2]⟩)
    · exact .inr (.inl ⟨by omega, by simp [h1, h2]⟩)
theorem ltH (x y : Tr) : ltOf cfH x y = decide (x.b < y.b ∨ (x.b = y.b ∧ x.a < y.a)) := by
  unfold ltOf cfH orI
  rw [decide_eq_decide]
  rcases cmpI x.b y.b with ⟨h, e⟩ | ⟨h, e⟩ | ⟨h, e⟩ <;> rw [e] <;> rcases cmpI x.a y.a with ⟨h2, e2⟩ | ⟨h2, e2⟩ | ⟨h2, e2⟩ <;> rw [e2] <;> simp <;> omega
theorem swoH : SWO (ltOf cfH) where
  irrefl x := by rw [ltH]; simp
  trans x y z h1 h2 := by rw [ltH] at *; simp at *; omega
  ntrans x y z h1 h2 := by rw [ltH] at *; simp at *; omega

set_option maxRecDepth 100000 in
theorem or_ok (w : World) (b : Nat) (p q : Int) (h : w.heap[b]? = some (.cells #[.int .i64 p, .int .i64 q] 3 (0, 0))) :
    Calls Try.prog 39 #[.slice (some ⟨b, 0, none⟩) 2 2] w fun e w' => e = .returned (.int .i64 (orI p q)) ∧ w' = w := by
  have c0 : w.cell? ⟨b, 0, none⟩ = some (.int .i64 p) := by rw [cell_of_row _ _ _ _ _ _ h]; rfl
  have c1 : w.cell? ⟨b, 1, none⟩ = some (.int .i64 q) := by rw [cell_of_row _ _ _ _ _ _ h]; rfl
  clear h
  unfold orI
  by_cases h0 : p = 0
  · have hd : (p != 0) = false := by simpa using h0
    rw [if_pos h0]
    clear h0
    by_cases h1 : q = 0
    · have hd1 : (q != 0) = false := by simpa using h1
      have Hq := Lib.hid h1
      clear h1
      go_enter Try.func39, Try.ntmps39
      go_wp2
      refine wp_loop_rounds 4 ?_
      rw [rounds_succ]
      go_wp2
      rw [rounds_succ]
      go_wp2
      rw [rounds_succ]
      go_wp2
      go_ret
      exact ⟨by rw [Hq.out]; rfl, rfl⟩
    · have hd1 : (q != 0) = true := by simpa using h1
      clear h1
      go_enter Try.func39, Try.ntmps39
      go_wp2
      refine wp_loop_rounds 4 ?_
      rw [rounds_succ]
      go_wp2
      rw [rounds_succ]
      go_wp2
      go_ret
      exact ⟨rfl, rfl⟩
  · have hd : (p != 0) = true := by simpa using h0
    rw [if_neg h0]
    clear h0
    go_enter Try.func39, Try.ntmps39
    go_wp2
    refine wp_loop_rounds 4 ?_
    rw [rounds_succ]
    go_wp2
    go_ret
    exact ⟨rfl, rfl⟩

theorem three_grow (w : World) (a b c : Obj) : (((w.alloc a).alloc b).alloc c).drew = grow (w.drewN 1) (#[a] ++ (#[b] ++ #[c])) := by
  rw [alloc_eq_grow, alloc_eq_grow, alloc_eq_grow, grow_grow, grow_grow]
  simp
  rfl

theorem compare_ok (w : World) (x y : Int) : Calls Try.prog 40 #[.int .i64 x, .int .i64 y] w fun e w' => e = .returned (.int .i64 (Lib.compareInt x y)) ∧ w' = w := AnyG.cmp_Compare_int cmpInt x y w

set_option maxRecDepth 100000 in
set_option maxHeartbeats 3200000 in
theorem safe1_ok (w : World) (x y : Tr) :
    Calls Try.prog 38 #[.agg #[.int .i64 x.a, .int .i64 x.b, .int .i64 x.c], .agg #[.int .i64 y.a, .int .i64 y.b, .int .i64 y.c]] w fun e w' => e = .returned (.int .i64 (cfH x y)) ∧ ∃ q os, w' = grow (w.drewN q) os := by
  obtain ⟨w1, hw1⟩ : ∃ w1, (w.alloc (.cells #[.int .i64 x.a, .int .i64 x.b, .int .i64 x.c] 37)).alloc (.cells #[.int .i64 y.a, .int .i64 y.b, .int .i64 y.c] 37) = w1 := ⟨_, rfl⟩
  have hx1 : RBx w1 w.heap.size 37 x := by rw [← hw1]; exact (RBx.new w _ x).keep ((Mod.refl _ _).alloc _)
  have hy1 : RBx w1 (w.heap.size + 1) 37 y := by
    rw [← hw1]
    have := RBx.new (w.alloc (.cells #[.int .i64 x.a, .int .i64 x.b, .int .i64 x.c] 37)) 37 y
    rw [World.size_alloc] at this
    exact this
  have Hx := Lib.hid hx1
  have Hy := Lib.hid hy1
  have Hw1 := Lib.hid hw1
  obtain ⟨x0, x1, x2⟩ := hx1.cells
  obtain ⟨y0, y1, y2⟩ := hy1.cells
  have C1 := Lib.hid (fun W => compare_ok W x.b y.b)
  have C2 := Lib.hid (fun W => compare_ok W x.a y.a)
  have Hv : Hid (cfH x y = orI (Lib.compareInt x.b y.b) (Lib.compareInt x.a y.a)) := rfl
  rw [Hv.out]
  generalize Lib.compareInt x.b y.b = p at *
  generalize Lib.compareInt x.a y.a = q at *
  have CO : Hid (∀ W b, W.heap[b]? = some (.cells #[.int .i64 p, .int .i64 q] 3 (0, 0)) → Calls Try.prog 39 #[.slice (some ⟨b, 0, none⟩) 2 2] W fun e w' => e = .returned (.int .i64 (orI p q)) ∧ w' = W) := fun W b h => or_ok W b p q h
  generalize orI p q = r at *
  clear hx1 hy1
  go_enter Try.func38, Try.ntmps38
  go_wp2_with fail
  clear hw1
  refine wp_region_held (S := (fun w' => w'.cell? ⟨w.heap.size, 0, none⟩ = some (.int .i64 x.a) ∧ w'.cell? ⟨w.heap.size, 1, none⟩ = some (.int .i64 x.b) ∧ w'.cell? ⟨w.heap.size + 1, 0, none⟩ = some (.int .i64 y.a) ∧ w'.cell? ⟨w.heap.size + 1, 1, none⟩ = some (.int .i64 y.b))) (by kernel_rfl) ?_
  have hI : _ ∧ _ ∧ _ ∧ _ := ⟨x0, x1, y0, y1⟩
  refine rg_take (n := 12) (v := ?_) 0 (some 5) rfl rfl (by kernel_rfl) (by kernel_rfl) (by kernel_rfl) (fun _ _ _ h => h) (by rfl) hI ?_ ?_
  rotate_left
  · ((intro w hSw; (try dsimp only at hSw); go_simp); (try with_reducible rfl))
  try simp only [Act.put, List.setIfInBounds_toArray, List.set_cons_zero, List.set_cons_succ]
  refine rg_take (n := 11) (v := ?_) 1 (some 6) rfl rfl (by kernel_rfl) (by kernel_rfl) (by kernel_rfl) (fun _ _ _ h => h) (by rfl) hI ?_ ?_
  rotate_left
  · ((intro w hSw; (try dsimp only at hSw); go_simp); (try with_reducible rfl))
  try simp only [Act.put, List.setIfInBounds_toArray, List.set_cons_zero, List.set_cons_succ]
  refine rg_take (n := 10) (v := ?_) 2 (some 7) rfl rfl (by kernel_rfl) (by kernel_rfl) (by kernel_rfl) (fun _ _ _ h => h) (by rfl) hI ?_ ?_
  rotate_left
  · ((intro w hSw; (try dsimp only at hSw); go_simp); (try with_reducible rfl))
  try simp only [Act.put, List.setIfInBounds_toArray, List.set_cons_zero, List.set_cons_succ]
  refine rg_take (n := 9) (v := ?_) 3 (some 8) rfl rfl (by kernel_rfl) (by kernel_rfl) (by kernel_rfl) (fun _ _ _ h => h) (by rfl) hI ?_ ?_
  rotate_left
  · ((intro w hSw; (try dsimp only at hSw); go_simp); (try with_reducible rfl))
  try simp only [Act.put, List.setIfInBounds_toArray, List.set_cons_zero, List.set_cons_succ]
  refine rg_take (n := 8) (v := ?_) 5 (some 10) rfl rfl (by kernel_rfl) (by kernel_rfl) (by kernel_rfl) (fun _ _ _ h => h) (by rfl) hI ?_ ?_
  rotate_left
  · ((intro w hSw; (try dsimp only at hSw); go_simp); (try with_reducible rfl))
  try simp only [Act.put, List.setIfInBounds_toArray, List.set_cons_zero, List.set_cons_succ]
  refine rg_take (n := 7) (v := ?_) 6 (some 11) rfl rfl (by kernel_rfl) (by kernel_rfl) (by kernel_rfl) (fun _ _ _ h => h) (by rfl) hI ?_ ?_
  rotate_left
  · ((intro w hSw; (try dsimp only at hSw); go_simp); (try with_reducible rfl))
  try simp only [Act.put, List.setIfInBounds_toArray, List.set_cons_zero, List.set_cons_succ]
  refine rg_take (n := 6) (v := ?_) 7 (some 12) rfl rfl (by kernel_rfl) (by kernel_rfl) (by kernel_rfl) (fun _ _ _ h => h) (by rfl) hI ?_ ?_
  rotate_left
  · ((intro w hSw; (try dsimp only at hSw); go_simp); (try with_reducible rfl))
  try simp only [Act.put, List.setIfInBounds_toArray, List.set_cons_zero, List.set_cons_succ]
  refine rg_take (n := 5) (v := ?_) 8 (some 13) rfl rfl (by kernel_rfl) (by kernel_rfl) (by kernel_rfl) (fun _ _ _ h => h) (by rfl) hI ?_ ?_
  rotate_left
  · ((intro w hSw; (try dsimp only at hSw); go_simp); (try with_reducible rfl))
  try simp only [Act.put, List.setIfInBounds_toArray, List.set_cons_zero, List.set_cons_succ]
  refine rg_one (n := 4) 4 rfl (by kernel_rfl) (by rfl) ?_
  go_simp
  go_at_call 40
  refine (C1.out _).mono ?_
  rintro e w' ⟨rfl, rfl⟩
  refine ⟨hI, ?_⟩
  try simp only [Act.put, List.setIfInBounds_toArray, List.set_cons_zero, List.set_cons_succ]
  refine rg_one (n := 3) 9 rfl (by kernel_rfl) (by rfl) ?_
  go_simp
  go_at_call 40
  refine (C2.out _).mono ?_
  rintro e w' ⟨rfl, rfl⟩
  refine ⟨hI, ?_⟩
  try simp only [Act.put, List.setIfInBounds_toArray, List.set_cons_zero, List.set_cons_succ]
  refine rg_one (n := 2) 10 rfl (by kernel_rfl) (by rfl) ?_
  go_simp
  have hm5 : Mod (fun _ => False) w1 (w1.alloc (.cells #[.int .i64 p, .int .i64 q] 3)) := (Mod.refl _ w1).alloc _
  have hb5 : (w1.alloc (.cells #[.int .i64 p, .int .i64 q] 3)).drew.heap[w1.heap.size]? = some (.cells #[.int .i64 p, .int .i64 q] 3 (0, 0)) := heap_alloc_new w1 _
  have hx5 := (Hx.out.keep hm5).cells
  have hy5 := (Hy.out.keep hm5).cells
  have hI5 : _ ∧ _ ∧ _ ∧ _ := ⟨hx5.1, hx5.2.1, hy5.1, hy5.2.1⟩
  refine ⟨hI5, ?_⟩
  try simp only [Act.put, List.setIfInBounds_toArray, List.set_cons_zero, List.set_cons_succ]
  clear hI
  have hI := hI5
  refine rg_one (n := 1) 11 rfl (by kernel_rfl) (by rfl) ?_
  go_simp
  go_at_call 39
  refine (CO.out _ w1.heap.size hb5).mono ?_
  rintro e w' ⟨rfl, rfl⟩
  refine ⟨hI, ?_⟩
  try simp only [Act.put, List.setIfInBounds_toArray, List.set_cons_zero, List.set_cons_succ]
  refine rg_take (n := 0) (v := ?_) 12 (some 4) rfl rfl (by kernel_rfl) (by kernel_rfl) (by kernel_rfl) (fun _ _ _ h => h) (by rfl) hI ?_ ?_
  rotate_left
  · ((intro w hSw; (try dsimp only at hSw); go_simp); (try with_reducible rfl))
  try simp only [Act.put, List.setIfInBounds_toArray, List.set_cons_zero, List.set_cons_succ]
  refine wpAnyH_done (by kernel_rfl) ?_ _
  go_wp2
  go_ret
  have hf := three_grow w (.cells #[.int .i64 x.a, .int .i64 x.b, .int .i64 x.c] 37) (.cells #[.int .i64 y.a, .int .i64 y.b, .int .i64 y.c] 37) (.cells #[.int .i64 p, .int .i64 q] 3)
  rw [Hw1.out] at hf
  exact ⟨rfl, 1, _, hf⟩
end Go.Proofs.Ytpkjafadhnecfaa
