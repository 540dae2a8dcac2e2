/-
  Small functions of package table: within, maySizes, empty, free, hasSeg, hasPage, slotOf, filled, mayPlace, ageOf, maySeg.
-/
import Derived.Test.YthbcgbbcoanbdaaTMem
import Derived.Deep.RegionHeld3
namespace Go.Proofs.Ythbcgbbcoanbdaa
open Go Go.RowKit

set_option maxRecDepth 100000 in
theorem within_ok (w : World) (n l u : Int) :
    Calls Try.prog 40 #[.int .i64 n, .int .i64 l, .int .i64 u] w fun e w' => e = .returned (.bool (inB n l u)) ∧ w = w' := by
  unfold inB
  by_cases h1 : l ≤ n
  · go_enter Try.func40, Try.ntmps40
    go_wp2
    go_ret
    exact ⟨by simp [h1], rfl⟩
  · have hd : decide (l ≤ n) = false := by simpa using h1
    go_enter Try.func40, Try.ntmps40
    go_wp2
    go_ret
    exact ⟨by simp, rfl⟩

set_option maxRecDepth 100000 in
set_option maxHeartbeats 1600000 in
theorem sizes_ok (w : World) (p s k : Int) :
    Calls Try.prog 25 #[.int .i64 p, .int .i64 s, .int .i64 k] w fun e w' => e = .returned (.bool (sizB p s k)) ∧ w = w' := by
  have W1 := Lib.hid (fun w' => within_ok w' p 1 16)
  have W2 := Lib.hid (fun w' => within_ok w' s 2 32)
  have W3 := Lib.hid (fun w' => within_ok w' k 1 16)
  unfold sizB
  generalize inB p 1 16 = b1 at *
  generalize inB s 2 32 = b2 at *
  generalize inB k 1 16 = b3 at *
  rcases b1 with _ | _
  · go_enter Try.func25, Try.ntmps25
    go_wp2_with fail
    refine (W1.out _).mono ?_
    rintro e w' ⟨rfl, rfl⟩
    go_wp2
    go_ret
    exact ⟨rfl, rfl⟩
  rcases b2 with _ | _
  · go_enter Try.func25, Try.ntmps25
    go_wp2_with fail
    refine (W1.out _).mono ?_
    rintro e w' ⟨rfl, rfl⟩
    go_wp2_with fail
    refine (W2.out _).mono ?_
    rintro e w' ⟨rfl, rfl⟩
    go_wp2
    go_ret
    exact ⟨rfl, rfl⟩
  go_enter Try.func25, Try.ntmps25
  go_wp2_with fail
  refine (W1.out _).mono ?_
  rintro e w' ⟨rfl, rfl⟩
  go_wp2_with fail
  refine (W2.out _).mono ?_
  rintro e w' ⟨rfl, rfl⟩
  go_wp2_with fail
  refine (W3.out _).mono ?_
  rintro e w' ⟨rfl, rfl⟩
  go_wp2
  go_ret
  exact ⟨rfl, rfl⟩

set_option maxRecDepth 100000 in
theorem empty_ok (w : World) : Calls Try.prog 27 #[] w fun e w' => e = .returned (.agg #[.int .i64 (-1), .int .i64 0, .int .i64 0]) ∧ Mod (fun _ => False) w w' := by
  go_enter Try.func27, Try.ntmps27
  go_wp2
  refine bodyPost_ret (v := .agg #[.int .i64 (-1), .int .i64 0, .int .i64 0]) (by simp [results, Try.results27, go_sem]) rfl ?_
  exact ⟨rfl, (Mod.refl _ w).alloc _⟩
set_option maxRecDepth 100000 in
theorem free_ok (w : World) : Calls Try.prog 29 #[] w fun e w' => e = .returned (.agg #[.int .i64 0, .int .i64 0, .int .i64 0]) ∧ Mod (fun _ => False) w w' := by
  go_enter Try.func29, Try.ntmps29
  go_wp2
  refine bodyPost_ret (v := .agg #[.int .i64 0, .int .i64 0, .int .i64 0]) (by simp [results, Try.results29, go_sem]) rfl ?_
  exact ⟨rfl, (Mod.refl _ w).alloc _⟩

set_option maxRecDepth 100000 in
theorem hasSeg_ok (w : World) (x : TV) (hm : x.m ≤ 1000) (k : Int) :
    Calls Try.prog 43 #[.agg #[.slice x.P x.n x.c, .slice x.S x.m x.d, .int .i64 x.t.sl, .int .i64 x.t.nw], .int .i64 k] w fun e w' => e = .returned (.bool (inB k 0 ((x.m : Int) - 1))) ∧ Mod (fun _ => False) w w' := by
  have HM : Hid (Mod (fun _ => False) w (w.alloc (.cells #[.slice x.P x.n x.c, .slice x.S x.m x.d, .int .i64 x.t.sl, .int .i64 x.t.nw] 27))) := (Mod.refl _ w).alloc _
  go_enter Try.func43, Try.ntmps43
  go_wp2_with fail
  refine (within_ok _ _ _ _).mono ?_
  rintro e w' ⟨rfl, rfl⟩
  go_wp2
  go_ret
  exact ⟨rfl, HM.out⟩
set_option maxRecDepth 100000 in
theorem hasPage_ok (w : World) (x : TV) (hm : x.n ≤ 1000) (k : Int) :
    Calls Try.prog 44 #[.agg #[.slice x.P x.n x.c, .slice x.S x.m x.d, .int .i64 x.t.sl, .int .i64 x.t.nw], .int .i64 k] w fun e w' => e = .returned (.bool (inB k 0 ((x.n : Int) - 1))) ∧ Mod (fun _ => False) w w' := by
  have HM : Hid (Mod (fun _ => False) w (w.alloc (.cells #[.slice x.P x.n x.c, .slice x.S x.m x.d, .int .i64 x.t.sl, .int .i64 x.t.nw] 27))) := (Mod.refl _ w).alloc _
  go_enter Try.func44, Try.ntmps44
  go_wp2_with fail
  refine (within_ok _ _ _ _).mono ?_
  rintro e w' ⟨rfl, rfl⟩
  go_wp2
  go_ret
  exact ⟨rfl, HM.out⟩

set_option maxRecDepth 100000 in
theorem slotOf_ok (w : World) (p : Tr) : Calls Try.prog 67 #[.agg #[.int .i64 p.a, .int .i64 p.b, .int .i64 p.c]] w fun e w' => e = .returned (.agg #[.int .i64 p.a, .int .i64 p.b, .int .i64 0]) ∧ Mod (fun _ => False) w w' := by
  go_enter Try.func67, Try.ntmps67
  go_wp2
  refine bodyPost_ret (v := .agg #[.int .i64 p.a, .int .i64 p.b, .int .i64 0]) (by simp [results, Try.results67, go_sem]) rfl ?_
  exact ⟨rfl, ((Mod.refl _ w).alloc _).alloc _⟩

/-- A segment of which u slots are used. -/
def fillT (sl u age : Int) : Tr := if u = sl then ⟨2, u, age⟩ else ⟨1, u, age⟩
set_option maxRecDepth 100000 in
theorem filled_ok (w : World) (x : TV) (u age : Int) :
    Calls Try.prog 47 #[.agg #[.slice x.P x.n x.c, .slice x.S x.m x.d, .int .i64 x.t.sl, .int .i64 x.t.nw], .int .i64 u, .int .i64 age] w fun e w' =>
      e = .returned (.agg #[.int .i64 (fillT x.t.sl u age).a, .int .i64 (fillT x.t.sl u age).b, .int .i64 (fillT x.t.sl u age).c]) ∧ Mod (fun _ => False) w w' := by
  unfold fillT
  by_cases h : u = x.t.sl
  · rw [if_pos h]
    have hd : (u == x.t.sl) = true := by simpa using h
    clear h
    go_enter Try.func47, Try.ntmps47
    go_wp2
    refine bodyPost_ret (v := .agg #[.int .i64 2, .int .i64 u, .int .i64 age]) (by simp [results, Try.results47, go_sem]) rfl ?_
    exact ⟨rfl, ((Mod.refl _ w).alloc _).alloc _⟩
  · rw [if_neg h]
    have hd : (u == x.t.sl) = false := by simpa using h
    clear h
    go_enter Try.func47, Try.ntmps47
    go_wp2
    refine bodyPost_ret (v := .agg #[.int .i64 1, .int .i64 u, .int .i64 age]) (by simp [results, Try.results47, go_sem]) rfl ?_
    exact ⟨rfl, ((Mod.refl _ w).alloc _).alloc _⟩

set_option maxRecDepth 100000 in
set_option maxHeartbeats 1600000 in
theorem mayPlace_ok (w : World) (x : TV) (p : Tr) (hm : x.m ≤ 1000) (hs : x.m = x.t.sg.length) (k1 : 1 ≤ x.t.sl) (k2 : x.t.sl ≤ 16) :
    Calls Try.prog 51 #[.agg #[.slice x.P x.n x.c, .slice x.S x.m x.d, .int .i64 x.t.sl, .int .i64 x.t.nw], .agg #[.int .i64 p.a, .int .i64 p.b, .int .i64 p.c]] w fun e w' =>
      e = .returned (.bool (plB x.t p)) ∧ Mod (fun _ => False) w w' := by
  unfold plB
  rw [← hs]
  clear hs
  have hm0 : Mod (fun _ => False) w ((w.alloc (.cells #[.slice x.P x.n x.c, .slice x.S x.m x.d, .int .i64 x.t.sl, .int .i64 x.t.nw] 27)).alloc (.cells #[.int .i64 p.a, .int .i64 p.b, .int .i64 p.c] 34)) := ((Mod.refl _ w).alloc _).alloc _
  have hb0 := (TBx.new w x).keep ((Mod.refl _ _).alloc (.cells #[.int .i64 p.a, .int .i64 p.b, .int .i64 p.c] 34))
  have hr0 := RBx.new (w.alloc (.cells #[.slice x.P x.n x.c, .slice x.S x.m x.d, .int .i64 x.t.sl, .int .i64 x.t.nw] 27)) 34 p
  have HM := Lib.hid hm0
  have HB := Lib.hid hb0
  have HR := Lib.hid hr0
  have HH := Lib.hid (fun w' => hasSeg_ok w' x hm p.a)
  have W2 := Lib.hid (fun w' => within_ok w' p.b 0 (x.t.sl - 1))
  have W3 := Lib.hid (fun w' => within_ok w' p.c 0 4294967295)
  clear hm0 hb0 hr0
  generalize inB p.a 0 ((x.m : Int) - 1) = b1 at *
  generalize inB p.b 0 (x.t.sl - 1) = b2 at *
  generalize inB p.c 0 4294967295 = b3 at *
  rcases b1 with _ | _
  · go_enter Try.func51, Try.ntmps51
    go_wp2_with fail
    refine (HH.out _).mono ?_
    rintro e w1 ⟨rfl, hm1⟩
    have HM1 := Lib.hid (HM.out.trans hm1 (fun _ _ h => h))
    clear hm1
    go_wp2
    go_ret
    exact ⟨rfl, HM1.out⟩
  rcases b2 with _ | _
  · go_enter Try.func51, Try.ntmps51
    go_wp2_with fail
    refine (HH.out _).mono ?_
    rintro e w1 ⟨rfl, hm1⟩
    have HM1 := Lib.hid (HM.out.trans hm1 (fun _ _ h => h))
    obtain ⟨c0, c1, c2, c3⟩ := (HB.out.keep hm1).cells
    obtain ⟨d0, d1, d2⟩ := (HR.out.keep hm1).cells
    rw [World.size_alloc] at d0 d1 d2
    clear hm1
    go_wp2_with fail
    refine (W2.out _).mono ?_
    rintro e w2 ⟨rfl, rfl⟩
    go_wp2
    go_ret
    exact ⟨rfl, HM1.out⟩
  go_enter Try.func51, Try.ntmps51
  go_wp2_with fail
  refine (HH.out _).mono ?_
  rintro e w1 ⟨rfl, hm1⟩
  have HM1 := Lib.hid (HM.out.trans hm1 (fun _ _ h => h))
  obtain ⟨c0, c1, c2, c3⟩ := (HB.out.keep hm1).cells
  obtain ⟨d0, d1, d2⟩ := (HR.out.keep hm1).cells
  rw [World.size_alloc] at d0 d1 d2
  clear hm1
  go_wp2_with fail
  refine (W2.out _).mono ?_
  rintro e w2 ⟨rfl, rfl⟩
  go_wp2_with fail
  refine (W3.out _).mono ?_
  rintro e w2 ⟨rfl, rfl⟩
  go_wp2
  go_ret
  exact ⟨rfl, HM1.out⟩

/-- The age of a segment that has an image from now on. -/
def ageT (t : Tb) (j : Nat) : Int := if eqT (atS t.sg j) noT = true then t.nw else (atS t.sg j).c
set_option maxRecDepth 100000 in
set_option maxHeartbeats 1600000 in
theorem ageOf_ok (w : World) (x : TV) (h : x.At w) (hm : x.m ≤ 1000) (j : Nat) (hj : j < x.m) :
    Calls Try.prog 53 #[.agg #[.slice x.P x.n x.c, .slice x.S x.m x.d, .int .i64 x.t.sl, .int .i64 x.t.nw], .int .i64 j] w fun e w' =>
      e = .returned (.int .i64 (ageT x.t j)) ∧ Mod (fun _ => False) w w' := by
  obtain ⟨b, o, hS, hc⟩ := h.sg.cells (by omega)
  have hc3 := hc j hj
  have hlt := hc3.lt
  have hne : b ≠ w.heap.size := by omega
  unfold ageT
  generalize atS x.t.sg j = s at *
  rw [hS]
  clear h hc hS
  obtain ⟨s0, s1, s2⟩ := hc3
  have heq : ∀ w, (Op.equalIn 10000 45 (.agg #[.int .i64 s.a, .int .i64 s.b, .int .i64 s.c]) (.agg #[.int .i64 0, .int .i64 0, .int .i64 0])).run Try.prog w = .ok (eqT s noT) w := fun w => eq_sg s noT w
  have hm0 : Mod (fun _ => False) w ((w.alloc (.cells #[.slice x.P x.n x.c, .slice (some ⟨b, o, none⟩) x.m x.d, .int .i64 x.t.sl, .int .i64 x.t.nw] 27)).alloc (.cells #[.int .i64 s.a, .int .i64 s.b, .int .i64 s.c] 45)) := ((Mod.refl _ w).alloc _).alloc _
  have hb0 := (TBx.new w ⟨x.P, x.n, x.c, some ⟨b, o, none⟩, x.m, x.d, x.t⟩).keep ((Mod.refl _ _).alloc (.cells #[.int .i64 s.a, .int .i64 s.b, .int .i64 s.c] 45))
  have hr0 := RBx.new (w.alloc (.cells #[.slice x.P x.n x.c, .slice (some ⟨b, o, none⟩) x.m x.d, .int .i64 x.t.sl, .int .i64 x.t.nw] 27)) 45 s
  obtain ⟨w1, hw1⟩ : ∃ w1, (w.alloc (.cells #[.slice x.P x.n x.c, .slice (some ⟨b, o, none⟩) x.m x.d, .int .i64 x.t.sl, .int .i64 x.t.nw] 27)).alloc (.cells #[.int .i64 s.a, .int .i64 s.b, .int .i64 s.c] 45) = w1 := ⟨_, rfl⟩
  rw [hw1] at hm0 hr0
  have hb0 : TBx w1 w.heap.size ⟨x.P, x.n, x.c, some ⟨b, o, none⟩, x.m, x.d, x.t⟩ := hw1 ▸ hb0
  have HM := Lib.hid hm0
  have HB := Lib.hid hb0
  have HR := Lib.hid hr0
  clear hm0 hb0 hr0
  have HF : Hid (∀ W, Mod (fun _ => False) w1 W → Calls Try.prog 29 #[] W fun e w' => e = .returned (.agg #[.int .i64 0, .int .i64 0, .int .i64 0]) ∧ Mod (fun _ => False) w1 w') := fun W hW => (free_ok W).mono (fun e w' h => ⟨h.1, hW.trans h.2 (fun _ _ h => h)⟩)
  have M0 : Hid (Mod (fun _ => False) w1 w1.drew) := (Mod.refl _ w1).drew
  cases hE : eqT s noT with
  | true =>
    rw [hE] at heq
    go_enter Try.func53, Try.ntmps53
    go_wp2_with fail
    clear hw1 s0 s1 s2
    go_region_held3 (fun w' => w'.cell? ⟨w.heap.size + 1, 0, none⟩ = some (.int .i64 s.a) ∧ w'.cell? ⟨w.heap.size + 1, 1, none⟩ = some (.int .i64 s.b) ∧ w'.cell? ⟨w.heap.size + 1, 2, none⟩ = some (.int .i64 s.c)) (first | exact (by have := (HR.out.keep M0.out).cells; rw [World.size_alloc] at this; exact this) | exact (by have := (HR.out.keep hm2).cells; rw [World.size_alloc] at this; exact this)) ((go_at_call 29; refine (HF.out _ M0.out).mono ?_; rintro e w2 ⟨rfl, hm2⟩))
    all_goals
      obtain ⟨c0, c1, c2, c3⟩ := (HB.out.keep hm2).cells
      have HM2 := Lib.hid (HM.out.trans hm2 (fun _ _ h => h))
      clear hm2
      go_wp2
      go_ret
      exact ⟨rfl, HM2.out⟩
  | false =>
    rw [hE] at heq
    go_enter Try.func53, Try.ntmps53
    go_wp2_with fail
    clear hw1 s0 s1 s2
    go_region_held3 (fun w' => w'.cell? ⟨w.heap.size + 1, 0, none⟩ = some (.int .i64 s.a) ∧ w'.cell? ⟨w.heap.size + 1, 1, none⟩ = some (.int .i64 s.b) ∧ w'.cell? ⟨w.heap.size + 1, 2, none⟩ = some (.int .i64 s.c)) (first | exact (by have := (HR.out.keep M0.out).cells; rw [World.size_alloc] at this; exact this) | exact (by have := (HR.out.keep hm2).cells; rw [World.size_alloc] at this; exact this)) ((go_at_call 29; refine (HF.out _ M0.out).mono ?_; rintro e w2 ⟨rfl, hm2⟩))
    all_goals
      obtain ⟨d0, d1, d2⟩ := (HR.out.keep hm2).cells
      rw [World.size_alloc] at d0 d1 d2
      have HM2 := Lib.hid (HM.out.trans hm2 (fun _ _ h => h))
      clear hm2
      go_wp2
      go_ret
      exact ⟨rfl, HM2.out⟩
end Go.Proofs.Ythbcgbbcoanbdaa
