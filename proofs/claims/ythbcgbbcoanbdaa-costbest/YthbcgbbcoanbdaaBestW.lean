/-
  CostBest: no other segment gains more than the victim; where a full segment has a dead slot, there is a victim, and it is full, and has one.
-/
import Derived.Test.YthbcgbbcoanbdaaCLaw
import Derived.Test.YthbcgbbcoanbdaaTOrd
namespace Go.Proofs.Ythbcgbbcoanbdaa
open Go Go.RowKit

theorem wrap_mulK {a b : Int} (ha : 0 ≤ a ∧ a ≤ 17592186044432) (hb : 0 ≤ b ∧ b ≤ 32) : IntKind.i64.wrap (a * b) = a * b := by
  have := mul_in ha hb
  generalize a * b = x at *
  rw [IntKind.wrap_i64]
  omega

set_option maxRecDepth 100000 in
set_option maxHeartbeats 12800000 in
theorem best_walk (x : TV) (W : World) (h : x.At W) (g : Int) :
    Calls Try.prog 5 #[.agg #[.slice x.P x.n x.c, .slice x.S x.m x.d, .int .i64 x.t.sl, .int .i64 x.t.nw], .int .i64 g] W fun e w' => e = .returned (.bool true) ∧ Below W.heap.size W w' := by
  have HX0 := Lib.hid h
  obtain ⟨w1, hw1⟩ : ∃ w1, W.alloc (.cells #[.slice x.P x.n x.c, .slice x.S x.m x.d, .int .i64 x.t.sl, .int .i64 x.t.nw] 27) = w1 := ⟨_, rfl⟩
  have hm1 : Mod (fun _ => False) W w1 := by rw [← hw1]; exact (Mod.refl _ W).alloc _
  have hb1 : TBx w1 W.heap.size x := by rw [← hw1]; exact TBx.new W x
  have HB1 := Lib.hid hb1
  have HX1 := Lib.hid (h.keep hm1)
  have HM1 := Lib.hid hm1
  have Hpl : Hid (x.t.pg.length = x.n) := h.pg.len
  have Hsl : Hid (x.t.sg.length = x.m) := h.sg.len
  clear hb1 hm1 h
  cases hlt : (decide (x.n ≤ 40) && decide (x.m ≤ 40)) with
  | false =>
    go_enter Try.func5, Try.ntmps5
    go_wp2_with fail
    refine (cawake_ok _).mono ?_
    rintro e w2 ⟨rfl, hm2⟩
    clear hw1
    have HB2 := Lib.hid (HB1.out.keep hm2)
    have HX2 := Lib.hid (HX1.out.keep hm2)
    have HM2 := Lib.hid (HM1.out.trans hm2 (fun _ _ h => h))
    clear hm2
    obtain ⟨c0, c1, c2, c3⟩ := HB2.out.cells
    go_wp2_with fail
    refine (clight_ok _ x).mono ?_
    rintro e w3 ⟨rfl, hm3⟩
    clear c0 c1 c2 c3
    have HB3 := Lib.hid (HB2.out.keep hm3)
    have HX3 := Lib.hid (HX2.out.keep hm3)
    have HM3 := Lib.hid (HM2.out.trans hm3 (fun _ _ h => h))
    clear hm3
    rw [hlt]
    go_wp2
    go_ret
    exact ⟨rfl, HM3.out.below (Nat.le_refl _) (fun _ _ => id)⟩
  | true =>
  have hnm : x.n ≤ 40 ∧ x.m ≤ 40 := by simpa using hlt
  obtain ⟨hn, hm⟩ := hnm
  have hn' : x.n ≤ 1000 := by omega
  have hm' : x.m ≤ 1000 := by omega
  have HMY : Hid (∀ V, x.At V → Calls Try.prog 20 #[.agg #[.slice x.P x.n x.c, .slice x.S x.m x.d, .int .i64 x.t.sl, .int .i64 x.t.nw]] V fun e w' => e = .returned (.bool (mayB x.t)) ∧ Mod (fun _ => False) V w') := fun V hV => tmay_ok V x hV hn' hm'
  cases hmy : mayB x.t with
  | false =>
    rw [hmy] at HMY
    clear hmy
    go_enter Try.func5, Try.ntmps5
    go_wp2_with fail
    refine (cawake_ok _).mono ?_
    rintro e w2 ⟨rfl, hm2⟩
    clear hw1
    have HB2 := Lib.hid (HB1.out.keep hm2)
    have HX2 := Lib.hid (HX1.out.keep hm2)
    have HM2 := Lib.hid (HM1.out.trans hm2 (fun _ _ h => h))
    clear hm2
    obtain ⟨c0, c1, c2, c3⟩ := HB2.out.cells
    go_wp2_with fail
    refine (clight_ok _ x).mono ?_
    rintro e w3 ⟨rfl, hm3⟩
    clear c0 c1 c2 c3
    have HB3 := Lib.hid (HB2.out.keep hm3)
    have HX3 := Lib.hid (HX2.out.keep hm3)
    have HM3 := Lib.hid (HM2.out.trans hm3 (fun _ _ h => h))
    clear hm3
    rw [hlt]
    obtain ⟨c0, c1, c2, c3⟩ := HB3.out.cells
    go_wp2_with fail
    refine (HMY.out _ HX3.out).mono ?_
    rintro e w4 ⟨rfl, hm4⟩
    clear c0 c1 c2 c3
    have HB4 := Lib.hid (HB3.out.keep hm4)
    have HX4 := Lib.hid (HX3.out.keep hm4)
    have HM4 := Lib.hid (HM3.out.trans hm4 (fun _ _ h => h))
    clear hm4
    go_wp2
    go_ret
    exact ⟨rfl, HM4.out.below (Nat.le_refl _) (fun _ _ => id)⟩
  | true =>
  rw [hmy] at HMY
  have Hmay := Lib.hid (mayB_iff.1 hmy)
  clear hmy
  have HF : Hid (Found x.t x.m (vcT x.t)) := by unfold vcT; rw [Hsl.out]; exact Lib.hid (found x.t x.m)
  have HV := Lib.hid (fun V (hV : x.At V) => victim_ok V x hV hn' hm')
  cases hf : (vcT x.t).f with
  | false =>
    have hno := HF.out.no hf
    rw [hf, hno.1] at HV
    have Hno := Lib.hid hno.2
    clear hf hno HF
    go_enter Try.func5, Try.ntmps5
    go_wp2_with fail
    refine (cawake_ok _).mono ?_
    rintro e w2 ⟨rfl, hm2⟩
    clear hw1
    have HB2 := Lib.hid (HB1.out.keep hm2)
    have HX2 := Lib.hid (HX1.out.keep hm2)
    have HM2 := Lib.hid (HM1.out.trans hm2 (fun _ _ h => h))
    clear hm2
    obtain ⟨c0, c1, c2, c3⟩ := HB2.out.cells
    go_wp2_with fail
    refine (clight_ok _ x).mono ?_
    rintro e w3 ⟨rfl, hm3⟩
    clear c0 c1 c2 c3
    have HB3 := Lib.hid (HB2.out.keep hm3)
    have HX3 := Lib.hid (HX2.out.keep hm3)
    have HM3 := Lib.hid (HM2.out.trans hm3 (fun _ _ h => h))
    clear hm3
    rw [hlt]
    obtain ⟨c0, c1, c2, c3⟩ := HB3.out.cells
    go_wp2_with fail
    refine (HMY.out _ HX3.out).mono ?_
    rintro e w4 ⟨rfl, hm4⟩
    clear c0 c1 c2 c3
    have HB4 := Lib.hid (HB3.out.keep hm4)
    have HX4 := Lib.hid (HX3.out.keep hm4)
    have HM4 := Lib.hid (HM3.out.trans hm4 (fun _ _ h => h))
    clear hm4
    obtain ⟨c0, c1, c2, c3⟩ := HB4.out.cells
    go_wp2_with fail
    refine (HV.out _ HX4.out).mono ?_
    rintro e w5 ⟨rfl, hm5⟩
    clear c0 c1 c2 c3
    have HB5 := Lib.hid (HB4.out.keep hm5)
    have HX5 := Lib.hid (HX4.out.keep hm5)
    have HM5 := Lib.hid (HM4.out.trans hm5 (fun _ _ h => h))
    clear hm5
    obtain ⟨c0, c1, c2, c3⟩ := HB5.out.cells
    go_wp2
    clear c0 c1 c2 c3
    go_loopw [9] (fun i wr => ∃ j : Nat, j ≤ x.m ∧ i = .int .i64 j ∧ Mod (fun _ => False) w5 wr) (fun i _ => x.m - (intOf i).toNat)
    case atStart => exact ⟨0, Nat.zero_le _, rfl, Mod.refl _ _⟩
    case round =>
      obtain ⟨j, hj, rfl, hmr⟩ := hrel
      have Hmr := Lib.hid hmr
      have HBr := Lib.hid (HB5.out.keep hmr)
      have HXr := Lib.hid (HX5.out.keep hmr)
      have HMr := Lib.hid (HM5.out.trans hmr (fun _ _ h => h))
      clear hmr
      obtain ⟨c0, c1, c2, c3⟩ := HBr.out.cells
      by_cases hlt : j < x.m
      · have hji : (j : Int) < (x.m : Int) := by omega
        have hj0 : (0 : Int) ≤ (j : Int) := by omega
        have HL0 : Hid (∀ V, x.At V → Calls Try.prog 21 #[.agg #[.slice x.P x.n x.c, .slice x.S x.m x.d, .int .i64 x.t.sl, .int .i64 x.t.nw], .int .i64 (j : Int)] V fun e w' => e = .returned (.int .i64 (lvN x.t (j : Int))) ∧ Mod (fun _ => False) V w') := fun V hV => by
          have := live_ok V x hV hn' hm' (j : Int)
          rw [liveI_in Hmay.out (by rw [Hsl.out]; exact hlt)] at this
          exact this
        have Hcs0 : Hid (∃ b o, x.S = some ⟨b, o, none⟩ ∧ ∀ w', Mod (fun _ => False) W w' → w'.cell? ⟨b, o + j * 3, none⟩ = some (.int .i64 (atS x.t.sg j).a)) := by
          obtain ⟨b, o, hS, hc⟩ := HX0.out.sg.cells (by omega)
          exact ⟨b, o, hS, fun w' hm' => ((hc j hlt).keep (hm'.block b (hc j hlt).lt id)).1⟩
        obtain ⟨b, o, hS, hcs⟩ := Hcs0.out
        have Hcs := Lib.hid hcs
        have HS := Lib.hid hS
        rw [hS] at HL0
        clear hS hcs Hcs0
        have hg := Hno.out j hlt
        have Hg : Hid ((atS x.t.sg j).a = 2 → ¬ lvN x.t (j : Int) < x.t.sl) := fun h2 h3 => by
          rw [gnB_iff.2 ⟨Hmay.out, ⟨by omega, by rw [Hsl.out]; exact hji⟩, by rw [Int.toNat_natCast]; exact h2, h3⟩] at hg
          cases hg
        clear hg
        generalize (atS x.t.sg j).a = s at *
        generalize lvN x.t (j : Int) = lv at *
        have M0 : Hid (Mod (fun _ => False) wr wr.drew) := (Mod.refl _ wr).drew
        have HIg : Hid (∀ V, Mod (fun _ => False) wr V → (fun V : World => (V.cell? ⟨W.heap.size, 0, none⟩ = some (.slice x.P x.n x.c) ∧ V.cell? ⟨W.heap.size, 1, none⟩ = some (.slice (some ⟨b, o, none⟩) x.m x.d) ∧ V.cell? ⟨W.heap.size, 2, none⟩ = some (.int .i64 x.t.sl) ∧ V.cell? ⟨W.heap.size, 3, none⟩ = some (.int .i64 x.t.nw)) ∧ V.cell? ⟨b, o + j * 3, none⟩ = some (.int .i64 s)) V) := fun V hV => ⟨by have := (HBr.out.keep hV).cells; rw [HS.out] at this; exact this, Hcs.out V (HMr.out.trans hV (fun _ _ h => h))⟩
        have HLV := Lib.hid (fun V (hV : Mod (fun _ => False) wr V) => HL0.out V (HXr.out.keep hV))
        by_cases h2 : s = 2
        · have hs : (s == 2) = true := by simpa using h2
          have hl : decide (lv < x.t.sl) = false := decide_eq_false (Hg.out h2)
          clear h2 Hg
          go_wp2_with fail
          clear c0 c1 c2 c3
          refine wp_region_held (S := (fun V : World => (V.cell? ⟨W.heap.size, 0, none⟩ = some (.slice x.P x.n x.c) ∧ V.cell? ⟨W.heap.size, 1, none⟩ = some (.slice (some ⟨b, o, none⟩) x.m x.d) ∧ V.cell? ⟨W.heap.size, 2, none⟩ = some (.int .i64 x.t.sl) ∧ V.cell? ⟨W.heap.size, 3, none⟩ = some (.int .i64 x.t.nw)) ∧ V.cell? ⟨b, o + j * 3, none⟩ = some (.int .i64 s))) (by kernel_rfl) ?_
          have hI := (show (fun V : World => (V.cell? ⟨W.heap.size, 0, none⟩ = some (.slice x.P x.n x.c) ∧ V.cell? ⟨W.heap.size, 1, none⟩ = some (.slice (some ⟨b, o, none⟩) x.m x.d) ∧ V.cell? ⟨W.heap.size, 2, none⟩ = some (.int .i64 x.t.sl) ∧ V.cell? ⟨W.heap.size, 3, none⟩ = some (.int .i64 x.t.nw)) ∧ V.cell? ⟨b, o + j * 3, none⟩ = some (.int .i64 s)) _ from HIg.out _ M0.out)
          refine rg_take (n := 14) (v := ?_) 0 (some 45) rfl rfl (by kernel_rfl) (by kernel_rfl) (by kernel_rfl) (fun _ _ _ h => h) (by rfl) hI ?_ ?_
          rotate_left
          · ((intro w hSw; (try dsimp only at hSw); go_simp); (try with_reducible rfl))
          try simp only [Act.put, List.setIfInBounds_toArray, List.set_cons_zero, List.set_cons_succ]
          refine rg_take (n := 13) (v := ?_) 1 (some 46) rfl rfl (by kernel_rfl) (by kernel_rfl) (by kernel_rfl) (fun _ _ _ h => h) (by rfl) hI ?_ ?_
          rotate_left
          · ((intro w hSw; (try dsimp only at hSw); go_simp); (try with_reducible rfl))
          try simp only [Act.put, List.setIfInBounds_toArray, List.set_cons_zero, List.set_cons_succ]
          refine rg_take (n := 12) (v := ?_) 2 (some 47) rfl rfl (by kernel_rfl) (by kernel_rfl) (by kernel_rfl) (fun _ _ _ h => h) (by rfl) hI ?_ ?_
          rotate_left
          · ((intro w hSw; (try dsimp only at hSw); go_simp); (try with_reducible rfl))
          try simp only [Act.put, List.setIfInBounds_toArray, List.set_cons_zero, List.set_cons_succ]
          refine rg_take (n := 11) (v := ?_) 3 (some 48) rfl rfl (by kernel_rfl) (by kernel_rfl) (by kernel_rfl) (fun _ _ _ h => h) (by rfl) hI ?_ ?_
          rotate_left
          · ((intro w hSw; (try dsimp only at hSw); go_simp); (try with_reducible rfl))
          try simp only [Act.put, List.setIfInBounds_toArray, List.set_cons_zero, List.set_cons_succ]
          refine rg_take (n := 10) (v := ?_) 4 (some 49) rfl rfl (by kernel_rfl) (by kernel_rfl) (by kernel_rfl) (fun _ _ _ h => h) (by rfl) hI ?_ ?_
          rotate_left
          · ((intro w hSw; (try dsimp only at hSw); go_simp); (try with_reducible rfl))
          try simp only [Act.put, List.setIfInBounds_toArray, List.set_cons_zero, List.set_cons_succ]
          refine rg_take (n := 9) (v := ?_) 5 (some 50) rfl rfl (by kernel_rfl) (by kernel_rfl) (by kernel_rfl) (fun _ _ _ h => h) (by rfl) hI ?_ ?_
          rotate_left
          · ((intro w hSw; (try dsimp only at hSw); go_simp); (try with_reducible rfl))
          try simp only [Act.put, List.setIfInBounds_toArray, List.set_cons_zero, List.set_cons_succ]
          refine rg_take (n := 8) (v := ?_) 6 (some 51) rfl rfl (by kernel_rfl) (by kernel_rfl) (by kernel_rfl) (fun _ _ _ h => h) (by rfl) hI ?_ ?_
          rotate_left
          · ((intro w hSw; (try dsimp only at hSw); go_simp); (try with_reducible rfl))
          try simp only [Act.put, List.setIfInBounds_toArray, List.set_cons_zero, List.set_cons_succ]
          refine rg_take (n := 7) (v := ?_) 7 (some 52) rfl rfl (by kernel_rfl) (by kernel_rfl) (by kernel_rfl) (fun _ _ _ h => h) (by rfl) hI ?_ ?_
          rotate_left
          · ((intro w hSw; (try dsimp only at hSw); go_simp); (try with_reducible rfl))
          try simp only [Act.put, List.setIfInBounds_toArray, List.set_cons_zero, List.set_cons_succ]
          refine rg_take (n := 6) (v := ?_) 8 (some 53) rfl rfl (by kernel_rfl) (by kernel_rfl) (by kernel_rfl) (fun _ _ _ h => h) (by rfl) hI ?_ ?_
          rotate_left
          · ((intro w hSw; (try dsimp only at hSw); go_simp); (try with_reducible rfl))
          try simp only [Act.put, List.setIfInBounds_toArray, List.set_cons_zero, List.set_cons_succ]
          refine rg_take (n := 5) (v := ?_) 9 (some 54) rfl rfl (by kernel_rfl) (by kernel_rfl) (by kernel_rfl) (fun _ _ _ h => h) (by rfl) hI ?_ ?_
          rotate_left
          · ((intro w hSw; (try dsimp only at hSw); go_simp); (try with_reducible rfl))
          try simp only [Act.put, List.setIfInBounds_toArray, List.set_cons_zero, List.set_cons_succ]
          refine rg_take (n := 4) (v := ?_) 11 (some 56) rfl rfl (by kernel_rfl) (by kernel_rfl) (by kernel_rfl) (fun _ _ _ h => h) (by rfl) hI ?_ ?_
          rotate_left
          · ((intro w hSw; (try dsimp only at hSw); go_simp); (try with_reducible rfl))
          try simp only [Act.put, List.setIfInBounds_toArray, List.set_cons_zero, List.set_cons_succ]
          refine rg_take (n := 3) (v := ?_) 12 (some 57) rfl rfl (by kernel_rfl) (by kernel_rfl) (by kernel_rfl) (fun _ _ _ h => h) (by rfl) hI ?_ ?_
          rotate_left
          · ((intro w hSw; (try dsimp only at hSw); go_simp); (try with_reducible rfl))
          try simp only [Act.put, List.setIfInBounds_toArray, List.set_cons_zero, List.set_cons_succ]
          refine rg_one (n := 2) 10 rfl (by kernel_rfl) (by rfl) ?_
          go_simp
          go_at_call 21
          refine (HLV.out _ M0.out).mono ?_
          rintro e u1 ⟨rfl, hml⟩
          have Mu1 := Lib.hid (M0.out.trans hml (fun _ _ h => h))
          clear hml
          clear hI
          have hI := (show (fun V : World => (V.cell? ⟨W.heap.size, 0, none⟩ = some (.slice x.P x.n x.c) ∧ V.cell? ⟨W.heap.size, 1, none⟩ = some (.slice (some ⟨b, o, none⟩) x.m x.d) ∧ V.cell? ⟨W.heap.size, 2, none⟩ = some (.int .i64 x.t.sl) ∧ V.cell? ⟨W.heap.size, 3, none⟩ = some (.int .i64 x.t.nw)) ∧ V.cell? ⟨b, o + j * 3, none⟩ = some (.int .i64 s)) _ from HIg.out _ Mu1.out)
          refine ⟨hI, ?_⟩
          try simp only [Act.put, List.setIfInBounds_toArray, List.set_cons_zero, List.set_cons_succ]
          refine rg_take (n := 1) (v := ?_) 13 (some 58) rfl rfl (by kernel_rfl) (by kernel_rfl) (by kernel_rfl) (fun _ _ _ h => h) (by rfl) hI ?_ ?_
          rotate_left
          · ((intro w hSw; (try dsimp only at hSw); go_simp); (try with_reducible rfl))
          try simp only [Act.put, List.setIfInBounds_toArray, List.set_cons_zero, List.set_cons_succ]
          refine rg_take (n := 0) (v := ?_) 14 (some 59) rfl rfl (by kernel_rfl) (by kernel_rfl) (by kernel_rfl) (fun _ _ _ h => h) (by rfl) hI ?_ ?_
          rotate_left
          · ((intro w hSw; (try dsimp only at hSw); go_simp); (try with_reducible rfl))
          try simp only [Act.put, List.setIfInBounds_toArray, List.set_cons_zero, List.set_cons_succ]
          refine wpAnyH_done (by kernel_rfl) ?_ _
          clear hI
          go_wp2
          go_roundw
          case rel => exact ⟨j + 1, by omega, by go_num, Hmr.out.trans Mu1.out (fun _ _ h => h)⟩
          case measure => simp [intOf]; omega
        · have hs : (s == 2) = false := by simpa using h2
          clear h2 Hg
          go_wp2_with fail
          clear c0 c1 c2 c3
          refine wp_region_held (S := (fun V : World => (V.cell? ⟨W.heap.size, 0, none⟩ = some (.slice x.P x.n x.c) ∧ V.cell? ⟨W.heap.size, 1, none⟩ = some (.slice (some ⟨b, o, none⟩) x.m x.d) ∧ V.cell? ⟨W.heap.size, 2, none⟩ = some (.int .i64 x.t.sl) ∧ V.cell? ⟨W.heap.size, 3, none⟩ = some (.int .i64 x.t.nw)) ∧ V.cell? ⟨b, o + j * 3, none⟩ = some (.int .i64 s))) (by kernel_rfl) ?_
          have hI := (show (fun V : World => (V.cell? ⟨W.heap.size, 0, none⟩ = some (.slice x.P x.n x.c) ∧ V.cell? ⟨W.heap.size, 1, none⟩ = some (.slice (some ⟨b, o, none⟩) x.m x.d) ∧ V.cell? ⟨W.heap.size, 2, none⟩ = some (.int .i64 x.t.sl) ∧ V.cell? ⟨W.heap.size, 3, none⟩ = some (.int .i64 x.t.nw)) ∧ V.cell? ⟨b, o + j * 3, none⟩ = some (.int .i64 s)) _ from HIg.out _ M0.out)
          refine rg_take (n := 14) (v := ?_) 0 (some 45) rfl rfl (by kernel_rfl) (by kernel_rfl) (by kernel_rfl) (fun _ _ _ h => h) (by rfl) hI ?_ ?_
          rotate_left
          · ((intro w hSw; (try dsimp only at hSw); go_simp); (try with_reducible rfl))
          try simp only [Act.put, List.setIfInBounds_toArray, List.set_cons_zero, List.set_cons_succ]
          refine rg_take (n := 13) (v := ?_) 1 (some 46) rfl rfl (by kernel_rfl) (by kernel_rfl) (by kernel_rfl) (fun _ _ _ h => h) (by rfl) hI ?_ ?_
          rotate_left
          · ((intro w hSw; (try dsimp only at hSw); go_simp); (try with_reducible rfl))
          try simp only [Act.put, List.setIfInBounds_toArray, List.set_cons_zero, List.set_cons_succ]
          refine rg_take (n := 12) (v := ?_) 2 (some 47) rfl rfl (by kernel_rfl) (by kernel_rfl) (by kernel_rfl) (fun _ _ _ h => h) (by rfl) hI ?_ ?_
          rotate_left
          · ((intro w hSw; (try dsimp only at hSw); go_simp); (try with_reducible rfl))
          try simp only [Act.put, List.setIfInBounds_toArray, List.set_cons_zero, List.set_cons_succ]
          refine rg_take (n := 11) (v := ?_) 3 (some 48) rfl rfl (by kernel_rfl) (by kernel_rfl) (by kernel_rfl) (fun _ _ _ h => h) (by rfl) hI ?_ ?_
          rotate_left
          · ((intro w hSw; (try dsimp only at hSw); go_simp); (try with_reducible rfl))
          try simp only [Act.put, List.setIfInBounds_toArray, List.set_cons_zero, List.set_cons_succ]
          refine rg_take (n := 10) (v := ?_) 4 (some 49) rfl rfl (by kernel_rfl) (by kernel_rfl) (by kernel_rfl) (fun _ _ _ h => h) (by rfl) hI ?_ ?_
          rotate_left
          · ((intro w hSw; (try dsimp only at hSw); go_simp); (try with_reducible rfl))
          try simp only [Act.put, List.setIfInBounds_toArray, List.set_cons_zero, List.set_cons_succ]
          refine rg_take (n := 9) (v := ?_) 5 (some 50) rfl rfl (by kernel_rfl) (by kernel_rfl) (by kernel_rfl) (fun _ _ _ h => h) (by rfl) hI ?_ ?_
          rotate_left
          · ((intro w hSw; (try dsimp only at hSw); go_simp); (try with_reducible rfl))
          try simp only [Act.put, List.setIfInBounds_toArray, List.set_cons_zero, List.set_cons_succ]
          refine rg_take (n := 8) (v := ?_) 6 (some 51) rfl rfl (by kernel_rfl) (by kernel_rfl) (by kernel_rfl) (fun _ _ _ h => h) (by rfl) hI ?_ ?_
          rotate_left
          · ((intro w hSw; (try dsimp only at hSw); go_simp); (try with_reducible rfl))
          try simp only [Act.put, List.setIfInBounds_toArray, List.set_cons_zero, List.set_cons_succ]
          refine rg_take (n := 7) (v := ?_) 7 (some 52) rfl rfl (by kernel_rfl) (by kernel_rfl) (by kernel_rfl) (fun _ _ _ h => h) (by rfl) hI ?_ ?_
          rotate_left
          · ((intro w hSw; (try dsimp only at hSw); go_simp); (try with_reducible rfl))
          try simp only [Act.put, List.setIfInBounds_toArray, List.set_cons_zero, List.set_cons_succ]
          refine rg_skip (n := 6) 8 (some 53) rfl rfl (by kernel_rfl) (by kernel_rfl) (by kernel_rfl) (fun _ _ _ h => h) (by rfl) hI ?_
          try simp only [Act.put, List.setIfInBounds_toArray, List.set_cons_zero, List.set_cons_succ]
          refine rg_skip (n := 5) 9 (some 54) rfl rfl (by kernel_rfl) (by kernel_rfl) (by kernel_rfl) (fun _ _ _ h => h) (by rfl) hI ?_
          try simp only [Act.put, List.setIfInBounds_toArray, List.set_cons_zero, List.set_cons_succ]
          refine rg_skip (n := 4) 10 (some 55) rfl rfl (by kernel_rfl) (by kernel_rfl) (by kernel_rfl) (fun _ _ _ h => h) (by rfl) hI ?_
          try simp only [Act.put, List.setIfInBounds_toArray, List.set_cons_zero, List.set_cons_succ]
          refine rg_skip (n := 3) 11 (some 56) rfl rfl (by kernel_rfl) (by kernel_rfl) (by kernel_rfl) (fun _ _ _ h => h) (by rfl) hI ?_
          try simp only [Act.put, List.setIfInBounds_toArray, List.set_cons_zero, List.set_cons_succ]
          refine rg_skip (n := 2) 12 (some 57) rfl rfl (by kernel_rfl) (by kernel_rfl) (by kernel_rfl) (fun _ _ _ h => h) (by rfl) hI ?_
          try simp only [Act.put, List.setIfInBounds_toArray, List.set_cons_zero, List.set_cons_succ]
          refine rg_skip (n := 1) 13 (some 58) rfl rfl (by kernel_rfl) (by kernel_rfl) (by kernel_rfl) (fun _ _ _ h => h) (by rfl) hI ?_
          try simp only [Act.put, List.setIfInBounds_toArray, List.set_cons_zero, List.set_cons_succ]
          refine rg_take (n := 0) (v := ?_) 14 (some 59) rfl rfl (by kernel_rfl) (by kernel_rfl) (by kernel_rfl) (fun _ _ _ h => h) (by rfl) hI ?_ ?_
          rotate_left
          · ((intro w hSw; (try dsimp only at hSw); go_simp); (try with_reducible rfl))
          try simp only [Act.put, List.setIfInBounds_toArray, List.set_cons_zero, List.set_cons_succ]
          refine wpAnyH_done (by kernel_rfl) ?_ _
          clear hI
          go_wp2
          go_roundw
          case rel => exact ⟨j + 1, by omega, by go_num, Hmr.out.drew⟩
          case measure => simp [intOf]; omega
      · obtain rfl : j = x.m := by omega
        go_wp2
        go_ret
        exact ⟨rfl, HMr.out.below (Nat.le_refl _) (fun _ _ => id)⟩
  | true =>
  obtain ⟨j, hjl, e1, _, _, hgj, hall, _⟩ := HF.out.yes hf
  rw [hf, e1] at HV
  obtain ⟨_, _, h2, hls⟩ := gnB_iff.1 hgj
  rw [Int.toNat_natCast] at h2
  have HQ : Hid (gnB x.t g = true → gaN x.t g * gaD x.t j ≤ gaN x.t j * gaD x.t g) := fun hg => by
    obtain ⟨_, ⟨g0, g1⟩, _⟩ := gnB_iff.1 hg
    obtain ⟨k, rfl⟩ : ∃ k : Nat, g = (k : Int) := ⟨g.toNat, by omega⟩
    exact hall k (by rw [Hsl.out] at g1; omega)
  have G1 := Lib.hid (fun V (hV : x.At V) => gain_ok V x hV hn' hm' (j : Int))
  have G2 := Lib.hid (fun V (hV : x.At V) => gain_ok V x hV hn' hm' g)
  have Hwp1 := Lib.hid (wrap_mulK (gaN_in x.t g) (gaD_in x.t j))
  have Hwp2 := Lib.hid (wrap_mulK (gaN_in x.t j) (gaD_in x.t g))
  rw [hgj] at G1
  have hji : (j : Int) < (x.m : Int) := by omega
  have hjd : decide ((j : Int) < (x.m : Int)) = true := decide_eq_true hji
  have hj0 : (0 : Int) ≤ (j : Int) := by omega
  have hj0d : decide ((0 : Int) ≤ (j : Int)) = true := decide_eq_true hj0
  have hl : decide (lvN x.t (j : Int) < x.t.sl) = true := decide_eq_true hls
  have hs : ((atS x.t.sg j).a == 2) = true := by simpa using h2
  have HL0 : Hid (∀ V, x.At V → Calls Try.prog 21 #[.agg #[.slice x.P x.n x.c, .slice x.S x.m x.d, .int .i64 x.t.sl, .int .i64 x.t.nw], .int .i64 (j : Int)] V fun e w' => e = .returned (.int .i64 (lvN x.t (j : Int))) ∧ Mod (fun _ => False) V w') := fun V hV => by
    have := live_ok V x hV hn' hm' (j : Int)
    rw [liveI_in Hmay.out (by rw [Hsl.out]; exact hjl)] at this
    exact this
  have Hcs0 : Hid (∃ b o, x.S = some ⟨b, o, none⟩ ∧ ∀ w', Mod (fun _ => False) W w' → w'.cell? ⟨b, o + j * 3, none⟩ = some (.int .i64 (atS x.t.sg j).a)) := by
    obtain ⟨b, o, hS, hc⟩ := HX0.out.sg.cells (by omega)
    exact ⟨b, o, hS, fun w' hm' => ((hc j hjl).keep (hm'.block b (hc j hjl).lt id)).1⟩
  obtain ⟨b, o, hS, hcs⟩ := Hcs0.out
  have Hcs := Lib.hid hcs
  have HS := Lib.hid hS
  rw [hS] at HL0
  clear hS hcs Hcs0
  clear hf e1 hgj hall HF h2 hls
  generalize (atS x.t.sg j).a = s at *
  generalize lvN x.t (j : Int) = lv at *
  generalize gaN x.t j = Nj at *
  generalize gaD x.t j = Dj at *
  generalize gaN x.t g = Ng at *
  generalize gaD x.t g = Dg at *
  cases hgg : gnB x.t g with
  | false =>
    rw [hgg] at G2
    clear hgg HQ
    go_enter Try.func5, Try.ntmps5
    go_wp2_with fail
    refine (cawake_ok _).mono ?_
    rintro e w2 ⟨rfl, hm2⟩
    clear hw1
    have HB2 := Lib.hid (HB1.out.keep hm2)
    have HX2 := Lib.hid (HX1.out.keep hm2)
    have HM2 := Lib.hid (HM1.out.trans hm2 (fun _ _ h => h))
    clear hm2
    obtain ⟨c0, c1, c2, c3⟩ := HB2.out.cells
    go_wp2_with fail
    refine (clight_ok _ x).mono ?_
    rintro e w3 ⟨rfl, hm3⟩
    clear c0 c1 c2 c3
    have HB3 := Lib.hid (HB2.out.keep hm3)
    have HX3 := Lib.hid (HX2.out.keep hm3)
    have HM3 := Lib.hid (HM2.out.trans hm3 (fun _ _ h => h))
    clear hm3
    rw [hlt]
    obtain ⟨c0, c1, c2, c3⟩ := HB3.out.cells
    go_wp2_with fail
    refine (HMY.out _ HX3.out).mono ?_
    rintro e w4 ⟨rfl, hm4⟩
    clear c0 c1 c2 c3
    have HB4 := Lib.hid (HB3.out.keep hm4)
    have HX4 := Lib.hid (HX3.out.keep hm4)
    have HM4 := Lib.hid (HM3.out.trans hm4 (fun _ _ h => h))
    clear hm4
    obtain ⟨c0, c1, c2, c3⟩ := HB4.out.cells
    go_wp2_with fail
    refine (HV.out _ HX4.out).mono ?_
    rintro e w5 ⟨rfl, hm5⟩
    clear c0 c1 c2 c3
    have HB5 := Lib.hid (HB4.out.keep hm5)
    have HX5 := Lib.hid (HX4.out.keep hm5)
    have HM5 := Lib.hid (HM4.out.trans hm5 (fun _ _ h => h))
    clear hm5
    obtain ⟨c0, c1, c2, c3⟩ := HB5.out.cells
    go_wp2_with fail
    refine (G1.out _ HX5.out).mono ?_
    rintro e w6 ⟨rfl, hm6⟩
    clear c0 c1 c2 c3
    have HB6 := Lib.hid (HB5.out.keep hm6)
    have HX6 := Lib.hid (HX5.out.keep hm6)
    have HM6 := Lib.hid (HM5.out.trans hm6 (fun _ _ h => h))
    clear hm6
    obtain ⟨c0, c1, c2, c3⟩ := HB6.out.cells
    go_wp2_with fail
    refine (G2.out _ HX6.out).mono ?_
    rintro e w7 ⟨rfl, hm7⟩
    clear c0 c1 c2 c3
    have HB7 := Lib.hid (HB6.out.keep hm7)
    have HX7 := Lib.hid (HX6.out.keep hm7)
    have HM7 := Lib.hid (HM6.out.trans hm7 (fun _ _ h => h))
    clear hm7
    have M0 : Hid (Mod (fun _ => False) w7 w7.drew) := (Mod.refl _ w7).drew
    have HIg : Hid (∀ V, Mod (fun _ => False) w7 V → (fun V : World => (V.cell? ⟨W.heap.size, 0, none⟩ = some (.slice x.P x.n x.c) ∧ V.cell? ⟨W.heap.size, 1, none⟩ = some (.slice (some ⟨b, o, none⟩) x.m x.d) ∧ V.cell? ⟨W.heap.size, 2, none⟩ = some (.int .i64 x.t.sl) ∧ V.cell? ⟨W.heap.size, 3, none⟩ = some (.int .i64 x.t.nw)) ∧ V.cell? ⟨b, o + j * 3, none⟩ = some (.int .i64 s)) V) := fun V hV => ⟨by have := (HB7.out.keep hV).cells; rw [HS.out] at this; exact this, Hcs.out V (HM7.out.trans hV (fun _ _ h => h))⟩
    have HLV := Lib.hid (fun V (hV : Mod (fun _ => False) w7 V) => HL0.out V (HX7.out.keep hV))
    go_wp2_with fail
    refine wp_region_held (S := (fun V : World => (V.cell? ⟨W.heap.size, 0, none⟩ = some (.slice x.P x.n x.c) ∧ V.cell? ⟨W.heap.size, 1, none⟩ = some (.slice (some ⟨b, o, none⟩) x.m x.d) ∧ V.cell? ⟨W.heap.size, 2, none⟩ = some (.int .i64 x.t.sl) ∧ V.cell? ⟨W.heap.size, 3, none⟩ = some (.int .i64 x.t.nw)) ∧ V.cell? ⟨b, o + j * 3, none⟩ = some (.int .i64 s))) (by kernel_rfl) ?_
    have hI := (show (fun V : World => (V.cell? ⟨W.heap.size, 0, none⟩ = some (.slice x.P x.n x.c) ∧ V.cell? ⟨W.heap.size, 1, none⟩ = some (.slice (some ⟨b, o, none⟩) x.m x.d) ∧ V.cell? ⟨W.heap.size, 2, none⟩ = some (.int .i64 x.t.sl) ∧ V.cell? ⟨W.heap.size, 3, none⟩ = some (.int .i64 x.t.nw)) ∧ V.cell? ⟨b, o + j * 3, none⟩ = some (.int .i64 s)) _ from HIg.out _ M0.out)
    refine rg_take (n := 42) (v := ?_) 0 (some 76) rfl rfl (by kernel_rfl) (by kernel_rfl) (by kernel_rfl) (fun _ _ _ h => h) (by rfl) hI ?_ ?_
    rotate_left
    · ((intro w hSw; (try dsimp only at hSw); go_simp); (try with_reducible rfl))
    try simp only [Act.put, List.setIfInBounds_toArray, List.set_cons_zero, List.set_cons_succ]
    refine rg_take (n := 41) (v := ?_) 1 (some 77) rfl rfl (by kernel_rfl) (by kernel_rfl) (by kernel_rfl) (fun _ _ _ h => h) (by rfl) hI ?_ ?_
    rotate_left
    · ((intro w hSw; (try dsimp only at hSw); go_simp); (try with_reducible rfl))
    try simp only [Act.put, List.setIfInBounds_toArray, List.set_cons_zero, List.set_cons_succ]
    refine rg_take (n := 40) (v := ?_) 2 (some 78) rfl rfl (by kernel_rfl) (by kernel_rfl) (by kernel_rfl) (fun _ _ _ h => h) (by rfl) hI ?_ ?_
    rotate_left
    · ((intro w hSw; (try dsimp only at hSw); go_simp); (try with_reducible rfl))
    try simp only [Act.put, List.setIfInBounds_toArray, List.set_cons_zero, List.set_cons_succ]
    refine rg_take (n := 39) (v := ?_) 3 (some 79) rfl rfl (by kernel_rfl) (by kernel_rfl) (by kernel_rfl) (fun _ _ _ h => h) (by rfl) hI ?_ ?_
    rotate_left
    · ((intro w hSw; (try dsimp only at hSw); go_simp); (try with_reducible rfl))
    try simp only [Act.put, List.setIfInBounds_toArray, List.set_cons_zero, List.set_cons_succ]
    refine rg_take (n := 38) (v := ?_) 4 (some 80) rfl rfl (by kernel_rfl) (by kernel_rfl) (by kernel_rfl) (fun _ _ _ h => h) (by rfl) hI ?_ ?_
    rotate_left
    · ((intro w hSw; (try dsimp only at hSw); go_simp); (try with_reducible rfl))
    try simp only [Act.put, List.setIfInBounds_toArray, List.set_cons_zero, List.set_cons_succ]
    refine rg_take (n := 37) (v := ?_) 5 (some 81) rfl rfl (by kernel_rfl) (by kernel_rfl) (by kernel_rfl) (fun _ _ _ h => h) (by rfl) hI ?_ ?_
    rotate_left
    · ((intro w hSw; (try dsimp only at hSw); go_simp); (try with_reducible rfl))
    try simp only [Act.put, List.setIfInBounds_toArray, List.set_cons_zero, List.set_cons_succ]
    refine rg_take (n := 36) (v := ?_) 6 (some 82) rfl rfl (by kernel_rfl) (by kernel_rfl) (by kernel_rfl) (fun _ _ _ h => h) (by rfl) hI ?_ ?_
    rotate_left
    · ((intro w hSw; (try dsimp only at hSw); go_simp); (try with_reducible rfl))
    try simp only [Act.put, List.setIfInBounds_toArray, List.set_cons_zero, List.set_cons_succ]
    refine rg_take (n := 35) (v := ?_) 7 (some 83) rfl rfl (by kernel_rfl) (by kernel_rfl) (by kernel_rfl) (fun _ _ _ h => h) (by rfl) hI ?_ ?_
    rotate_left
    · ((intro w hSw; (try dsimp only at hSw); go_simp); (try with_reducible rfl))
    try simp only [Act.put, List.setIfInBounds_toArray, List.set_cons_zero, List.set_cons_succ]
    refine rg_take (n := 34) (v := ?_) 8 (some 84) rfl rfl (by kernel_rfl) (by kernel_rfl) (by kernel_rfl) (fun _ _ _ h => h) (by rfl) hI ?_ ?_
    rotate_left
    · ((intro w hSw; (try dsimp only at hSw); go_simp); (try with_reducible rfl))
    try simp only [Act.put, List.setIfInBounds_toArray, List.set_cons_zero, List.set_cons_succ]
    refine rg_take (n := 33) (v := ?_) 9 (some 85) rfl rfl (by kernel_rfl) (by kernel_rfl) (by kernel_rfl) (fun _ _ _ h => h) (by rfl) hI ?_ ?_
    rotate_left
    · ((intro w hSw; (try dsimp only at hSw); go_simp); (try with_reducible rfl))
    try simp only [Act.put, List.setIfInBounds_toArray, List.set_cons_zero, List.set_cons_succ]
    refine rg_take (n := 32) (v := ?_) 10 (some 86) rfl rfl (by kernel_rfl) (by kernel_rfl) (by kernel_rfl) (fun _ _ _ h => h) (by rfl) hI ?_ ?_
    rotate_left
    · ((intro w hSw; (try dsimp only at hSw); go_simp); (try with_reducible rfl))
    try simp only [Act.put, List.setIfInBounds_toArray, List.set_cons_zero, List.set_cons_succ]
    refine rg_take (n := 31) (v := ?_) 11 (some 87) rfl rfl (by kernel_rfl) (by kernel_rfl) (by kernel_rfl) (fun _ _ _ h => h) (by rfl) hI ?_ ?_
    rotate_left
    · ((intro w hSw; (try dsimp only at hSw); go_simp); (try with_reducible rfl))
    try simp only [Act.put, List.setIfInBounds_toArray, List.set_cons_zero, List.set_cons_succ]
    refine rg_take (n := 30) (v := ?_) 12 (some 88) rfl rfl (by kernel_rfl) (by kernel_rfl) (by kernel_rfl) (fun _ _ _ h => h) (by rfl) hI ?_ ?_
    rotate_left
    · ((intro w hSw; (try dsimp only at hSw); go_simp); (try with_reducible rfl))
    try simp only [Act.put, List.setIfInBounds_toArray, List.set_cons_zero, List.set_cons_succ]
    refine rg_take (n := 29) (v := ?_) 13 (some 89) rfl rfl (by kernel_rfl) (by kernel_rfl) (by kernel_rfl) (fun _ _ _ h => h) (by rfl) hI ?_ ?_
    rotate_left
    · ((intro w hSw; (try dsimp only at hSw); go_simp); (try with_reducible rfl))
    try simp only [Act.put, List.setIfInBounds_toArray, List.set_cons_zero, List.set_cons_succ]
    refine rg_take (n := 28) (v := ?_) 14 (some 90) rfl rfl (by kernel_rfl) (by kernel_rfl) (by kernel_rfl) (fun _ _ _ h => h) (by rfl) hI ?_ ?_
    rotate_left
    · ((intro w hSw; (try dsimp only at hSw); go_simp); (try with_reducible rfl))
    try simp only [Act.put, List.setIfInBounds_toArray, List.set_cons_zero, List.set_cons_succ]
    refine rg_take (n := 27) (v := ?_) 15 (some 91) rfl rfl (by kernel_rfl) (by kernel_rfl) (by kernel_rfl) (fun _ _ _ h => h) (by rfl) hI ?_ ?_
    rotate_left
    · ((intro w hSw; (try dsimp only at hSw); go_simp); (try with_reducible rfl))
    try simp only [Act.put, List.setIfInBounds_toArray, List.set_cons_zero, List.set_cons_succ]
    refine rg_take (n := 26) (v := ?_) 16 (some 92) rfl rfl (by kernel_rfl) (by kernel_rfl) (by kernel_rfl) (fun _ _ _ h => h) (by rfl) hI ?_ ?_
    rotate_left
    · ((intro w hSw; (try dsimp only at hSw); go_simp); (try with_reducible rfl))
    try simp only [Act.put, List.setIfInBounds_toArray, List.set_cons_zero, List.set_cons_succ]
    refine rg_take (n := 25) (v := ?_) 17 (some 93) rfl rfl (by kernel_rfl) (by kernel_rfl) (by kernel_rfl) (fun _ _ _ h => h) (by rfl) hI ?_ ?_
    rotate_left
    · ((intro w hSw; (try dsimp only at hSw); go_simp); (try with_reducible rfl))
    try simp only [Act.put, List.setIfInBounds_toArray, List.set_cons_zero, List.set_cons_succ]
    refine rg_take (n := 24) (v := ?_) 18 (some 94) rfl rfl (by kernel_rfl) (by kernel_rfl) (by kernel_rfl) (fun _ _ _ h => h) (by rfl) hI ?_ ?_
    rotate_left
    · ((intro w hSw; (try dsimp only at hSw); go_simp); (try with_reducible rfl))
    try simp only [Act.put, List.setIfInBounds_toArray, List.set_cons_zero, List.set_cons_succ]
    refine rg_take (n := 23) (v := ?_) 19 (some 95) rfl rfl (by kernel_rfl) (by kernel_rfl) (by kernel_rfl) (fun _ _ _ h => h) (by rfl) hI ?_ ?_
    rotate_left
    · ((intro w hSw; (try dsimp only at hSw); go_simp); (try with_reducible rfl))
    try simp only [Act.put, List.setIfInBounds_toArray, List.set_cons_zero, List.set_cons_succ]
    refine rg_take (n := 22) (v := ?_) 20 (some 96) rfl rfl (by kernel_rfl) (by kernel_rfl) (by kernel_rfl) (fun _ _ _ h => h) (by rfl) hI ?_ ?_
    rotate_left
    · ((intro w hSw; (try dsimp only at hSw); go_simp); (try with_reducible rfl))
    try simp only [Act.put, List.setIfInBounds_toArray, List.set_cons_zero, List.set_cons_succ]
    refine rg_take (n := 21) (v := ?_) 21 (some 97) rfl rfl (by kernel_rfl) (by kernel_rfl) (by kernel_rfl) (fun _ _ _ h => h) (by rfl) hI ?_ ?_
    rotate_left
    · ((intro w hSw; (try dsimp only at hSw); go_simp); (try with_reducible rfl))
    try simp only [Act.put, List.setIfInBounds_toArray, List.set_cons_zero, List.set_cons_succ]
    refine rg_take (n := 20) (v := ?_) 22 (some 98) rfl rfl (by kernel_rfl) (by kernel_rfl) (by kernel_rfl) (fun _ _ _ h => h) (by rfl) hI ?_ ?_
    rotate_left
    · ((intro w hSw; (try dsimp only at hSw); go_simp); (try with_reducible rfl))
    try simp only [Act.put, List.setIfInBounds_toArray, List.set_cons_zero, List.set_cons_succ]
    refine rg_take (n := 19) (v := ?_) 23 (some 99) rfl rfl (by kernel_rfl) (by kernel_rfl) (by kernel_rfl) (fun _ _ _ h => h) (by rfl) hI ?_ ?_
    rotate_left
    · ((intro w hSw; (try dsimp only at hSw); go_simp); (try with_reducible rfl))
    try simp only [Act.put, List.setIfInBounds_toArray, List.set_cons_zero, List.set_cons_succ]
    refine rg_take (n := 18) (v := ?_) 25 (some 101) rfl rfl (by kernel_rfl) (by kernel_rfl) (by kernel_rfl) (fun _ _ _ h => h) (by rfl) hI ?_ ?_
    rotate_left
    · ((intro w hSw; (try dsimp only at hSw); go_simp); (try with_reducible rfl))
    try simp only [Act.put, List.setIfInBounds_toArray, List.set_cons_zero, List.set_cons_succ]
    refine rg_take (n := 17) (v := ?_) 26 (some 102) rfl rfl (by kernel_rfl) (by kernel_rfl) (by kernel_rfl) (fun _ _ _ h => h) (by rfl) hI ?_ ?_
    rotate_left
    · ((intro w hSw; (try dsimp only at hSw); go_simp); (try with_reducible rfl))
    try simp only [Act.put, List.setIfInBounds_toArray, List.set_cons_zero, List.set_cons_succ]
    refine rg_one (n := 16) 24 rfl (by kernel_rfl) (by rfl) ?_
    go_simp
    go_at_call 21
    refine (HLV.out _ M0.out).mono ?_
    rintro e u1 ⟨rfl, hml⟩
    have Mu1 := Lib.hid (M0.out.trans hml (fun _ _ h => h))
    clear hml
    clear hI
    have hI := (show (fun V : World => (V.cell? ⟨W.heap.size, 0, none⟩ = some (.slice x.P x.n x.c) ∧ V.cell? ⟨W.heap.size, 1, none⟩ = some (.slice (some ⟨b, o, none⟩) x.m x.d) ∧ V.cell? ⟨W.heap.size, 2, none⟩ = some (.int .i64 x.t.sl) ∧ V.cell? ⟨W.heap.size, 3, none⟩ = some (.int .i64 x.t.nw)) ∧ V.cell? ⟨b, o + j * 3, none⟩ = some (.int .i64 s)) _ from HIg.out _ Mu1.out)
    refine ⟨hI, ?_⟩
    try simp only [Act.put, List.setIfInBounds_toArray, List.set_cons_zero, List.set_cons_succ]
    refine rg_take (n := 15) (v := ?_) 27 (some 103) rfl rfl (by kernel_rfl) (by kernel_rfl) (by kernel_rfl) (fun _ _ _ h => h) (by rfl) hI ?_ ?_
    rotate_left
    · ((intro w hSw; (try dsimp only at hSw); go_simp); (try with_reducible rfl))
    try simp only [Act.put, List.setIfInBounds_toArray, List.set_cons_zero, List.set_cons_succ]
    refine rg_take (n := 14) (v := ?_) 28 (some 104) rfl rfl (by kernel_rfl) (by kernel_rfl) (by kernel_rfl) (fun _ _ _ h => h) (by rfl) hI ?_ ?_
    rotate_left
    · ((intro w hSw; (try dsimp only at hSw); go_simp); (try with_reducible rfl))
    try simp only [Act.put, List.setIfInBounds_toArray, List.set_cons_zero, List.set_cons_succ]
    refine rg_take (n := 13) (v := ?_) 29 (some 105) rfl rfl (by kernel_rfl) (by kernel_rfl) (by kernel_rfl) (fun _ _ _ h => h) (by rfl) hI ?_ ?_
    rotate_left
    · ((intro w hSw; (try dsimp only at hSw); go_simp); (try with_reducible rfl))
    try simp only [Act.put, List.setIfInBounds_toArray, List.set_cons_zero, List.set_cons_succ]
    refine rg_take (n := 12) (v := ?_) 30 (some 106) rfl rfl (by kernel_rfl) (by kernel_rfl) (by kernel_rfl) (fun _ _ _ h => h) (by rfl) hI ?_ ?_
    rotate_left
    · ((intro w hSw; (try dsimp only at hSw); go_simp); (try with_reducible rfl))
    try simp only [Act.put, List.setIfInBounds_toArray, List.set_cons_zero, List.set_cons_succ]
    refine rg_take (n := 11) (v := ?_) 31 (some 107) rfl rfl (by kernel_rfl) (by kernel_rfl) (by kernel_rfl) (fun _ _ _ h => h) (by rfl) hI ?_ ?_
    rotate_left
    · ((intro w hSw; (try dsimp only at hSw); go_simp); (try with_reducible rfl))
    try simp only [Act.put, List.setIfInBounds_toArray, List.set_cons_zero, List.set_cons_succ]
    refine rg_take (n := 10) (v := ?_) 32 (some 108) rfl rfl (by kernel_rfl) (by kernel_rfl) (by kernel_rfl) (fun _ _ _ h => h) (by rfl) hI ?_ ?_
    rotate_left
    · ((intro w hSw; (try dsimp only at hSw); go_simp); (try with_reducible rfl))
    try simp only [Act.put, List.setIfInBounds_toArray, List.set_cons_zero, List.set_cons_succ]
    refine rg_skip (n := 9) 33 (some 109) rfl rfl (by kernel_rfl) (by kernel_rfl) (by kernel_rfl) (fun _ _ _ h => h) (by rfl) hI ?_
    try simp only [Act.put, List.setIfInBounds_toArray, List.set_cons_zero, List.set_cons_succ]
    refine rg_skip (n := 8) 34 (some 110) rfl rfl (by kernel_rfl) (by kernel_rfl) (by kernel_rfl) (fun _ _ _ h => h) (by rfl) hI ?_
    try simp only [Act.put, List.setIfInBounds_toArray, List.set_cons_zero, List.set_cons_succ]
    refine rg_skip (n := 7) 35 (some 111) rfl rfl (by kernel_rfl) (by kernel_rfl) (by kernel_rfl) (fun _ _ _ h => h) (by rfl) hI ?_
    try simp only [Act.put, List.setIfInBounds_toArray, List.set_cons_zero, List.set_cons_succ]
    refine rg_skip (n := 6) 36 (some 112) rfl rfl (by kernel_rfl) (by kernel_rfl) (by kernel_rfl) (fun _ _ _ h => h) (by rfl) hI ?_
    try simp only [Act.put, List.setIfInBounds_toArray, List.set_cons_zero, List.set_cons_succ]
    refine rg_skip (n := 5) 37 (some 113) rfl rfl (by kernel_rfl) (by kernel_rfl) (by kernel_rfl) (fun _ _ _ h => h) (by rfl) hI ?_
    try simp only [Act.put, List.setIfInBounds_toArray, List.set_cons_zero, List.set_cons_succ]
    refine rg_skip (n := 4) 38 (some 114) rfl rfl (by kernel_rfl) (by kernel_rfl) (by kernel_rfl) (fun _ _ _ h => h) (by rfl) hI ?_
    try simp only [Act.put, List.setIfInBounds_toArray, List.set_cons_zero, List.set_cons_succ]
    refine rg_skip (n := 3) 39 (some 115) rfl rfl (by kernel_rfl) (by kernel_rfl) (by kernel_rfl) (fun _ _ _ h => h) (by rfl) hI ?_
    try simp only [Act.put, List.setIfInBounds_toArray, List.set_cons_zero, List.set_cons_succ]
    refine rg_take (n := 2) (v := ?_) 40 (some 116) rfl rfl (by kernel_rfl) (by kernel_rfl) (by kernel_rfl) (fun _ _ _ h => h) (by rfl) hI ?_ ?_
    rotate_left
    · ((intro w hSw; (try dsimp only at hSw); go_simp); (try with_reducible rfl))
    try simp only [Act.put, List.setIfInBounds_toArray, List.set_cons_zero, List.set_cons_succ]
    refine rg_take (n := 1) (v := ?_) 41 (some 117) rfl rfl (by kernel_rfl) (by kernel_rfl) (by kernel_rfl) (fun _ _ _ h => h) (by rfl) hI ?_ ?_
    rotate_left
    · ((intro w hSw; (try dsimp only at hSw); go_simp); (try with_reducible rfl))
    try simp only [Act.put, List.setIfInBounds_toArray, List.set_cons_zero, List.set_cons_succ]
    refine rg_take (n := 0) (v := ?_) 42 (some 4) rfl rfl (by kernel_rfl) (by kernel_rfl) (by kernel_rfl) (fun _ _ _ h => h) (by rfl) hI ?_ ?_
    rotate_left
    · ((intro w hSw; (try dsimp only at hSw); go_simp); (try with_reducible rfl))
    try simp only [Act.put, List.setIfInBounds_toArray, List.set_cons_zero, List.set_cons_succ]
    refine wpAnyH_done (by kernel_rfl) ?_ _
    clear hI
    go_wp2
    go_ret
    exact ⟨rfl, (HM7.out.trans Mu1.out (fun _ _ h => h)).below (Nat.le_refl _) (fun _ _ => id)⟩
  | true =>
    have hq : decide (Ng * Dj ≤ Nj * Dg) = true := decide_eq_true (HQ.out hgg)
    rw [hgg] at G2
    clear hgg HQ
    go_enter Try.func5, Try.ntmps5
    go_wp2_with fail
    refine (cawake_ok _).mono ?_
    rintro e w2 ⟨rfl, hm2⟩
    clear hw1
    have HB2 := Lib.hid (HB1.out.keep hm2)
    have HX2 := Lib.hid (HX1.out.keep hm2)
    have HM2 := Lib.hid (HM1.out.trans hm2 (fun _ _ h => h))
    clear hm2
    obtain ⟨c0, c1, c2, c3⟩ := HB2.out.cells
    go_wp2_with fail
    refine (clight_ok _ x).mono ?_
    rintro e w3 ⟨rfl, hm3⟩
    clear c0 c1 c2 c3
    have HB3 := Lib.hid (HB2.out.keep hm3)
    have HX3 := Lib.hid (HX2.out.keep hm3)
    have HM3 := Lib.hid (HM2.out.trans hm3 (fun _ _ h => h))
    clear hm3
    rw [hlt]
    obtain ⟨c0, c1, c2, c3⟩ := HB3.out.cells
    go_wp2_with fail
    refine (HMY.out _ HX3.out).mono ?_
    rintro e w4 ⟨rfl, hm4⟩
    clear c0 c1 c2 c3
    have HB4 := Lib.hid (HB3.out.keep hm4)
    have HX4 := Lib.hid (HX3.out.keep hm4)
    have HM4 := Lib.hid (HM3.out.trans hm4 (fun _ _ h => h))
    clear hm4
    obtain ⟨c0, c1, c2, c3⟩ := HB4.out.cells
    go_wp2_with fail
    refine (HV.out _ HX4.out).mono ?_
    rintro e w5 ⟨rfl, hm5⟩
    clear c0 c1 c2 c3
    have HB5 := Lib.hid (HB4.out.keep hm5)
    have HX5 := Lib.hid (HX4.out.keep hm5)
    have HM5 := Lib.hid (HM4.out.trans hm5 (fun _ _ h => h))
    clear hm5
    obtain ⟨c0, c1, c2, c3⟩ := HB5.out.cells
    go_wp2_with fail
    refine (G1.out _ HX5.out).mono ?_
    rintro e w6 ⟨rfl, hm6⟩
    clear c0 c1 c2 c3
    have HB6 := Lib.hid (HB5.out.keep hm6)
    have HX6 := Lib.hid (HX5.out.keep hm6)
    have HM6 := Lib.hid (HM5.out.trans hm6 (fun _ _ h => h))
    clear hm6
    obtain ⟨c0, c1, c2, c3⟩ := HB6.out.cells
    go_wp2_with fail
    refine (G2.out _ HX6.out).mono ?_
    rintro e w7 ⟨rfl, hm7⟩
    clear c0 c1 c2 c3
    have HB7 := Lib.hid (HB6.out.keep hm7)
    have HX7 := Lib.hid (HX6.out.keep hm7)
    have HM7 := Lib.hid (HM6.out.trans hm7 (fun _ _ h => h))
    clear hm7
    have M0 : Hid (Mod (fun _ => False) w7 w7.drew) := (Mod.refl _ w7).drew
    have HIg : Hid (∀ V, Mod (fun _ => False) w7 V → (fun V : World => (V.cell? ⟨W.heap.size, 0, none⟩ = some (.slice x.P x.n x.c) ∧ V.cell? ⟨W.heap.size, 1, none⟩ = some (.slice (some ⟨b, o, none⟩) x.m x.d) ∧ V.cell? ⟨W.heap.size, 2, none⟩ = some (.int .i64 x.t.sl) ∧ V.cell? ⟨W.heap.size, 3, none⟩ = some (.int .i64 x.t.nw)) ∧ V.cell? ⟨b, o + j * 3, none⟩ = some (.int .i64 s)) V) := fun V hV => ⟨by have := (HB7.out.keep hV).cells; rw [HS.out] at this; exact this, Hcs.out V (HM7.out.trans hV (fun _ _ h => h))⟩
    have HLV := Lib.hid (fun V (hV : Mod (fun _ => False) w7 V) => HL0.out V (HX7.out.keep hV))
    go_wp2_with fail
    refine wp_region_held (S := (fun V : World => (V.cell? ⟨W.heap.size, 0, none⟩ = some (.slice x.P x.n x.c) ∧ V.cell? ⟨W.heap.size, 1, none⟩ = some (.slice (some ⟨b, o, none⟩) x.m x.d) ∧ V.cell? ⟨W.heap.size, 2, none⟩ = some (.int .i64 x.t.sl) ∧ V.cell? ⟨W.heap.size, 3, none⟩ = some (.int .i64 x.t.nw)) ∧ V.cell? ⟨b, o + j * 3, none⟩ = some (.int .i64 s))) (by kernel_rfl) ?_
    have hI := (show (fun V : World => (V.cell? ⟨W.heap.size, 0, none⟩ = some (.slice x.P x.n x.c) ∧ V.cell? ⟨W.heap.size, 1, none⟩ = some (.slice (some ⟨b, o, none⟩) x.m x.d) ∧ V.cell? ⟨W.heap.size, 2, none⟩ = some (.int .i64 x.t.sl) ∧ V.cell? ⟨W.heap.size, 3, none⟩ = some (.int .i64 x.t.nw)) ∧ V.cell? ⟨b, o + j * 3, none⟩ = some (.int .i64 s)) _ from HIg.out _ M0.out)
    refine rg_take (n := 42) (v := ?_) 0 (some 76) rfl rfl (by kernel_rfl) (by kernel_rfl) (by kernel_rfl) (fun _ _ _ h => h) (by rfl) hI ?_ ?_
    rotate_left
    · ((intro w hSw; (try dsimp only at hSw); go_simp); (try with_reducible rfl))
    try simp only [Act.put, List.setIfInBounds_toArray, List.set_cons_zero, List.set_cons_succ]
    refine rg_take (n := 41) (v := ?_) 1 (some 77) rfl rfl (by kernel_rfl) (by kernel_rfl) (by kernel_rfl) (fun _ _ _ h => h) (by rfl) hI ?_ ?_
    rotate_left
    · ((intro w hSw; (try dsimp only at hSw); go_simp); (try with_reducible rfl))
    try simp only [Act.put, List.setIfInBounds_toArray, List.set_cons_zero, List.set_cons_succ]
    refine rg_take (n := 40) (v := ?_) 2 (some 78) rfl rfl (by kernel_rfl) (by kernel_rfl) (by kernel_rfl) (fun _ _ _ h => h) (by rfl) hI ?_ ?_
    rotate_left
    · ((intro w hSw; (try dsimp only at hSw); go_simp); (try with_reducible rfl))
    try simp only [Act.put, List.setIfInBounds_toArray, List.set_cons_zero, List.set_cons_succ]
    refine rg_take (n := 39) (v := ?_) 3 (some 79) rfl rfl (by kernel_rfl) (by kernel_rfl) (by kernel_rfl) (fun _ _ _ h => h) (by rfl) hI ?_ ?_
    rotate_left
    · ((intro w hSw; (try dsimp only at hSw); go_simp); (try with_reducible rfl))
    try simp only [Act.put, List.setIfInBounds_toArray, List.set_cons_zero, List.set_cons_succ]
    refine rg_take (n := 38) (v := ?_) 4 (some 80) rfl rfl (by kernel_rfl) (by kernel_rfl) (by kernel_rfl) (fun _ _ _ h => h) (by rfl) hI ?_ ?_
    rotate_left
    · ((intro w hSw; (try dsimp only at hSw); go_simp); (try with_reducible rfl))
    try simp only [Act.put, List.setIfInBounds_toArray, List.set_cons_zero, List.set_cons_succ]
    refine rg_take (n := 37) (v := ?_) 5 (some 81) rfl rfl (by kernel_rfl) (by kernel_rfl) (by kernel_rfl) (fun _ _ _ h => h) (by rfl) hI ?_ ?_
    rotate_left
    · ((intro w hSw; (try dsimp only at hSw); go_simp); (try with_reducible rfl))
    try simp only [Act.put, List.setIfInBounds_toArray, List.set_cons_zero, List.set_cons_succ]
    refine rg_take (n := 36) (v := ?_) 6 (some 82) rfl rfl (by kernel_rfl) (by kernel_rfl) (by kernel_rfl) (fun _ _ _ h => h) (by rfl) hI ?_ ?_
    rotate_left
    · ((intro w hSw; (try dsimp only at hSw); go_simp); (try with_reducible rfl))
    try simp only [Act.put, List.setIfInBounds_toArray, List.set_cons_zero, List.set_cons_succ]
    refine rg_take (n := 35) (v := ?_) 7 (some 83) rfl rfl (by kernel_rfl) (by kernel_rfl) (by kernel_rfl) (fun _ _ _ h => h) (by rfl) hI ?_ ?_
    rotate_left
    · ((intro w hSw; (try dsimp only at hSw); go_simp); (try with_reducible rfl))
    try simp only [Act.put, List.setIfInBounds_toArray, List.set_cons_zero, List.set_cons_succ]
    refine rg_take (n := 34) (v := ?_) 8 (some 84) rfl rfl (by kernel_rfl) (by kernel_rfl) (by kernel_rfl) (fun _ _ _ h => h) (by rfl) hI ?_ ?_
    rotate_left
    · ((intro w hSw; (try dsimp only at hSw); go_simp); (try with_reducible rfl))
    try simp only [Act.put, List.setIfInBounds_toArray, List.set_cons_zero, List.set_cons_succ]
    refine rg_take (n := 33) (v := ?_) 9 (some 85) rfl rfl (by kernel_rfl) (by kernel_rfl) (by kernel_rfl) (fun _ _ _ h => h) (by rfl) hI ?_ ?_
    rotate_left
    · ((intro w hSw; (try dsimp only at hSw); go_simp); (try with_reducible rfl))
    try simp only [Act.put, List.setIfInBounds_toArray, List.set_cons_zero, List.set_cons_succ]
    refine rg_take (n := 32) (v := ?_) 10 (some 86) rfl rfl (by kernel_rfl) (by kernel_rfl) (by kernel_rfl) (fun _ _ _ h => h) (by rfl) hI ?_ ?_
    rotate_left
    · ((intro w hSw; (try dsimp only at hSw); go_simp); (try with_reducible rfl))
    try simp only [Act.put, List.setIfInBounds_toArray, List.set_cons_zero, List.set_cons_succ]
    refine rg_take (n := 31) (v := ?_) 11 (some 87) rfl rfl (by kernel_rfl) (by kernel_rfl) (by kernel_rfl) (fun _ _ _ h => h) (by rfl) hI ?_ ?_
    rotate_left
    · ((intro w hSw; (try dsimp only at hSw); go_simp); (try with_reducible rfl))
    try simp only [Act.put, List.setIfInBounds_toArray, List.set_cons_zero, List.set_cons_succ]
    refine rg_take (n := 30) (v := ?_) 12 (some 88) rfl rfl (by kernel_rfl) (by kernel_rfl) (by kernel_rfl) (fun _ _ _ h => h) (by rfl) hI ?_ ?_
    rotate_left
    · ((intro w hSw; (try dsimp only at hSw); go_simp); (try with_reducible rfl))
    try simp only [Act.put, List.setIfInBounds_toArray, List.set_cons_zero, List.set_cons_succ]
    refine rg_take (n := 29) (v := ?_) 13 (some 89) rfl rfl (by kernel_rfl) (by kernel_rfl) (by kernel_rfl) (fun _ _ _ h => h) (by rfl) hI ?_ ?_
    rotate_left
    · ((intro w hSw; (try dsimp only at hSw); go_simp); (try with_reducible rfl))
    try simp only [Act.put, List.setIfInBounds_toArray, List.set_cons_zero, List.set_cons_succ]
    refine rg_take (n := 28) (v := ?_) 14 (some 90) rfl rfl (by kernel_rfl) (by kernel_rfl) (by kernel_rfl) (fun _ _ _ h => h) (by rfl) hI ?_ ?_
    rotate_left
    · ((intro w hSw; (try dsimp only at hSw); go_simp); (try with_reducible rfl))
    try simp only [Act.put, List.setIfInBounds_toArray, List.set_cons_zero, List.set_cons_succ]
    refine rg_take (n := 27) (v := ?_) 15 (some 91) rfl rfl (by kernel_rfl) (by kernel_rfl) (by kernel_rfl) (fun _ _ _ h => h) (by rfl) hI ?_ ?_
    rotate_left
    · ((intro w hSw; (try dsimp only at hSw); go_simp); (try with_reducible rfl))
    try simp only [Act.put, List.setIfInBounds_toArray, List.set_cons_zero, List.set_cons_succ]
    refine rg_take (n := 26) (v := ?_) 16 (some 92) rfl rfl (by kernel_rfl) (by kernel_rfl) (by kernel_rfl) (fun _ _ _ h => h) (by rfl) hI ?_ ?_
    rotate_left
    · ((intro w hSw; (try dsimp only at hSw); go_simp); (try with_reducible rfl))
    try simp only [Act.put, List.setIfInBounds_toArray, List.set_cons_zero, List.set_cons_succ]
    refine rg_take (n := 25) (v := ?_) 17 (some 93) rfl rfl (by kernel_rfl) (by kernel_rfl) (by kernel_rfl) (fun _ _ _ h => h) (by rfl) hI ?_ ?_
    rotate_left
    · ((intro w hSw; (try dsimp only at hSw); go_simp); (try with_reducible rfl))
    try simp only [Act.put, List.setIfInBounds_toArray, List.set_cons_zero, List.set_cons_succ]
    refine rg_take (n := 24) (v := ?_) 18 (some 94) rfl rfl (by kernel_rfl) (by kernel_rfl) (by kernel_rfl) (fun _ _ _ h => h) (by rfl) hI ?_ ?_
    rotate_left
    · ((intro w hSw; (try dsimp only at hSw); go_simp); (try with_reducible rfl))
    try simp only [Act.put, List.setIfInBounds_toArray, List.set_cons_zero, List.set_cons_succ]
    refine rg_take (n := 23) (v := ?_) 19 (some 95) rfl rfl (by kernel_rfl) (by kernel_rfl) (by kernel_rfl) (fun _ _ _ h => h) (by rfl) hI ?_ ?_
    rotate_left
    · ((intro w hSw; (try dsimp only at hSw); go_simp); (try with_reducible rfl))
    try simp only [Act.put, List.setIfInBounds_toArray, List.set_cons_zero, List.set_cons_succ]
    refine rg_take (n := 22) (v := ?_) 20 (some 96) rfl rfl (by kernel_rfl) (by kernel_rfl) (by kernel_rfl) (fun _ _ _ h => h) (by rfl) hI ?_ ?_
    rotate_left
    · ((intro w hSw; (try dsimp only at hSw); go_simp); (try with_reducible rfl))
    try simp only [Act.put, List.setIfInBounds_toArray, List.set_cons_zero, List.set_cons_succ]
    refine rg_take (n := 21) (v := ?_) 21 (some 97) rfl rfl (by kernel_rfl) (by kernel_rfl) (by kernel_rfl) (fun _ _ _ h => h) (by rfl) hI ?_ ?_
    rotate_left
    · ((intro w hSw; (try dsimp only at hSw); go_simp); (try with_reducible rfl))
    try simp only [Act.put, List.setIfInBounds_toArray, List.set_cons_zero, List.set_cons_succ]
    refine rg_take (n := 20) (v := ?_) 22 (some 98) rfl rfl (by kernel_rfl) (by kernel_rfl) (by kernel_rfl) (fun _ _ _ h => h) (by rfl) hI ?_ ?_
    rotate_left
    · ((intro w hSw; (try dsimp only at hSw); go_simp); (try with_reducible rfl))
    try simp only [Act.put, List.setIfInBounds_toArray, List.set_cons_zero, List.set_cons_succ]
    refine rg_take (n := 19) (v := ?_) 23 (some 99) rfl rfl (by kernel_rfl) (by kernel_rfl) (by kernel_rfl) (fun _ _ _ h => h) (by rfl) hI ?_ ?_
    rotate_left
    · ((intro w hSw; (try dsimp only at hSw); go_simp); (try with_reducible rfl))
    try simp only [Act.put, List.setIfInBounds_toArray, List.set_cons_zero, List.set_cons_succ]
    refine rg_take (n := 18) (v := ?_) 25 (some 101) rfl rfl (by kernel_rfl) (by kernel_rfl) (by kernel_rfl) (fun _ _ _ h => h) (by rfl) hI ?_ ?_
    rotate_left
    · ((intro w hSw; (try dsimp only at hSw); go_simp); (try with_reducible rfl))
    try simp only [Act.put, List.setIfInBounds_toArray, List.set_cons_zero, List.set_cons_succ]
    refine rg_take (n := 17) (v := ?_) 26 (some 102) rfl rfl (by kernel_rfl) (by kernel_rfl) (by kernel_rfl) (fun _ _ _ h => h) (by rfl) hI ?_ ?_
    rotate_left
    · ((intro w hSw; (try dsimp only at hSw); go_simp); (try with_reducible rfl))
    try simp only [Act.put, List.setIfInBounds_toArray, List.set_cons_zero, List.set_cons_succ]
    refine rg_one (n := 16) 24 rfl (by kernel_rfl) (by rfl) ?_
    go_simp
    go_at_call 21
    refine (HLV.out _ M0.out).mono ?_
    rintro e u1 ⟨rfl, hml⟩
    have Mu1 := Lib.hid (M0.out.trans hml (fun _ _ h => h))
    clear hml
    clear hI
    have hI := (show (fun V : World => (V.cell? ⟨W.heap.size, 0, none⟩ = some (.slice x.P x.n x.c) ∧ V.cell? ⟨W.heap.size, 1, none⟩ = some (.slice (some ⟨b, o, none⟩) x.m x.d) ∧ V.cell? ⟨W.heap.size, 2, none⟩ = some (.int .i64 x.t.sl) ∧ V.cell? ⟨W.heap.size, 3, none⟩ = some (.int .i64 x.t.nw)) ∧ V.cell? ⟨b, o + j * 3, none⟩ = some (.int .i64 s)) _ from HIg.out _ Mu1.out)
    refine ⟨hI, ?_⟩
    try simp only [Act.put, List.setIfInBounds_toArray, List.set_cons_zero, List.set_cons_succ]
    refine rg_take (n := 15) (v := ?_) 27 (some 103) rfl rfl (by kernel_rfl) (by kernel_rfl) (by kernel_rfl) (fun _ _ _ h => h) (by rfl) hI ?_ ?_
    rotate_left
    · ((intro w hSw; (try dsimp only at hSw); go_simp); (try with_reducible rfl))
    try simp only [Act.put, List.setIfInBounds_toArray, List.set_cons_zero, List.set_cons_succ]
    refine rg_take (n := 14) (v := ?_) 28 (some 104) rfl rfl (by kernel_rfl) (by kernel_rfl) (by kernel_rfl) (fun _ _ _ h => h) (by rfl) hI ?_ ?_
    rotate_left
    · ((intro w hSw; (try dsimp only at hSw); go_simp); (try with_reducible rfl))
    try simp only [Act.put, List.setIfInBounds_toArray, List.set_cons_zero, List.set_cons_succ]
    refine rg_take (n := 13) (v := ?_) 29 (some 105) rfl rfl (by kernel_rfl) (by kernel_rfl) (by kernel_rfl) (fun _ _ _ h => h) (by rfl) hI ?_ ?_
    rotate_left
    · ((intro w hSw; (try dsimp only at hSw); go_simp); (try with_reducible rfl))
    try simp only [Act.put, List.setIfInBounds_toArray, List.set_cons_zero, List.set_cons_succ]
    refine rg_take (n := 12) (v := ?_) 30 (some 106) rfl rfl (by kernel_rfl) (by kernel_rfl) (by kernel_rfl) (fun _ _ _ h => h) (by rfl) hI ?_ ?_
    rotate_left
    · ((intro w hSw; (try dsimp only at hSw); go_simp); (try with_reducible rfl))
    try simp only [Act.put, List.setIfInBounds_toArray, List.set_cons_zero, List.set_cons_succ]
    refine rg_take (n := 11) (v := ?_) 31 (some 107) rfl rfl (by kernel_rfl) (by kernel_rfl) (by kernel_rfl) (fun _ _ _ h => h) (by rfl) hI ?_ ?_
    rotate_left
    · ((intro w hSw; (try dsimp only at hSw); go_simp); (try with_reducible rfl))
    try simp only [Act.put, List.setIfInBounds_toArray, List.set_cons_zero, List.set_cons_succ]
    refine rg_take (n := 10) (v := ?_) 32 (some 108) rfl rfl (by kernel_rfl) (by kernel_rfl) (by kernel_rfl) (fun _ _ _ h => h) (by rfl) hI ?_ ?_
    rotate_left
    · ((intro w hSw; (try dsimp only at hSw); go_simp); (try with_reducible rfl))
    try simp only [Act.put, List.setIfInBounds_toArray, List.set_cons_zero, List.set_cons_succ]
    refine rg_take (n := 9) (v := ?_) 33 (some 109) rfl rfl (by kernel_rfl) (by kernel_rfl) (by kernel_rfl) (fun _ _ _ h => h) (by rfl) hI ?_ ?_
    rotate_left
    · ((intro w hSw; (try dsimp only at hSw); go_simp); (try with_reducible rfl))
    try simp only [Act.put, List.setIfInBounds_toArray, List.set_cons_zero, List.set_cons_succ]
    refine rg_take (n := 8) (v := ?_) 34 (some 110) rfl rfl (by kernel_rfl) (by kernel_rfl) (by kernel_rfl) (fun _ _ _ h => h) (by rfl) hI ?_ ?_
    rotate_left
    · ((intro w hSw; (try dsimp only at hSw); go_simp); (try with_reducible rfl))
    try simp only [Act.put, List.setIfInBounds_toArray, List.set_cons_zero, List.set_cons_succ]
    refine rg_take (n := 7) (v := ?_) 35 (some 111) rfl rfl (by kernel_rfl) (by kernel_rfl) (by kernel_rfl) (fun _ _ _ h => h) (by rfl) hI ?_ ?_
    rotate_left
    · ((intro w hSw; (try dsimp only at hSw); go_simp); (try with_reducible rfl))
    try simp only [Act.put, List.setIfInBounds_toArray, List.set_cons_zero, List.set_cons_succ]
    refine rg_take (n := 6) (v := ?_) 36 (some 112) rfl rfl (by kernel_rfl) (by kernel_rfl) (by kernel_rfl) (fun _ _ _ h => h) (by rfl) hI ?_ ?_
    rotate_left
    · ((intro w hSw; (try dsimp only at hSw); go_simp); (try with_reducible rfl))
    try simp only [Act.put, List.setIfInBounds_toArray, List.set_cons_zero, List.set_cons_succ]
    refine rg_take (n := 5) (v := ?_) 37 (some 113) rfl rfl (by kernel_rfl) (by kernel_rfl) (by kernel_rfl) (fun _ _ _ h => h) (by rfl) hI ?_ ?_
    rotate_left
    · ((intro w hSw; (try dsimp only at hSw); go_simp); (try with_reducible rfl))
    try simp only [Act.put, List.setIfInBounds_toArray, List.set_cons_zero, List.set_cons_succ]
    refine rg_take (n := 4) (v := ?_) 38 (some 114) rfl rfl (by kernel_rfl) (by kernel_rfl) (by kernel_rfl) (fun _ _ _ h => h) (by rfl) hI ?_ ?_
    rotate_left
    · ((intro w hSw; (try dsimp only at hSw); go_simp); (try with_reducible rfl))
    try simp only [Act.put, List.setIfInBounds_toArray, List.set_cons_zero, List.set_cons_succ]
    refine rg_take (n := 3) (v := ?_) 39 (some 115) rfl rfl (by kernel_rfl) (by kernel_rfl) (by kernel_rfl) (fun _ _ _ h => h) (by rfl) hI ?_ ?_
    rotate_left
    · ((intro w hSw; (try dsimp only at hSw); go_simp); (try with_reducible rfl))
    try simp only [Act.put, List.setIfInBounds_toArray, List.set_cons_zero, List.set_cons_succ]
    refine rg_take (n := 2) (v := ?_) 40 (some 116) rfl rfl (by kernel_rfl) (by kernel_rfl) (by kernel_rfl) (fun _ _ _ h => h) (by rfl) hI ?_ ?_
    rotate_left
    · ((intro w hSw; (try dsimp only at hSw); go_simp); (try with_reducible rfl))
    try simp only [Act.put, List.setIfInBounds_toArray, List.set_cons_zero, List.set_cons_succ]
    refine rg_take (n := 1) (v := ?_) 41 (some 117) rfl rfl (by kernel_rfl) (by kernel_rfl) (by kernel_rfl) (fun _ _ _ h => h) (by rfl) hI ?_ ?_
    rotate_left
    · ((intro w hSw; (try dsimp only at hSw); go_simp); (try with_reducible rfl))
    try simp only [Act.put, List.setIfInBounds_toArray, List.set_cons_zero, List.set_cons_succ]
    refine rg_take (n := 0) (v := ?_) 42 (some 4) rfl rfl (by kernel_rfl) (by kernel_rfl) (by kernel_rfl) (fun _ _ _ h => h) (by rfl) hI ?_ ?_
    rotate_left
    · ((intro w hSw; (try dsimp only at hSw); go_simp); (try with_reducible rfl))
    try simp only [Act.put, List.setIfInBounds_toArray, List.set_cons_zero, List.set_cons_succ]
    refine wpAnyH_done (by kernel_rfl) ?_ _
    clear hI
    go_wp2
    go_ret
    exact ⟨by show Ending.returned (.bool (decide (IntKind.i64.wrap (Ng * Dj) ≤ IntKind.i64.wrap (Nj * Dg)))) = _; rw [Hwp1.out, Hwp2.out, hq], (HM7.out.trans Mu1.out (fun _ _ h => h)).below (Nat.le_refl _) (fun _ _ => id)⟩
end Go.Proofs.Ythbcgbbcoanbdaa
