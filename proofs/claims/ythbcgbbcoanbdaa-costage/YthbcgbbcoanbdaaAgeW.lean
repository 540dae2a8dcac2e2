/-
  CostAge: of two segments that have as many live images the older one gains no less; of two of one age the one that has fewer.
-/
import Derived.Test.YthbcgbbcoanbdaaCLaw
import Derived.Test.YthbcgbbcoanbdaaTOrd
namespace Go.Proofs.Ythbcgbbcoanbdaa
open Go Go.RowKit

theorem age_math {t : Tb} {i k : Int} (hi : gnB t i = true) (hk : gnB t k = true) (h : (lvN t i = lvN t k ∧ (atS t.sg i.toNat).c ≤ (atS t.sg k.toNat).c) ∨ ((atS t.sg i.toNat).c = (atS t.sg k.toNat).c ∧ lvN t i ≤ lvN t k)) :
    gaN t k * gaD t i ≤ gaN t i * gaD t k := by
  obtain ⟨⟨a0, a1⟩, ⟨b0, b1⟩, c0, _⟩ := ga_in hi
  obtain ⟨⟨d0, d1⟩, ⟨e0, e1⟩, f0, _⟩ := ga_in hk
  unfold gaN gaD
  rw [if_pos hi, if_pos hi, if_pos hk, if_pos hk]
  generalize lvN t i = li at *
  generalize lvN t k = lk at *
  generalize (atS t.sg i.toNat).c = ai at *
  generalize (atS t.sg k.toNat).c = ak at *
  rcases h with ⟨rfl, h⟩ | ⟨rfl, h⟩
  · refine Int.mul_le_mul_of_nonneg_right (Int.mul_le_mul_of_nonneg_left (by omega) (by omega)) (by omega)
  · refine Int.mul_le_mul (Int.mul_le_mul_of_nonneg_right (by omega) (by omega)) (by omega) (by omega) (Int.mul_nonneg (by omega) (by omega))

set_option maxRecDepth 100000 in
set_option maxHeartbeats 12800000 in
theorem age_walk (x : TV) (W : World) (h : x.At W) (i k : Int) :
    Calls Try.prog 6 #[.agg #[.slice x.P x.n x.c, .slice x.S x.m x.d, .int .i64 x.t.sl, .int .i64 x.t.nw], .int .i64 i, .int .i64 k] W fun e w' => e = .returned (.bool true) ∧ Below W.heap.size W w' := by
  have HX0 := Lib.hid h
  obtain ⟨w1, hw1⟩ : ∃ w1, W.alloc (.cells #[.slice x.P x.n x.c, .slice x.S x.m x.d, .int .i64 x.t.sl, .int .i64 x.t.nw] 27) = w1 := ⟨_, rfl⟩
  have hm1 : Mod (fun _ => False) W w1 := by rw [← hw1]; exact (Mod.refl _ W).alloc _
  have hb1 : TBx w1 W.heap.size x := by rw [← hw1]; exact TBx.new W x
  have HB1 := Lib.hid hb1
  have HX1 := Lib.hid (h.keep hm1)
  have HM1 := Lib.hid hm1
  have Hpl : Hid (x.t.pg.length = x.n) := h.pg.len
  have Hsl : Hid (x.t.sg.length = x.m) := h.sg.len
  clear hb1 hm1 h
  cases hlt : (decide (x.n ≤ 40) && decide (x.m ≤ 40)) with
  | false =>
    go_enter Try.func6, Try.ntmps6
    go_wp2_with fail
    refine (cawake_ok _).mono ?_
    rintro e w2 ⟨rfl, hm2⟩
    clear hw1
    have HB2 := Lib.hid (HB1.out.keep hm2)
    have HX2 := Lib.hid (HX1.out.keep hm2)
    have HM2 := Lib.hid (HM1.out.trans hm2 (fun _ _ h => h))
    clear hm2
    obtain ⟨c0, c1, c2, c3⟩ := HB2.out.cells
    go_wp2_with fail
    refine (clight_ok _ x).mono ?_
    rintro e w3 ⟨rfl, hm3⟩
    clear c0 c1 c2 c3
    have HB3 := Lib.hid (HB2.out.keep hm3)
    have HX3 := Lib.hid (HX2.out.keep hm3)
    have HM3 := Lib.hid (HM2.out.trans hm3 (fun _ _ h => h))
    clear hm3
    rw [hlt]
    go_wp2
    go_ret
    exact ⟨rfl, HM3.out.below (Nat.le_refl _) (fun _ _ => id)⟩
  | true =>
  have hnm : x.n ≤ 40 ∧ x.m ≤ 40 := by simpa using hlt
  obtain ⟨hn, hm⟩ := hnm
  have hn' : x.n ≤ 1000 := by omega
  have hm' : x.m ≤ 1000 := by omega
  have HMY : Hid (∀ V, x.At V → Calls Try.prog 20 #[.agg #[.slice x.P x.n x.c, .slice x.S x.m x.d, .int .i64 x.t.sl, .int .i64 x.t.nw]] V fun e w' => e = .returned (.bool (mayB x.t)) ∧ Mod (fun _ => False) V w') := fun V hV => tmay_ok V x hV hn' hm'
  cases hmy : mayB x.t with
  | false =>
    rw [hmy] at HMY
    clear hmy
    go_enter Try.func6, Try.ntmps6
    go_wp2_with fail
    refine (cawake_ok _).mono ?_
    rintro e w2 ⟨rfl, hm2⟩
    clear hw1
    have HB2 := Lib.hid (HB1.out.keep hm2)
    have HX2 := Lib.hid (HX1.out.keep hm2)
    have HM2 := Lib.hid (HM1.out.trans hm2 (fun _ _ h => h))
    clear hm2
    obtain ⟨c0, c1, c2, c3⟩ := HB2.out.cells
    go_wp2_with fail
    refine (clight_ok _ x).mono ?_
    rintro e w3 ⟨rfl, hm3⟩
    clear c0 c1 c2 c3
    have HB3 := Lib.hid (HB2.out.keep hm3)
    have HX3 := Lib.hid (HX2.out.keep hm3)
    have HM3 := Lib.hid (HM2.out.trans hm3 (fun _ _ h => h))
    clear hm3
    rw [hlt]
    obtain ⟨c0, c1, c2, c3⟩ := HB3.out.cells
    go_wp2_with fail
    refine (HMY.out _ HX3.out).mono ?_
    rintro e w4 ⟨rfl, hm4⟩
    clear c0 c1 c2 c3
    have HB4 := Lib.hid (HB3.out.keep hm4)
    have HX4 := Lib.hid (HX3.out.keep hm4)
    have HM4 := Lib.hid (HM3.out.trans hm4 (fun _ _ h => h))
    clear hm4
    go_wp2
    go_ret
    exact ⟨rfl, HM4.out.below (Nat.le_refl _) (fun _ _ => id)⟩
  | true =>
  rw [hmy] at HMY
  have Hmay := Lib.hid (mayB_iff.1 hmy)
  clear hmy
  have G1 := Lib.hid (fun V (hV : x.At V) => gain_ok V x hV hn' hm' i)
  have G2 := Lib.hid (fun V (hV : x.At V) => gain_ok V x hV hn' hm' k)
  cases hgi : gnB x.t i with
  | false =>
    rw [hgi] at G1
    clear hgi
    generalize gaN x.t i = Ni at *
    generalize gaD x.t i = Di at *
    generalize gaN x.t k = Nk at *
    generalize gaD x.t k = Dk at *
    generalize gnB x.t k = Gk at *
    go_enter Try.func6, Try.ntmps6
    go_wp2_with fail
    refine (cawake_ok _).mono ?_
    rintro e w2 ⟨rfl, hm2⟩
    clear hw1
    have HB2 := Lib.hid (HB1.out.keep hm2)
    have HX2 := Lib.hid (HX1.out.keep hm2)
    have HM2 := Lib.hid (HM1.out.trans hm2 (fun _ _ h => h))
    clear hm2
    obtain ⟨c0, c1, c2, c3⟩ := HB2.out.cells
    go_wp2_with fail
    refine (clight_ok _ x).mono ?_
    rintro e w3 ⟨rfl, hm3⟩
    clear c0 c1 c2 c3
    have HB3 := Lib.hid (HB2.out.keep hm3)
    have HX3 := Lib.hid (HX2.out.keep hm3)
    have HM3 := Lib.hid (HM2.out.trans hm3 (fun _ _ h => h))
    clear hm3
    rw [hlt]
    obtain ⟨c0, c1, c2, c3⟩ := HB3.out.cells
    go_wp2_with fail
    refine (HMY.out _ HX3.out).mono ?_
    rintro e w9 ⟨rfl, hm9⟩
    clear c0 c1 c2 c3
    have HB9 := Lib.hid (HB3.out.keep hm9)
    have HX9 := Lib.hid (HX3.out.keep hm9)
    have HM9 := Lib.hid (HM3.out.trans hm9 (fun _ _ h => h))
    clear hm9
    obtain ⟨c0, c1, c2, c3⟩ := HB9.out.cells
    go_wp2_with fail
    refine (G1.out _ HX9.out).mono ?_
    rintro e w4 ⟨rfl, hm4⟩
    clear c0 c1 c2 c3
    have HB4 := Lib.hid (HB9.out.keep hm4)
    have HX4 := Lib.hid (HX9.out.keep hm4)
    have HM4 := Lib.hid (HM9.out.trans hm4 (fun _ _ h => h))
    clear hm4
    obtain ⟨c0, c1, c2, c3⟩ := HB4.out.cells
    go_wp2_with fail
    refine (G2.out _ HX4.out).mono ?_
    rintro e w5 ⟨rfl, hm5⟩
    clear c0 c1 c2 c3
    have HB5 := Lib.hid (HB4.out.keep hm5)
    have HX5 := Lib.hid (HX4.out.keep hm5)
    have HM5 := Lib.hid (HM4.out.trans hm5 (fun _ _ h => h))
    clear hm5
    go_wp2
    go_ret
    exact ⟨rfl, HM5.out.below (Nat.le_refl _) (fun _ _ => id)⟩
  | true =>
  cases hgk : gnB x.t k with
  | false =>
    rw [hgi] at G1
    rw [hgk] at G2
    clear hgi hgk
    generalize gaN x.t i = Ni at *
    generalize gaD x.t i = Di at *
    generalize gaN x.t k = Nk at *
    generalize gaD x.t k = Dk at *
    go_enter Try.func6, Try.ntmps6
    go_wp2_with fail
    refine (cawake_ok _).mono ?_
    rintro e w2 ⟨rfl, hm2⟩
    clear hw1
    have HB2 := Lib.hid (HB1.out.keep hm2)
    have HX2 := Lib.hid (HX1.out.keep hm2)
    have HM2 := Lib.hid (HM1.out.trans hm2 (fun _ _ h => h))
    clear hm2
    obtain ⟨c0, c1, c2, c3⟩ := HB2.out.cells
    go_wp2_with fail
    refine (clight_ok _ x).mono ?_
    rintro e w3 ⟨rfl, hm3⟩
    clear c0 c1 c2 c3
    have HB3 := Lib.hid (HB2.out.keep hm3)
    have HX3 := Lib.hid (HX2.out.keep hm3)
    have HM3 := Lib.hid (HM2.out.trans hm3 (fun _ _ h => h))
    clear hm3
    rw [hlt]
    obtain ⟨c0, c1, c2, c3⟩ := HB3.out.cells
    go_wp2_with fail
    refine (HMY.out _ HX3.out).mono ?_
    rintro e w9 ⟨rfl, hm9⟩
    clear c0 c1 c2 c3
    have HB9 := Lib.hid (HB3.out.keep hm9)
    have HX9 := Lib.hid (HX3.out.keep hm9)
    have HM9 := Lib.hid (HM3.out.trans hm9 (fun _ _ h => h))
    clear hm9
    obtain ⟨c0, c1, c2, c3⟩ := HB9.out.cells
    go_wp2_with fail
    refine (G1.out _ HX9.out).mono ?_
    rintro e w4 ⟨rfl, hm4⟩
    clear c0 c1 c2 c3
    have HB4 := Lib.hid (HB9.out.keep hm4)
    have HX4 := Lib.hid (HX9.out.keep hm4)
    have HM4 := Lib.hid (HM9.out.trans hm4 (fun _ _ h => h))
    clear hm4
    obtain ⟨c0, c1, c2, c3⟩ := HB4.out.cells
    go_wp2_with fail
    refine (G2.out _ HX4.out).mono ?_
    rintro e w5 ⟨rfl, hm5⟩
    clear c0 c1 c2 c3
    have HB5 := Lib.hid (HB4.out.keep hm5)
    have HX5 := Lib.hid (HX4.out.keep hm5)
    have HM5 := Lib.hid (HM4.out.trans hm5 (fun _ _ h => h))
    clear hm5
    go_wp2
    go_ret
    exact ⟨rfl, HM5.out.below (Nat.le_refl _) (fun _ _ => id)⟩
  | true =>
  obtain ⟨_, ⟨i0, i1⟩, _⟩ := gnB_iff.1 hgi
  obtain ⟨_, ⟨k0, k1⟩, _⟩ := gnB_iff.1 hgk
  rw [Hsl.out] at i1 k1
  have HQ : Hid ((lvN x.t i = lvN x.t k ∧ (atS x.t.sg i.toNat).c ≤ (atS x.t.sg k.toNat).c) ∨ ((atS x.t.sg i.toNat).c = (atS x.t.sg k.toNat).c ∧ lvN x.t i ≤ lvN x.t k) → gaN x.t k * gaD x.t i ≤ gaN x.t i * gaD x.t k) := fun h => age_math hgi hgk h
  have hwp1 := wrap_mul (gaN_in x.t i) (gaD_in x.t k)
  have hwp2 := wrap_mul (gaN_in x.t k) (gaD_in x.t i)
  rw [hgi] at G1
  rw [hgk] at G2
  clear hgi hgk
  obtain ⟨i, rfl⟩ : ∃ j : Nat, i = (j : Int) := ⟨i.toNat, by omega⟩
  obtain ⟨k, rfl⟩ : ∃ j : Nat, k = (j : Int) := ⟨k.toNat, by omega⟩
  rw [Int.toNat_natCast, Int.toNat_natCast] at HQ
  have him : i < x.m := by omega
  have hkm : k < x.m := by omega
  have HLi0 : Hid (∀ V, x.At V → Calls Try.prog 21 #[.agg #[.slice x.P x.n x.c, .slice x.S x.m x.d, .int .i64 x.t.sl, .int .i64 x.t.nw], .int .i64 (i : Int)] V fun e w' => e = .returned (.int .i64 (lvN x.t (i : Int))) ∧ Mod (fun _ => False) V w') := fun V hV => by
    have := live_ok V x hV hn' hm' (i : Int)
    rw [liveI_in Hmay.out (by rw [Hsl.out]; exact him)] at this
    exact this
  have HLk0 : Hid (∀ V, x.At V → Calls Try.prog 21 #[.agg #[.slice x.P x.n x.c, .slice x.S x.m x.d, .int .i64 x.t.sl, .int .i64 x.t.nw], .int .i64 (k : Int)] V fun e w' => e = .returned (.int .i64 (lvN x.t (k : Int))) ∧ Mod (fun _ => False) V w') := fun V hV => by
    have := live_ok V x hV hn' hm' (k : Int)
    rw [liveI_in Hmay.out (by rw [Hsl.out]; exact hkm)] at this
    exact this
  have Hcs0 : Hid (∃ b o, x.S = some ⟨b, o, none⟩ ∧ ∀ w', Mod (fun _ => False) W w' → w'.cell? ⟨b, o + i * 3 + 2, none⟩ = some (.int .i64 (atS x.t.sg i).c) ∧ w'.cell? ⟨b, o + k * 3 + 2, none⟩ = some (.int .i64 (atS x.t.sg k).c)) := by
    obtain ⟨b, o, hS, hc⟩ := HX0.out.sg.cells (by omega)
    exact ⟨b, o, hS, fun w' hm' => ⟨((hc i him).keep (hm'.block b (hc i him).lt id)).2.2, ((hc k hkm).keep (hm'.block b (hc k hkm).lt id)).2.2⟩⟩
  obtain ⟨b, o, hS, hcs⟩ := Hcs0.out
  have Hcs := Lib.hid hcs
  have HS := Lib.hid hS
  rw [hS] at HLi0 HLk0
  clear hS hcs Hcs0
  generalize gaN x.t i = Ni at *
  generalize gaD x.t i = Di at *
  generalize gaN x.t k = Nk at *
  generalize gaD x.t k = Dk at *
  generalize lvN x.t i = li at *
  generalize lvN x.t k = lk at *
  generalize (atS x.t.sg i).c = ai at *
  generalize (atS x.t.sg k).c = ak at *
  by_cases e1 : li = lk
  · have hs : (li == lk) = true := by simpa using e1
    by_cases e2 : ai ≤ ak
    · have hA : decide (ai ≤ ak) = true := decide_eq_true e2
      have hq := HQ.out (.inl ⟨e1, e2⟩)
      have hqd : decide (Nk * Di ≤ Ni * Dk) = true := decide_eq_true hq
      clear e1 e2 hq HQ
      cases ho : (ai == ak) with
      | false =>
        go_enter Try.func6, Try.ntmps6
        go_wp2_with fail
        refine (cawake_ok _).mono ?_
        rintro e w2 ⟨rfl, hm2⟩
        clear hw1
        have HB2 := Lib.hid (HB1.out.keep hm2)
        have HX2 := Lib.hid (HX1.out.keep hm2)
        have HM2 := Lib.hid (HM1.out.trans hm2 (fun _ _ h => h))
        clear hm2
        obtain ⟨c0, c1, c2, c3⟩ := HB2.out.cells
        go_wp2_with fail
        refine (clight_ok _ x).mono ?_
        rintro e w3 ⟨rfl, hm3⟩
        clear c0 c1 c2 c3
        have HB3 := Lib.hid (HB2.out.keep hm3)
        have HX3 := Lib.hid (HX2.out.keep hm3)
        have HM3 := Lib.hid (HM2.out.trans hm3 (fun _ _ h => h))
        clear hm3
        rw [hlt]
        obtain ⟨c0, c1, c2, c3⟩ := HB3.out.cells
        go_wp2_with fail
        refine (HMY.out _ HX3.out).mono ?_
        rintro e w9 ⟨rfl, hm9⟩
        clear c0 c1 c2 c3
        have HB9 := Lib.hid (HB3.out.keep hm9)
        have HX9 := Lib.hid (HX3.out.keep hm9)
        have HM9 := Lib.hid (HM3.out.trans hm9 (fun _ _ h => h))
        clear hm9
        obtain ⟨c0, c1, c2, c3⟩ := HB9.out.cells
        go_wp2_with fail
        refine (G1.out _ HX9.out).mono ?_
        rintro e w4 ⟨rfl, hm4⟩
        clear c0 c1 c2 c3
        have HB4 := Lib.hid (HB9.out.keep hm4)
        have HX4 := Lib.hid (HX9.out.keep hm4)
        have HM4 := Lib.hid (HM9.out.trans hm4 (fun _ _ h => h))
        clear hm4
        obtain ⟨c0, c1, c2, c3⟩ := HB4.out.cells
        go_wp2_with fail
        refine (G2.out _ HX4.out).mono ?_
        rintro e w5 ⟨rfl, hm5⟩
        clear c0 c1 c2 c3
        have HB5 := Lib.hid (HB4.out.keep hm5)
        have HX5 := Lib.hid (HX4.out.keep hm5)
        have HM5 := Lib.hid (HM4.out.trans hm5 (fun _ _ h => h))
        clear hm5
        have M0 : Hid (Mod (fun _ => False) w5 w5.drew) := (Mod.refl _ w5).drew
        have HIg : Hid (∀ V, Mod (fun _ => False) w5 V → (fun V : World => (V.cell? ⟨W.heap.size, 0, none⟩ = some (.slice x.P x.n x.c) ∧ V.cell? ⟨W.heap.size, 1, none⟩ = some (.slice (some ⟨b, o, none⟩) x.m x.d) ∧ V.cell? ⟨W.heap.size, 2, none⟩ = some (.int .i64 x.t.sl) ∧ V.cell? ⟨W.heap.size, 3, none⟩ = some (.int .i64 x.t.nw)) ∧ V.cell? ⟨b, o + i * 3 + 2, none⟩ = some (.int .i64 ai) ∧ V.cell? ⟨b, o + k * 3 + 2, none⟩ = some (.int .i64 ak)) V) := fun V hV => ⟨by have := (HB5.out.keep hV).cells; rw [HS.out] at this; exact this, (Hcs.out V (HM5.out.trans hV (fun _ _ h => h))).1, (Hcs.out V (HM5.out.trans hV (fun _ _ h => h))).2⟩
        have HLi := Lib.hid (fun V (hV : Mod (fun _ => False) w5 V) => HLi0.out V (HX5.out.keep hV))
        have HLk := Lib.hid (fun V (hV : Mod (fun _ => False) w5 V) => HLk0.out V (HX5.out.keep hV))
        go_wp2_with fail
        refine wp_region_held (S := (fun V : World => (V.cell? ⟨W.heap.size, 0, none⟩ = some (.slice x.P x.n x.c) ∧ V.cell? ⟨W.heap.size, 1, none⟩ = some (.slice (some ⟨b, o, none⟩) x.m x.d) ∧ V.cell? ⟨W.heap.size, 2, none⟩ = some (.int .i64 x.t.sl) ∧ V.cell? ⟨W.heap.size, 3, none⟩ = some (.int .i64 x.t.nw)) ∧ V.cell? ⟨b, o + i * 3 + 2, none⟩ = some (.int .i64 ai) ∧ V.cell? ⟨b, o + k * 3 + 2, none⟩ = some (.int .i64 ak))) (by kernel_rfl) ?_
        have hI := (show (fun V : World => (V.cell? ⟨W.heap.size, 0, none⟩ = some (.slice x.P x.n x.c) ∧ V.cell? ⟨W.heap.size, 1, none⟩ = some (.slice (some ⟨b, o, none⟩) x.m x.d) ∧ V.cell? ⟨W.heap.size, 2, none⟩ = some (.int .i64 x.t.sl) ∧ V.cell? ⟨W.heap.size, 3, none⟩ = some (.int .i64 x.t.nw)) ∧ V.cell? ⟨b, o + i * 3 + 2, none⟩ = some (.int .i64 ai) ∧ V.cell? ⟨b, o + k * 3 + 2, none⟩ = some (.int .i64 ak)) _ from HIg.out _ M0.out)
        refine rg_take (n := 7) (v := ?_) 0 (some 52) rfl rfl (by kernel_rfl) (by kernel_rfl) (by kernel_rfl) (fun _ _ _ h => h) (by rfl) hI ?_ ?_
        rotate_left
        · ((intro w hSw; (try dsimp only at hSw); go_simp); (try with_reducible rfl))
        try simp only [Act.put, List.setIfInBounds_toArray, List.set_cons_zero, List.set_cons_succ]
        refine rg_take (n := 6) (v := ?_) 1 (some 53) rfl rfl (by kernel_rfl) (by kernel_rfl) (by kernel_rfl) (fun _ _ _ h => h) (by rfl) hI ?_ ?_
        rotate_left
        · ((intro w hSw; (try dsimp only at hSw); go_simp); (try with_reducible rfl))
        try simp only [Act.put, List.setIfInBounds_toArray, List.set_cons_zero, List.set_cons_succ]
        refine rg_take (n := 5) (v := ?_) 3 (some 55) rfl rfl (by kernel_rfl) (by kernel_rfl) (by kernel_rfl) (fun _ _ _ h => h) (by rfl) hI ?_ ?_
        rotate_left
        · ((intro w hSw; (try dsimp only at hSw); go_simp); (try with_reducible rfl))
        try simp only [Act.put, List.setIfInBounds_toArray, List.set_cons_zero, List.set_cons_succ]
        refine rg_take (n := 4) (v := ?_) 4 (some 56) rfl rfl (by kernel_rfl) (by kernel_rfl) (by kernel_rfl) (fun _ _ _ h => h) (by rfl) hI ?_ ?_
        rotate_left
        · ((intro w hSw; (try dsimp only at hSw); go_simp); (try with_reducible rfl))
        try simp only [Act.put, List.setIfInBounds_toArray, List.set_cons_zero, List.set_cons_succ]
        refine rg_one (n := 3) 2 rfl (by kernel_rfl) (by rfl) ?_
        go_simp
        go_at_call 21
        refine (HLi.out _ M0.out).mono ?_
        rintro e u1 ⟨rfl, hml⟩
        have Mu1 := Lib.hid (M0.out.trans hml (fun _ _ h => h))
        clear hml
        clear hI
        have hI := (show (fun V : World => (V.cell? ⟨W.heap.size, 0, none⟩ = some (.slice x.P x.n x.c) ∧ V.cell? ⟨W.heap.size, 1, none⟩ = some (.slice (some ⟨b, o, none⟩) x.m x.d) ∧ V.cell? ⟨W.heap.size, 2, none⟩ = some (.int .i64 x.t.sl) ∧ V.cell? ⟨W.heap.size, 3, none⟩ = some (.int .i64 x.t.nw)) ∧ V.cell? ⟨b, o + i * 3 + 2, none⟩ = some (.int .i64 ai) ∧ V.cell? ⟨b, o + k * 3 + 2, none⟩ = some (.int .i64 ak)) _ from HIg.out _ Mu1.out)
        refine ⟨hI, ?_⟩
        try simp only [Act.put, List.setIfInBounds_toArray, List.set_cons_zero, List.set_cons_succ]
        refine rg_one (n := 2) 5 rfl (by kernel_rfl) (by rfl) ?_
        go_simp
        go_at_call 21
        refine (HLk.out _ Mu1.out).mono ?_
        rintro e u2 ⟨rfl, hml⟩
        have Mu2 := Lib.hid (Mu1.out.trans hml (fun _ _ h => h))
        clear hml
        clear hI
        have hI := (show (fun V : World => (V.cell? ⟨W.heap.size, 0, none⟩ = some (.slice x.P x.n x.c) ∧ V.cell? ⟨W.heap.size, 1, none⟩ = some (.slice (some ⟨b, o, none⟩) x.m x.d) ∧ V.cell? ⟨W.heap.size, 2, none⟩ = some (.int .i64 x.t.sl) ∧ V.cell? ⟨W.heap.size, 3, none⟩ = some (.int .i64 x.t.nw)) ∧ V.cell? ⟨b, o + i * 3 + 2, none⟩ = some (.int .i64 ai) ∧ V.cell? ⟨b, o + k * 3 + 2, none⟩ = some (.int .i64 ak)) _ from HIg.out _ Mu2.out)
        refine ⟨hI, ?_⟩
        try simp only [Act.put, List.setIfInBounds_toArray, List.set_cons_zero, List.set_cons_succ]
        refine rg_take (n := 1) (v := ?_) 6 (some 58) rfl rfl (by kernel_rfl) (by kernel_rfl) (by kernel_rfl) (fun _ _ _ h => h) (by rfl) hI ?_ ?_
        rotate_left
        · ((intro w hSw; (try dsimp only at hSw); go_simp); (try with_reducible rfl))
        try simp only [Act.put, List.setIfInBounds_toArray, List.set_cons_zero, List.set_cons_succ]
        refine rg_take (n := 0) (v := ?_) 7 (some 15) rfl rfl (by kernel_rfl) (by kernel_rfl) (by kernel_rfl) (fun _ _ _ h => h) (by rfl) hI ?_ ?_
        rotate_left
        · ((intro w hSw; (try dsimp only at hSw); go_simp); (try with_reducible rfl))
        try simp only [Act.put, List.setIfInBounds_toArray, List.set_cons_zero, List.set_cons_succ]
        refine wpAnyH_done (by kernel_rfl) ?_ _
        clear hI
        have hI2 := HIg.out _ Mu2.out
        obtain ⟨⟨c0, c1, c2, c3⟩, s0, s1⟩ := hI2
        go_wp2_with fail
        go_quiet (fail)
        generalize hu3 : World.drewN _ _ = u3
        have Mu3 : Hid (Mod (fun _ => False) w5 u3) := by rw [← hu3]; exact Mu2.out.drewN _
        have M1 : Hid (Mod (fun _ => False) w5 u3.drew) := Mu3.out.drew
        clear hu3 c0 c1 c2 c3 s0 s1 Mu1 Mu2
        go_wp2_with fail
        refine wp_region_held (S := (fun V : World => (V.cell? ⟨W.heap.size, 0, none⟩ = some (.slice x.P x.n x.c) ∧ V.cell? ⟨W.heap.size, 1, none⟩ = some (.slice (some ⟨b, o, none⟩) x.m x.d) ∧ V.cell? ⟨W.heap.size, 2, none⟩ = some (.int .i64 x.t.sl) ∧ V.cell? ⟨W.heap.size, 3, none⟩ = some (.int .i64 x.t.nw)) ∧ V.cell? ⟨b, o + i * 3 + 2, none⟩ = some (.int .i64 ai) ∧ V.cell? ⟨b, o + k * 3 + 2, none⟩ = some (.int .i64 ak))) (by kernel_rfl) ?_
        have hI := (show (fun V : World => (V.cell? ⟨W.heap.size, 0, none⟩ = some (.slice x.P x.n x.c) ∧ V.cell? ⟨W.heap.size, 1, none⟩ = some (.slice (some ⟨b, o, none⟩) x.m x.d) ∧ V.cell? ⟨W.heap.size, 2, none⟩ = some (.int .i64 x.t.sl) ∧ V.cell? ⟨W.heap.size, 3, none⟩ = some (.int .i64 x.t.nw)) ∧ V.cell? ⟨b, o + i * 3 + 2, none⟩ = some (.int .i64 ai) ∧ V.cell? ⟨b, o + k * 3 + 2, none⟩ = some (.int .i64 ak)) _ from HIg.out _ M1.out)
        refine rg_take (n := 27) (v := ?_) 0 (some 72) rfl rfl (by kernel_rfl) (by kernel_rfl) (by kernel_rfl) (fun _ _ _ h => h) (by rfl) hI ?_ ?_
        rotate_left
        · ((intro w hSw; (try dsimp only at hSw); go_simp); (try with_reducible rfl))
        try simp only [Act.put, List.setIfInBounds_toArray, List.set_cons_zero, List.set_cons_succ]
        refine rg_take (n := 26) (v := ?_) 1 (some 73) rfl rfl (by kernel_rfl) (by kernel_rfl) (by kernel_rfl) (fun _ _ _ h => h) (by rfl) hI ?_ ?_
        rotate_left
        · ((intro w hSw; (try dsimp only at hSw); go_simp); (try with_reducible rfl))
        try simp only [Act.put, List.setIfInBounds_toArray, List.set_cons_zero, List.set_cons_succ]
        refine rg_take (n := 25) (v := ?_) 2 (some 74) rfl rfl (by kernel_rfl) (by kernel_rfl) (by kernel_rfl) (fun _ _ _ h => h) (by rfl) hI ?_ ?_
        rotate_left
        · ((intro w hSw; (try dsimp only at hSw); go_simp); (try with_reducible rfl))
        try simp only [Act.put, List.setIfInBounds_toArray, List.set_cons_zero, List.set_cons_succ]
        refine rg_take (n := 24) (v := ?_) 3 (some 75) rfl rfl (by kernel_rfl) (by kernel_rfl) (by kernel_rfl) (fun _ _ _ h => h) (by rfl) hI ?_ ?_
        rotate_left
        · ((intro w hSw; (try dsimp only at hSw); go_simp); (try with_reducible rfl))
        try simp only [Act.put, List.setIfInBounds_toArray, List.set_cons_zero, List.set_cons_succ]
        refine rg_take (n := 23) (v := ?_) 4 (some 76) rfl rfl (by kernel_rfl) (by kernel_rfl) (by kernel_rfl) (fun _ _ _ h => h) (by rfl) hI ?_ ?_
        rotate_left
        · ((intro w hSw; (try dsimp only at hSw); go_simp); (try with_reducible rfl))
        try simp only [Act.put, List.setIfInBounds_toArray, List.set_cons_zero, List.set_cons_succ]
        refine rg_take (n := 22) (v := ?_) 5 (some 77) rfl rfl (by kernel_rfl) (by kernel_rfl) (by kernel_rfl) (fun _ _ _ h => h) (by rfl) hI ?_ ?_
        rotate_left
        · ((intro w hSw; (try dsimp only at hSw); go_simp); (try with_reducible rfl))
        try simp only [Act.put, List.setIfInBounds_toArray, List.set_cons_zero, List.set_cons_succ]
        refine rg_take (n := 21) (v := ?_) 6 (some 78) rfl rfl (by kernel_rfl) (by kernel_rfl) (by kernel_rfl) (fun _ _ _ h => h) (by rfl) hI ?_ ?_
        rotate_left
        · ((intro w hSw; (try dsimp only at hSw); go_simp); (try with_reducible rfl))
        try simp only [Act.put, List.setIfInBounds_toArray, List.set_cons_zero, List.set_cons_succ]
        refine rg_take (n := 20) (v := ?_) 7 (some 79) rfl rfl (by kernel_rfl) (by kernel_rfl) (by kernel_rfl) (fun _ _ _ h => h) (by rfl) hI ?_ ?_
        rotate_left
        · ((intro w hSw; (try dsimp only at hSw); go_simp); (try with_reducible rfl))
        try simp only [Act.put, List.setIfInBounds_toArray, List.set_cons_zero, List.set_cons_succ]
        refine rg_take (n := 19) (v := ?_) 8 (some 80) rfl rfl (by kernel_rfl) (by kernel_rfl) (by kernel_rfl) (fun _ _ _ h => h) (by rfl) hI ?_ ?_
        rotate_left
        · ((intro w hSw; (try dsimp only at hSw); go_simp); (try with_reducible rfl))
        try simp only [Act.put, List.setIfInBounds_toArray, List.set_cons_zero, List.set_cons_succ]
        refine rg_take (n := 18) (v := ?_) 9 (some 81) rfl rfl (by kernel_rfl) (by kernel_rfl) (by kernel_rfl) (fun _ _ _ h => h) (by rfl) hI ?_ ?_
        rotate_left
        · ((intro w hSw; (try dsimp only at hSw); go_simp); (try with_reducible rfl))
        try simp only [Act.put, List.setIfInBounds_toArray, List.set_cons_zero, List.set_cons_succ]
        refine rg_take (n := 17) (v := ?_) 10 (some 82) rfl rfl (by kernel_rfl) (by kernel_rfl) (by kernel_rfl) (fun _ _ _ h => h) (by rfl) hI ?_ ?_
        rotate_left
        · ((intro w hSw; (try dsimp only at hSw); go_simp); (try with_reducible rfl))
        try simp only [Act.put, List.setIfInBounds_toArray, List.set_cons_zero, List.set_cons_succ]
        refine rg_take (n := 16) (v := ?_) 11 (some 83) rfl rfl (by kernel_rfl) (by kernel_rfl) (by kernel_rfl) (fun _ _ _ h => h) (by rfl) hI ?_ ?_
        rotate_left
        · ((intro w hSw; (try dsimp only at hSw); go_simp); (try with_reducible rfl))
        try simp only [Act.put, List.setIfInBounds_toArray, List.set_cons_zero, List.set_cons_succ]
        refine rg_take (n := 15) (v := ?_) 12 (some 84) rfl rfl (by kernel_rfl) (by kernel_rfl) (by kernel_rfl) (fun _ _ _ h => h) (by rfl) hI ?_ ?_
        rotate_left
        · ((intro w hSw; (try dsimp only at hSw); go_simp); (try with_reducible rfl))
        try simp only [Act.put, List.setIfInBounds_toArray, List.set_cons_zero, List.set_cons_succ]
        refine rg_take (n := 14) (v := ?_) 13 (some 85) rfl rfl (by kernel_rfl) (by kernel_rfl) (by kernel_rfl) (fun _ _ _ h => h) (by rfl) hI ?_ ?_
        rotate_left
        · ((intro w hSw; (try dsimp only at hSw); go_simp); (try with_reducible rfl))
        try simp only [Act.put, List.setIfInBounds_toArray, List.set_cons_zero, List.set_cons_succ]
        refine rg_take (n := 13) (v := ?_) 14 (some 86) rfl rfl (by kernel_rfl) (by kernel_rfl) (by kernel_rfl) (fun _ _ _ h => h) (by rfl) hI ?_ ?_
        rotate_left
        · ((intro w hSw; (try dsimp only at hSw); go_simp); (try with_reducible rfl))
        try simp only [Act.put, List.setIfInBounds_toArray, List.set_cons_zero, List.set_cons_succ]
        refine rg_take (n := 12) (v := ?_) 15 (some 87) rfl rfl (by kernel_rfl) (by kernel_rfl) (by kernel_rfl) (fun _ _ _ h => h) (by rfl) hI ?_ ?_
        rotate_left
        · ((intro w hSw; (try dsimp only at hSw); go_simp); (try with_reducible rfl))
        try simp only [Act.put, List.setIfInBounds_toArray, List.set_cons_zero, List.set_cons_succ]
        refine rg_take (n := 11) (v := ?_) 16 (some 88) rfl rfl (by kernel_rfl) (by kernel_rfl) (by kernel_rfl) (fun _ _ _ h => h) (by rfl) hI ?_ ?_
        rotate_left
        · ((intro w hSw; (try dsimp only at hSw); go_simp); (try with_reducible rfl))
        try simp only [Act.put, List.setIfInBounds_toArray, List.set_cons_zero, List.set_cons_succ]
        refine rg_skip (n := 10) 17 (some 89) rfl rfl (by kernel_rfl) (by kernel_rfl) (by kernel_rfl) (fun _ _ _ h => h) (by rfl) hI ?_
        try simp only [Act.put, List.setIfInBounds_toArray, List.set_cons_zero, List.set_cons_succ]
        refine rg_skip (n := 9) 18 (some 90) rfl rfl (by kernel_rfl) (by kernel_rfl) (by kernel_rfl) (fun _ _ _ h => h) (by rfl) hI ?_
        try simp only [Act.put, List.setIfInBounds_toArray, List.set_cons_zero, List.set_cons_succ]
        refine rg_skip (n := 8) 19 (some 91) rfl rfl (by kernel_rfl) (by kernel_rfl) (by kernel_rfl) (fun _ _ _ h => h) (by rfl) hI ?_
        try simp only [Act.put, List.setIfInBounds_toArray, List.set_cons_zero, List.set_cons_succ]
        refine rg_skip (n := 7) 20 (some 92) rfl rfl (by kernel_rfl) (by kernel_rfl) (by kernel_rfl) (fun _ _ _ h => h) (by rfl) hI ?_
        try simp only [Act.put, List.setIfInBounds_toArray, List.set_cons_zero, List.set_cons_succ]
        refine rg_skip (n := 6) 21 (some 93) rfl rfl (by kernel_rfl) (by kernel_rfl) (by kernel_rfl) (fun _ _ _ h => h) (by rfl) hI ?_
        try simp only [Act.put, List.setIfInBounds_toArray, List.set_cons_zero, List.set_cons_succ]
        refine rg_skip (n := 5) 22 (some 94) rfl rfl (by kernel_rfl) (by kernel_rfl) (by kernel_rfl) (fun _ _ _ h => h) (by rfl) hI ?_
        try simp only [Act.put, List.setIfInBounds_toArray, List.set_cons_zero, List.set_cons_succ]
        refine rg_skip (n := 4) 23 (some 95) rfl rfl (by kernel_rfl) (by kernel_rfl) (by kernel_rfl) (fun _ _ _ h => h) (by rfl) hI ?_
        try simp only [Act.put, List.setIfInBounds_toArray, List.set_cons_zero, List.set_cons_succ]
        refine rg_skip (n := 3) 24 (some 96) rfl rfl (by kernel_rfl) (by kernel_rfl) (by kernel_rfl) (fun _ _ _ h => h) (by rfl) hI ?_
        try simp only [Act.put, List.setIfInBounds_toArray, List.set_cons_zero, List.set_cons_succ]
        refine rg_skip (n := 2) 25 (some 97) rfl rfl (by kernel_rfl) (by kernel_rfl) (by kernel_rfl) (fun _ _ _ h => h) (by rfl) hI ?_
        try simp only [Act.put, List.setIfInBounds_toArray, List.set_cons_zero, List.set_cons_succ]
        refine rg_skip (n := 1) 26 (some 98) rfl rfl (by kernel_rfl) (by kernel_rfl) (by kernel_rfl) (fun _ _ _ h => h) (by rfl) hI ?_
        try simp only [Act.put, List.setIfInBounds_toArray, List.set_cons_zero, List.set_cons_succ]
        refine rg_take (n := 0) (v := ?_) 27 (some 99) rfl rfl (by kernel_rfl) (by kernel_rfl) (by kernel_rfl) (fun _ _ _ h => h) (by rfl) hI ?_ ?_
        rotate_left
        · ((intro w hSw; (try dsimp only at hSw); go_simp); (try with_reducible rfl))
        try simp only [Act.put, List.setIfInBounds_toArray, List.set_cons_zero, List.set_cons_succ]
        refine wpAnyH_done (by kernel_rfl) ?_ _
        clear hI
        go_wp2
        go_ret
        exact ⟨rfl, (HM5.out.trans M1.out (fun _ _ h => h)).below (Nat.le_refl _) (fun _ _ => id)⟩
      | true =>
        go_enter Try.func6, Try.ntmps6
        go_wp2_with fail
        refine (cawake_ok _).mono ?_
        rintro e w2 ⟨rfl, hm2⟩
        clear hw1
        have HB2 := Lib.hid (HB1.out.keep hm2)
        have HX2 := Lib.hid (HX1.out.keep hm2)
        have HM2 := Lib.hid (HM1.out.trans hm2 (fun _ _ h => h))
        clear hm2
        obtain ⟨c0, c1, c2, c3⟩ := HB2.out.cells
        go_wp2_with fail
        refine (clight_ok _ x).mono ?_
        rintro e w3 ⟨rfl, hm3⟩
        clear c0 c1 c2 c3
        have HB3 := Lib.hid (HB2.out.keep hm3)
        have HX3 := Lib.hid (HX2.out.keep hm3)
        have HM3 := Lib.hid (HM2.out.trans hm3 (fun _ _ h => h))
        clear hm3
        rw [hlt]
        obtain ⟨c0, c1, c2, c3⟩ := HB3.out.cells
        go_wp2_with fail
        refine (HMY.out _ HX3.out).mono ?_
        rintro e w9 ⟨rfl, hm9⟩
        clear c0 c1 c2 c3
        have HB9 := Lib.hid (HB3.out.keep hm9)
        have HX9 := Lib.hid (HX3.out.keep hm9)
        have HM9 := Lib.hid (HM3.out.trans hm9 (fun _ _ h => h))
        clear hm9
        obtain ⟨c0, c1, c2, c3⟩ := HB9.out.cells
        go_wp2_with fail
        refine (G1.out _ HX9.out).mono ?_
        rintro e w4 ⟨rfl, hm4⟩
        clear c0 c1 c2 c3
        have HB4 := Lib.hid (HB9.out.keep hm4)
        have HX4 := Lib.hid (HX9.out.keep hm4)
        have HM4 := Lib.hid (HM9.out.trans hm4 (fun _ _ h => h))
        clear hm4
        obtain ⟨c0, c1, c2, c3⟩ := HB4.out.cells
        go_wp2_with fail
        refine (G2.out _ HX4.out).mono ?_
        rintro e w5 ⟨rfl, hm5⟩
        clear c0 c1 c2 c3
        have HB5 := Lib.hid (HB4.out.keep hm5)
        have HX5 := Lib.hid (HX4.out.keep hm5)
        have HM5 := Lib.hid (HM4.out.trans hm5 (fun _ _ h => h))
        clear hm5
        have M0 : Hid (Mod (fun _ => False) w5 w5.drew) := (Mod.refl _ w5).drew
        have HIg : Hid (∀ V, Mod (fun _ => False) w5 V → (fun V : World => (V.cell? ⟨W.heap.size, 0, none⟩ = some (.slice x.P x.n x.c) ∧ V.cell? ⟨W.heap.size, 1, none⟩ = some (.slice (some ⟨b, o, none⟩) x.m x.d) ∧ V.cell? ⟨W.heap.size, 2, none⟩ = some (.int .i64 x.t.sl) ∧ V.cell? ⟨W.heap.size, 3, none⟩ = some (.int .i64 x.t.nw)) ∧ V.cell? ⟨b, o + i * 3 + 2, none⟩ = some (.int .i64 ai) ∧ V.cell? ⟨b, o + k * 3 + 2, none⟩ = some (.int .i64 ak)) V) := fun V hV => ⟨by have := (HB5.out.keep hV).cells; rw [HS.out] at this; exact this, (Hcs.out V (HM5.out.trans hV (fun _ _ h => h))).1, (Hcs.out V (HM5.out.trans hV (fun _ _ h => h))).2⟩
        have HLi := Lib.hid (fun V (hV : Mod (fun _ => False) w5 V) => HLi0.out V (HX5.out.keep hV))
        have HLk := Lib.hid (fun V (hV : Mod (fun _ => False) w5 V) => HLk0.out V (HX5.out.keep hV))
        go_wp2_with fail
        refine wp_region_held (S := (fun V : World => (V.cell? ⟨W.heap.size, 0, none⟩ = some (.slice x.P x.n x.c) ∧ V.cell? ⟨W.heap.size, 1, none⟩ = some (.slice (some ⟨b, o, none⟩) x.m x.d) ∧ V.cell? ⟨W.heap.size, 2, none⟩ = some (.int .i64 x.t.sl) ∧ V.cell? ⟨W.heap.size, 3, none⟩ = some (.int .i64 x.t.nw)) ∧ V.cell? ⟨b, o + i * 3 + 2, none⟩ = some (.int .i64 ai) ∧ V.cell? ⟨b, o + k * 3 + 2, none⟩ = some (.int .i64 ak))) (by kernel_rfl) ?_
        have hI := (show (fun V : World => (V.cell? ⟨W.heap.size, 0, none⟩ = some (.slice x.P x.n x.c) ∧ V.cell? ⟨W.heap.size, 1, none⟩ = some (.slice (some ⟨b, o, none⟩) x.m x.d) ∧ V.cell? ⟨W.heap.size, 2, none⟩ = some (.int .i64 x.t.sl) ∧ V.cell? ⟨W.heap.size, 3, none⟩ = some (.int .i64 x.t.nw)) ∧ V.cell? ⟨b, o + i * 3 + 2, none⟩ = some (.int .i64 ai) ∧ V.cell? ⟨b, o + k * 3 + 2, none⟩ = some (.int .i64 ak)) _ from HIg.out _ M0.out)
        refine rg_take (n := 7) (v := ?_) 0 (some 52) rfl rfl (by kernel_rfl) (by kernel_rfl) (by kernel_rfl) (fun _ _ _ h => h) (by rfl) hI ?_ ?_
        rotate_left
        · ((intro w hSw; (try dsimp only at hSw); go_simp); (try with_reducible rfl))
        try simp only [Act.put, List.setIfInBounds_toArray, List.set_cons_zero, List.set_cons_succ]
        refine rg_take (n := 6) (v := ?_) 1 (some 53) rfl rfl (by kernel_rfl) (by kernel_rfl) (by kernel_rfl) (fun _ _ _ h => h) (by rfl) hI ?_ ?_
        rotate_left
        · ((intro w hSw; (try dsimp only at hSw); go_simp); (try with_reducible rfl))
        try simp only [Act.put, List.setIfInBounds_toArray, List.set_cons_zero, List.set_cons_succ]
        refine rg_take (n := 5) (v := ?_) 3 (some 55) rfl rfl (by kernel_rfl) (by kernel_rfl) (by kernel_rfl) (fun _ _ _ h => h) (by rfl) hI ?_ ?_
        rotate_left
        · ((intro w hSw; (try dsimp only at hSw); go_simp); (try with_reducible rfl))
        try simp only [Act.put, List.setIfInBounds_toArray, List.set_cons_zero, List.set_cons_succ]
        refine rg_take (n := 4) (v := ?_) 4 (some 56) rfl rfl (by kernel_rfl) (by kernel_rfl) (by kernel_rfl) (fun _ _ _ h => h) (by rfl) hI ?_ ?_
        rotate_left
        · ((intro w hSw; (try dsimp only at hSw); go_simp); (try with_reducible rfl))
        try simp only [Act.put, List.setIfInBounds_toArray, List.set_cons_zero, List.set_cons_succ]
        refine rg_one (n := 3) 2 rfl (by kernel_rfl) (by rfl) ?_
        go_simp
        go_at_call 21
        refine (HLi.out _ M0.out).mono ?_
        rintro e u1 ⟨rfl, hml⟩
        have Mu1 := Lib.hid (M0.out.trans hml (fun _ _ h => h))
        clear hml
        clear hI
        have hI := (show (fun V : World => (V.cell? ⟨W.heap.size, 0, none⟩ = some (.slice x.P x.n x.c) ∧ V.cell? ⟨W.heap.size, 1, none⟩ = some (.slice (some ⟨b, o, none⟩) x.m x.d) ∧ V.cell? ⟨W.heap.size, 2, none⟩ = some (.int .i64 x.t.sl) ∧ V.cell? ⟨W.heap.size, 3, none⟩ = some (.int .i64 x.t.nw)) ∧ V.cell? ⟨b, o + i * 3 + 2, none⟩ = some (.int .i64 ai) ∧ V.cell? ⟨b, o + k * 3 + 2, none⟩ = some (.int .i64 ak)) _ from HIg.out _ Mu1.out)
        refine ⟨hI, ?_⟩
        try simp only [Act.put, List.setIfInBounds_toArray, List.set_cons_zero, List.set_cons_succ]
        refine rg_one (n := 2) 5 rfl (by kernel_rfl) (by rfl) ?_
        go_simp
        go_at_call 21
        refine (HLk.out _ Mu1.out).mono ?_
        rintro e u2 ⟨rfl, hml⟩
        have Mu2 := Lib.hid (Mu1.out.trans hml (fun _ _ h => h))
        clear hml
        clear hI
        have hI := (show (fun V : World => (V.cell? ⟨W.heap.size, 0, none⟩ = some (.slice x.P x.n x.c) ∧ V.cell? ⟨W.heap.size, 1, none⟩ = some (.slice (some ⟨b, o, none⟩) x.m x.d) ∧ V.cell? ⟨W.heap.size, 2, none⟩ = some (.int .i64 x.t.sl) ∧ V.cell? ⟨W.heap.size, 3, none⟩ = some (.int .i64 x.t.nw)) ∧ V.cell? ⟨b, o + i * 3 + 2, none⟩ = some (.int .i64 ai) ∧ V.cell? ⟨b, o + k * 3 + 2, none⟩ = some (.int .i64 ak)) _ from HIg.out _ Mu2.out)
        refine ⟨hI, ?_⟩
        try simp only [Act.put, List.setIfInBounds_toArray, List.set_cons_zero, List.set_cons_succ]
        refine rg_take (n := 1) (v := ?_) 6 (some 58) rfl rfl (by kernel_rfl) (by kernel_rfl) (by kernel_rfl) (fun _ _ _ h => h) (by rfl) hI ?_ ?_
        rotate_left
        · ((intro w hSw; (try dsimp only at hSw); go_simp); (try with_reducible rfl))
        try simp only [Act.put, List.setIfInBounds_toArray, List.set_cons_zero, List.set_cons_succ]
        refine rg_take (n := 0) (v := ?_) 7 (some 15) rfl rfl (by kernel_rfl) (by kernel_rfl) (by kernel_rfl) (fun _ _ _ h => h) (by rfl) hI ?_ ?_
        rotate_left
        · ((intro w hSw; (try dsimp only at hSw); go_simp); (try with_reducible rfl))
        try simp only [Act.put, List.setIfInBounds_toArray, List.set_cons_zero, List.set_cons_succ]
        refine wpAnyH_done (by kernel_rfl) ?_ _
        clear hI
        have hI2 := HIg.out _ Mu2.out
        obtain ⟨⟨c0, c1, c2, c3⟩, s0, s1⟩ := hI2
        go_wp2_with fail
        go_quiet (fail)
        generalize hu3 : World.drewN _ _ = u3
        have Mu3 : Hid (Mod (fun _ => False) w5 u3) := by rw [← hu3]; exact Mu2.out.drewN _
        have M1 : Hid (Mod (fun _ => False) w5 u3.drew) := Mu3.out.drew
        clear hu3 c0 c1 c2 c3 s0 s1 Mu1 Mu2
        go_wp2_with fail
        refine wp_region_held (S := (fun V : World => (V.cell? ⟨W.heap.size, 0, none⟩ = some (.slice x.P x.n x.c) ∧ V.cell? ⟨W.heap.size, 1, none⟩ = some (.slice (some ⟨b, o, none⟩) x.m x.d) ∧ V.cell? ⟨W.heap.size, 2, none⟩ = some (.int .i64 x.t.sl) ∧ V.cell? ⟨W.heap.size, 3, none⟩ = some (.int .i64 x.t.nw)) ∧ V.cell? ⟨b, o + i * 3 + 2, none⟩ = some (.int .i64 ai) ∧ V.cell? ⟨b, o + k * 3 + 2, none⟩ = some (.int .i64 ak))) (by kernel_rfl) ?_
        have hI := (show (fun V : World => (V.cell? ⟨W.heap.size, 0, none⟩ = some (.slice x.P x.n x.c) ∧ V.cell? ⟨W.heap.size, 1, none⟩ = some (.slice (some ⟨b, o, none⟩) x.m x.d) ∧ V.cell? ⟨W.heap.size, 2, none⟩ = some (.int .i64 x.t.sl) ∧ V.cell? ⟨W.heap.size, 3, none⟩ = some (.int .i64 x.t.nw)) ∧ V.cell? ⟨b, o + i * 3 + 2, none⟩ = some (.int .i64 ai) ∧ V.cell? ⟨b, o + k * 3 + 2, none⟩ = some (.int .i64 ak)) _ from HIg.out _ M1.out)
        refine rg_take (n := 27) (v := ?_) 0 (some 72) rfl rfl (by kernel_rfl) (by kernel_rfl) (by kernel_rfl) (fun _ _ _ h => h) (by rfl) hI ?_ ?_
        rotate_left
        · ((intro w hSw; (try dsimp only at hSw); go_simp); (try with_reducible rfl))
        try simp only [Act.put, List.setIfInBounds_toArray, List.set_cons_zero, List.set_cons_succ]
        refine rg_take (n := 26) (v := ?_) 1 (some 73) rfl rfl (by kernel_rfl) (by kernel_rfl) (by kernel_rfl) (fun _ _ _ h => h) (by rfl) hI ?_ ?_
        rotate_left
        · ((intro w hSw; (try dsimp only at hSw); go_simp); (try with_reducible rfl))
        try simp only [Act.put, List.setIfInBounds_toArray, List.set_cons_zero, List.set_cons_succ]
        refine rg_take (n := 25) (v := ?_) 2 (some 74) rfl rfl (by kernel_rfl) (by kernel_rfl) (by kernel_rfl) (fun _ _ _ h => h) (by rfl) hI ?_ ?_
        rotate_left
        · ((intro w hSw; (try dsimp only at hSw); go_simp); (try with_reducible rfl))
        try simp only [Act.put, List.setIfInBounds_toArray, List.set_cons_zero, List.set_cons_succ]
        refine rg_take (n := 24) (v := ?_) 3 (some 75) rfl rfl (by kernel_rfl) (by kernel_rfl) (by kernel_rfl) (fun _ _ _ h => h) (by rfl) hI ?_ ?_
        rotate_left
        · ((intro w hSw; (try dsimp only at hSw); go_simp); (try with_reducible rfl))
        try simp only [Act.put, List.setIfInBounds_toArray, List.set_cons_zero, List.set_cons_succ]
        refine rg_take (n := 23) (v := ?_) 4 (some 76) rfl rfl (by kernel_rfl) (by kernel_rfl) (by kernel_rfl) (fun _ _ _ h => h) (by rfl) hI ?_ ?_
        rotate_left
        · ((intro w hSw; (try dsimp only at hSw); go_simp); (try with_reducible rfl))
        try simp only [Act.put, List.setIfInBounds_toArray, List.set_cons_zero, List.set_cons_succ]
        refine rg_take (n := 22) (v := ?_) 5 (some 77) rfl rfl (by kernel_rfl) (by kernel_rfl) (by kernel_rfl) (fun _ _ _ h => h) (by rfl) hI ?_ ?_
        rotate_left
        · ((intro w hSw; (try dsimp only at hSw); go_simp); (try with_reducible rfl))
        try simp only [Act.put, List.setIfInBounds_toArray, List.set_cons_zero, List.set_cons_succ]
        refine rg_take (n := 21) (v := ?_) 6 (some 78) rfl rfl (by kernel_rfl) (by kernel_rfl) (by kernel_rfl) (fun _ _ _ h => h) (by rfl) hI ?_ ?_
        rotate_left
        · ((intro w hSw; (try dsimp only at hSw); go_simp); (try with_reducible rfl))
        try simp only [Act.put, List.setIfInBounds_toArray, List.set_cons_zero, List.set_cons_succ]
        refine rg_take (n := 20) (v := ?_) 7 (some 79) rfl rfl (by kernel_rfl) (by kernel_rfl) (by kernel_rfl) (fun _ _ _ h => h) (by rfl) hI ?_ ?_
        rotate_left
        · ((intro w hSw; (try dsimp only at hSw); go_simp); (try with_reducible rfl))
        try simp only [Act.put, List.setIfInBounds_toArray, List.set_cons_zero, List.set_cons_succ]
        refine rg_take (n := 19) (v := ?_) 8 (some 80) rfl rfl (by kernel_rfl) (by kernel_rfl) (by kernel_rfl) (fun _ _ _ h => h) (by rfl) hI ?_ ?_
        rotate_left
        · ((intro w hSw; (try dsimp only at hSw); go_simp); (try with_reducible rfl))
        try simp only [Act.put, List.setIfInBounds_toArray, List.set_cons_zero, List.set_cons_succ]
        refine rg_take (n := 18) (v := ?_) 9 (some 81) rfl rfl (by kernel_rfl) (by kernel_rfl) (by kernel_rfl) (fun _ _ _ h => h) (by rfl) hI ?_ ?_
        rotate_left
        · ((intro w hSw; (try dsimp only at hSw); go_simp); (try with_reducible rfl))
        try simp only [Act.put, List.setIfInBounds_toArray, List.set_cons_zero, List.set_cons_succ]
        refine rg_take (n := 17) (v := ?_) 10 (some 82) rfl rfl (by kernel_rfl) (by kernel_rfl) (by kernel_rfl) (fun _ _ _ h => h) (by rfl) hI ?_ ?_
        rotate_left
        · ((intro w hSw; (try dsimp only at hSw); go_simp); (try with_reducible rfl))
        try simp only [Act.put, List.setIfInBounds_toArray, List.set_cons_zero, List.set_cons_succ]
        refine rg_take (n := 16) (v := ?_) 11 (some 83) rfl rfl (by kernel_rfl) (by kernel_rfl) (by kernel_rfl) (fun _ _ _ h => h) (by rfl) hI ?_ ?_
        rotate_left
        · ((intro w hSw; (try dsimp only at hSw); go_simp); (try with_reducible rfl))
        try simp only [Act.put, List.setIfInBounds_toArray, List.set_cons_zero, List.set_cons_succ]
        refine rg_take (n := 15) (v := ?_) 12 (some 84) rfl rfl (by kernel_rfl) (by kernel_rfl) (by kernel_rfl) (fun _ _ _ h => h) (by rfl) hI ?_ ?_
        rotate_left
        · ((intro w hSw; (try dsimp only at hSw); go_simp); (try with_reducible rfl))
        try simp only [Act.put, List.setIfInBounds_toArray, List.set_cons_zero, List.set_cons_succ]
        refine rg_take (n := 14) (v := ?_) 13 (some 85) rfl rfl (by kernel_rfl) (by kernel_rfl) (by kernel_rfl) (fun _ _ _ h => h) (by rfl) hI ?_ ?_
        rotate_left
        · ((intro w hSw; (try dsimp only at hSw); go_simp); (try with_reducible rfl))
        try simp only [Act.put, List.setIfInBounds_toArray, List.set_cons_zero, List.set_cons_succ]
        refine rg_take (n := 13) (v := ?_) 14 (some 86) rfl rfl (by kernel_rfl) (by kernel_rfl) (by kernel_rfl) (fun _ _ _ h => h) (by rfl) hI ?_ ?_
        rotate_left
        · ((intro w hSw; (try dsimp only at hSw); go_simp); (try with_reducible rfl))
        try simp only [Act.put, List.setIfInBounds_toArray, List.set_cons_zero, List.set_cons_succ]
        refine rg_take (n := 12) (v := ?_) 15 (some 87) rfl rfl (by kernel_rfl) (by kernel_rfl) (by kernel_rfl) (fun _ _ _ h => h) (by rfl) hI ?_ ?_
        rotate_left
        · ((intro w hSw; (try dsimp only at hSw); go_simp); (try with_reducible rfl))
        try simp only [Act.put, List.setIfInBounds_toArray, List.set_cons_zero, List.set_cons_succ]
        refine rg_take (n := 11) (v := ?_) 16 (some 88) rfl rfl (by kernel_rfl) (by kernel_rfl) (by kernel_rfl) (fun _ _ _ h => h) (by rfl) hI ?_ ?_
        rotate_left
        · ((intro w hSw; (try dsimp only at hSw); go_simp); (try with_reducible rfl))
        try simp only [Act.put, List.setIfInBounds_toArray, List.set_cons_zero, List.set_cons_succ]
        refine rg_skip (n := 10) 17 (some 89) rfl rfl (by kernel_rfl) (by kernel_rfl) (by kernel_rfl) (fun _ _ _ h => h) (by rfl) hI ?_
        try simp only [Act.put, List.setIfInBounds_toArray, List.set_cons_zero, List.set_cons_succ]
        refine rg_skip (n := 9) 18 (some 90) rfl rfl (by kernel_rfl) (by kernel_rfl) (by kernel_rfl) (fun _ _ _ h => h) (by rfl) hI ?_
        try simp only [Act.put, List.setIfInBounds_toArray, List.set_cons_zero, List.set_cons_succ]
        refine rg_skip (n := 8) 19 (some 91) rfl rfl (by kernel_rfl) (by kernel_rfl) (by kernel_rfl) (fun _ _ _ h => h) (by rfl) hI ?_
        try simp only [Act.put, List.setIfInBounds_toArray, List.set_cons_zero, List.set_cons_succ]
        refine rg_skip (n := 7) 20 (some 92) rfl rfl (by kernel_rfl) (by kernel_rfl) (by kernel_rfl) (fun _ _ _ h => h) (by rfl) hI ?_
        try simp only [Act.put, List.setIfInBounds_toArray, List.set_cons_zero, List.set_cons_succ]
        refine rg_skip (n := 6) 21 (some 93) rfl rfl (by kernel_rfl) (by kernel_rfl) (by kernel_rfl) (fun _ _ _ h => h) (by rfl) hI ?_
        try simp only [Act.put, List.setIfInBounds_toArray, List.set_cons_zero, List.set_cons_succ]
        refine rg_skip (n := 5) 22 (some 94) rfl rfl (by kernel_rfl) (by kernel_rfl) (by kernel_rfl) (fun _ _ _ h => h) (by rfl) hI ?_
        try simp only [Act.put, List.setIfInBounds_toArray, List.set_cons_zero, List.set_cons_succ]
        refine rg_skip (n := 4) 23 (some 95) rfl rfl (by kernel_rfl) (by kernel_rfl) (by kernel_rfl) (fun _ _ _ h => h) (by rfl) hI ?_
        try simp only [Act.put, List.setIfInBounds_toArray, List.set_cons_zero, List.set_cons_succ]
        refine rg_skip (n := 3) 24 (some 96) rfl rfl (by kernel_rfl) (by kernel_rfl) (by kernel_rfl) (fun _ _ _ h => h) (by rfl) hI ?_
        try simp only [Act.put, List.setIfInBounds_toArray, List.set_cons_zero, List.set_cons_succ]
        refine rg_skip (n := 2) 25 (some 97) rfl rfl (by kernel_rfl) (by kernel_rfl) (by kernel_rfl) (fun _ _ _ h => h) (by rfl) hI ?_
        try simp only [Act.put, List.setIfInBounds_toArray, List.set_cons_zero, List.set_cons_succ]
        refine rg_skip (n := 1) 26 (some 98) rfl rfl (by kernel_rfl) (by kernel_rfl) (by kernel_rfl) (fun _ _ _ h => h) (by rfl) hI ?_
        try simp only [Act.put, List.setIfInBounds_toArray, List.set_cons_zero, List.set_cons_succ]
        refine rg_take (n := 0) (v := ?_) 27 (some 99) rfl rfl (by kernel_rfl) (by kernel_rfl) (by kernel_rfl) (fun _ _ _ h => h) (by rfl) hI ?_ ?_
        rotate_left
        · ((intro w hSw; (try dsimp only at hSw); go_simp); (try with_reducible rfl))
        try simp only [Act.put, List.setIfInBounds_toArray, List.set_cons_zero, List.set_cons_succ]
        refine wpAnyH_done (by kernel_rfl) ?_ _
        clear hI
        go_wp2
        go_ret
        exact ⟨rfl, (HM5.out.trans M1.out (fun _ _ h => h)).below (Nat.le_refl _) (fun _ _ => id)⟩
    have hA : decide (ai ≤ ak) = false := decide_eq_false e2
    have ho : (ai == ak) = false := by rw [beq_eq_false_iff_ne]; omega
    clear e1 e2 HQ
    go_enter Try.func6, Try.ntmps6
    go_wp2_with fail
    refine (cawake_ok _).mono ?_
    rintro e w2 ⟨rfl, hm2⟩
    clear hw1
    have HB2 := Lib.hid (HB1.out.keep hm2)
    have HX2 := Lib.hid (HX1.out.keep hm2)
    have HM2 := Lib.hid (HM1.out.trans hm2 (fun _ _ h => h))
    clear hm2
    obtain ⟨c0, c1, c2, c3⟩ := HB2.out.cells
    go_wp2_with fail
    refine (clight_ok _ x).mono ?_
    rintro e w3 ⟨rfl, hm3⟩
    clear c0 c1 c2 c3
    have HB3 := Lib.hid (HB2.out.keep hm3)
    have HX3 := Lib.hid (HX2.out.keep hm3)
    have HM3 := Lib.hid (HM2.out.trans hm3 (fun _ _ h => h))
    clear hm3
    rw [hlt]
    obtain ⟨c0, c1, c2, c3⟩ := HB3.out.cells
    go_wp2_with fail
    refine (HMY.out _ HX3.out).mono ?_
    rintro e w9 ⟨rfl, hm9⟩
    clear c0 c1 c2 c3
    have HB9 := Lib.hid (HB3.out.keep hm9)
    have HX9 := Lib.hid (HX3.out.keep hm9)
    have HM9 := Lib.hid (HM3.out.trans hm9 (fun _ _ h => h))
    clear hm9
    obtain ⟨c0, c1, c2, c3⟩ := HB9.out.cells
    go_wp2_with fail
    refine (G1.out _ HX9.out).mono ?_
    rintro e w4 ⟨rfl, hm4⟩
    clear c0 c1 c2 c3
    have HB4 := Lib.hid (HB9.out.keep hm4)
    have HX4 := Lib.hid (HX9.out.keep hm4)
    have HM4 := Lib.hid (HM9.out.trans hm4 (fun _ _ h => h))
    clear hm4
    obtain ⟨c0, c1, c2, c3⟩ := HB4.out.cells
    go_wp2_with fail
    refine (G2.out _ HX4.out).mono ?_
    rintro e w5 ⟨rfl, hm5⟩
    clear c0 c1 c2 c3
    have HB5 := Lib.hid (HB4.out.keep hm5)
    have HX5 := Lib.hid (HX4.out.keep hm5)
    have HM5 := Lib.hid (HM4.out.trans hm5 (fun _ _ h => h))
    clear hm5
    have M0 : Hid (Mod (fun _ => False) w5 w5.drew) := (Mod.refl _ w5).drew
    have HIg : Hid (∀ V, Mod (fun _ => False) w5 V → (fun V : World => (V.cell? ⟨W.heap.size, 0, none⟩ = some (.slice x.P x.n x.c) ∧ V.cell? ⟨W.heap.size, 1, none⟩ = some (.slice (some ⟨b, o, none⟩) x.m x.d) ∧ V.cell? ⟨W.heap.size, 2, none⟩ = some (.int .i64 x.t.sl) ∧ V.cell? ⟨W.heap.size, 3, none⟩ = some (.int .i64 x.t.nw)) ∧ V.cell? ⟨b, o + i * 3 + 2, none⟩ = some (.int .i64 ai) ∧ V.cell? ⟨b, o + k * 3 + 2, none⟩ = some (.int .i64 ak)) V) := fun V hV => ⟨by have := (HB5.out.keep hV).cells; rw [HS.out] at this; exact this, (Hcs.out V (HM5.out.trans hV (fun _ _ h => h))).1, (Hcs.out V (HM5.out.trans hV (fun _ _ h => h))).2⟩
    have HLi := Lib.hid (fun V (hV : Mod (fun _ => False) w5 V) => HLi0.out V (HX5.out.keep hV))
    have HLk := Lib.hid (fun V (hV : Mod (fun _ => False) w5 V) => HLk0.out V (HX5.out.keep hV))
    go_wp2_with fail
    refine wp_region_held (S := (fun V : World => (V.cell? ⟨W.heap.size, 0, none⟩ = some (.slice x.P x.n x.c) ∧ V.cell? ⟨W.heap.size, 1, none⟩ = some (.slice (some ⟨b, o, none⟩) x.m x.d) ∧ V.cell? ⟨W.heap.size, 2, none⟩ = some (.int .i64 x.t.sl) ∧ V.cell? ⟨W.heap.size, 3, none⟩ = some (.int .i64 x.t.nw)) ∧ V.cell? ⟨b, o + i * 3 + 2, none⟩ = some (.int .i64 ai) ∧ V.cell? ⟨b, o + k * 3 + 2, none⟩ = some (.int .i64 ak))) (by kernel_rfl) ?_
    have hI := (show (fun V : World => (V.cell? ⟨W.heap.size, 0, none⟩ = some (.slice x.P x.n x.c) ∧ V.cell? ⟨W.heap.size, 1, none⟩ = some (.slice (some ⟨b, o, none⟩) x.m x.d) ∧ V.cell? ⟨W.heap.size, 2, none⟩ = some (.int .i64 x.t.sl) ∧ V.cell? ⟨W.heap.size, 3, none⟩ = some (.int .i64 x.t.nw)) ∧ V.cell? ⟨b, o + i * 3 + 2, none⟩ = some (.int .i64 ai) ∧ V.cell? ⟨b, o + k * 3 + 2, none⟩ = some (.int .i64 ak)) _ from HIg.out _ M0.out)
    refine rg_take (n := 7) (v := ?_) 0 (some 52) rfl rfl (by kernel_rfl) (by kernel_rfl) (by kernel_rfl) (fun _ _ _ h => h) (by rfl) hI ?_ ?_
    rotate_left
    · ((intro w hSw; (try dsimp only at hSw); go_simp); (try with_reducible rfl))
    try simp only [Act.put, List.setIfInBounds_toArray, List.set_cons_zero, List.set_cons_succ]
    refine rg_take (n := 6) (v := ?_) 1 (some 53) rfl rfl (by kernel_rfl) (by kernel_rfl) (by kernel_rfl) (fun _ _ _ h => h) (by rfl) hI ?_ ?_
    rotate_left
    · ((intro w hSw; (try dsimp only at hSw); go_simp); (try with_reducible rfl))
    try simp only [Act.put, List.setIfInBounds_toArray, List.set_cons_zero, List.set_cons_succ]
    refine rg_take (n := 5) (v := ?_) 3 (some 55) rfl rfl (by kernel_rfl) (by kernel_rfl) (by kernel_rfl) (fun _ _ _ h => h) (by rfl) hI ?_ ?_
    rotate_left
    · ((intro w hSw; (try dsimp only at hSw); go_simp); (try with_reducible rfl))
    try simp only [Act.put, List.setIfInBounds_toArray, List.set_cons_zero, List.set_cons_succ]
    refine rg_take (n := 4) (v := ?_) 4 (some 56) rfl rfl (by kernel_rfl) (by kernel_rfl) (by kernel_rfl) (fun _ _ _ h => h) (by rfl) hI ?_ ?_
    rotate_left
    · ((intro w hSw; (try dsimp only at hSw); go_simp); (try with_reducible rfl))
    try simp only [Act.put, List.setIfInBounds_toArray, List.set_cons_zero, List.set_cons_succ]
    refine rg_one (n := 3) 2 rfl (by kernel_rfl) (by rfl) ?_
    go_simp
    go_at_call 21
    refine (HLi.out _ M0.out).mono ?_
    rintro e u1 ⟨rfl, hml⟩
    have Mu1 := Lib.hid (M0.out.trans hml (fun _ _ h => h))
    clear hml
    clear hI
    have hI := (show (fun V : World => (V.cell? ⟨W.heap.size, 0, none⟩ = some (.slice x.P x.n x.c) ∧ V.cell? ⟨W.heap.size, 1, none⟩ = some (.slice (some ⟨b, o, none⟩) x.m x.d) ∧ V.cell? ⟨W.heap.size, 2, none⟩ = some (.int .i64 x.t.sl) ∧ V.cell? ⟨W.heap.size, 3, none⟩ = some (.int .i64 x.t.nw)) ∧ V.cell? ⟨b, o + i * 3 + 2, none⟩ = some (.int .i64 ai) ∧ V.cell? ⟨b, o + k * 3 + 2, none⟩ = some (.int .i64 ak)) _ from HIg.out _ Mu1.out)
    refine ⟨hI, ?_⟩
    try simp only [Act.put, List.setIfInBounds_toArray, List.set_cons_zero, List.set_cons_succ]
    refine rg_one (n := 2) 5 rfl (by kernel_rfl) (by rfl) ?_
    go_simp
    go_at_call 21
    refine (HLk.out _ Mu1.out).mono ?_
    rintro e u2 ⟨rfl, hml⟩
    have Mu2 := Lib.hid (Mu1.out.trans hml (fun _ _ h => h))
    clear hml
    clear hI
    have hI := (show (fun V : World => (V.cell? ⟨W.heap.size, 0, none⟩ = some (.slice x.P x.n x.c) ∧ V.cell? ⟨W.heap.size, 1, none⟩ = some (.slice (some ⟨b, o, none⟩) x.m x.d) ∧ V.cell? ⟨W.heap.size, 2, none⟩ = some (.int .i64 x.t.sl) ∧ V.cell? ⟨W.heap.size, 3, none⟩ = some (.int .i64 x.t.nw)) ∧ V.cell? ⟨b, o + i * 3 + 2, none⟩ = some (.int .i64 ai) ∧ V.cell? ⟨b, o + k * 3 + 2, none⟩ = some (.int .i64 ak)) _ from HIg.out _ Mu2.out)
    refine ⟨hI, ?_⟩
    try simp only [Act.put, List.setIfInBounds_toArray, List.set_cons_zero, List.set_cons_succ]
    refine rg_take (n := 1) (v := ?_) 6 (some 58) rfl rfl (by kernel_rfl) (by kernel_rfl) (by kernel_rfl) (fun _ _ _ h => h) (by rfl) hI ?_ ?_
    rotate_left
    · ((intro w hSw; (try dsimp only at hSw); go_simp); (try with_reducible rfl))
    try simp only [Act.put, List.setIfInBounds_toArray, List.set_cons_zero, List.set_cons_succ]
    refine rg_take (n := 0) (v := ?_) 7 (some 15) rfl rfl (by kernel_rfl) (by kernel_rfl) (by kernel_rfl) (fun _ _ _ h => h) (by rfl) hI ?_ ?_
    rotate_left
    · ((intro w hSw; (try dsimp only at hSw); go_simp); (try with_reducible rfl))
    try simp only [Act.put, List.setIfInBounds_toArray, List.set_cons_zero, List.set_cons_succ]
    refine wpAnyH_done (by kernel_rfl) ?_ _
    clear hI
    have hI2 := HIg.out _ Mu2.out
    obtain ⟨⟨c0, c1, c2, c3⟩, s0, s1⟩ := hI2
    go_wp2_with fail
    go_quiet (fail)
    generalize hu3 : World.drewN _ _ = u3
    have Mu3 : Hid (Mod (fun _ => False) w5 u3) := by rw [← hu3]; exact Mu2.out.drewN _
    have M1 : Hid (Mod (fun _ => False) w5 u3.drew) := Mu3.out.drew
    clear hu3 c0 c1 c2 c3 s0 s1 Mu1 Mu2
    go_wp2_with fail
    refine wp_region_held (S := (fun V : World => (V.cell? ⟨W.heap.size, 0, none⟩ = some (.slice x.P x.n x.c) ∧ V.cell? ⟨W.heap.size, 1, none⟩ = some (.slice (some ⟨b, o, none⟩) x.m x.d) ∧ V.cell? ⟨W.heap.size, 2, none⟩ = some (.int .i64 x.t.sl) ∧ V.cell? ⟨W.heap.size, 3, none⟩ = some (.int .i64 x.t.nw)) ∧ V.cell? ⟨b, o + i * 3 + 2, none⟩ = some (.int .i64 ai) ∧ V.cell? ⟨b, o + k * 3 + 2, none⟩ = some (.int .i64 ak))) (by kernel_rfl) ?_
    have hI := (show (fun V : World => (V.cell? ⟨W.heap.size, 0, none⟩ = some (.slice x.P x.n x.c) ∧ V.cell? ⟨W.heap.size, 1, none⟩ = some (.slice (some ⟨b, o, none⟩) x.m x.d) ∧ V.cell? ⟨W.heap.size, 2, none⟩ = some (.int .i64 x.t.sl) ∧ V.cell? ⟨W.heap.size, 3, none⟩ = some (.int .i64 x.t.nw)) ∧ V.cell? ⟨b, o + i * 3 + 2, none⟩ = some (.int .i64 ai) ∧ V.cell? ⟨b, o + k * 3 + 2, none⟩ = some (.int .i64 ak)) _ from HIg.out _ M1.out)
    refine rg_take (n := 27) (v := ?_) 0 (some 72) rfl rfl (by kernel_rfl) (by kernel_rfl) (by kernel_rfl) (fun _ _ _ h => h) (by rfl) hI ?_ ?_
    rotate_left
    · ((intro w hSw; (try dsimp only at hSw); go_simp); (try with_reducible rfl))
    try simp only [Act.put, List.setIfInBounds_toArray, List.set_cons_zero, List.set_cons_succ]
    refine rg_take (n := 26) (v := ?_) 1 (some 73) rfl rfl (by kernel_rfl) (by kernel_rfl) (by kernel_rfl) (fun _ _ _ h => h) (by rfl) hI ?_ ?_
    rotate_left
    · ((intro w hSw; (try dsimp only at hSw); go_simp); (try with_reducible rfl))
    try simp only [Act.put, List.setIfInBounds_toArray, List.set_cons_zero, List.set_cons_succ]
    refine rg_take (n := 25) (v := ?_) 2 (some 74) rfl rfl (by kernel_rfl) (by kernel_rfl) (by kernel_rfl) (fun _ _ _ h => h) (by rfl) hI ?_ ?_
    rotate_left
    · ((intro w hSw; (try dsimp only at hSw); go_simp); (try with_reducible rfl))
    try simp only [Act.put, List.setIfInBounds_toArray, List.set_cons_zero, List.set_cons_succ]
    refine rg_take (n := 24) (v := ?_) 3 (some 75) rfl rfl (by kernel_rfl) (by kernel_rfl) (by kernel_rfl) (fun _ _ _ h => h) (by rfl) hI ?_ ?_
    rotate_left
    · ((intro w hSw; (try dsimp only at hSw); go_simp); (try with_reducible rfl))
    try simp only [Act.put, List.setIfInBounds_toArray, List.set_cons_zero, List.set_cons_succ]
    refine rg_take (n := 23) (v := ?_) 4 (some 76) rfl rfl (by kernel_rfl) (by kernel_rfl) (by kernel_rfl) (fun _ _ _ h => h) (by rfl) hI ?_ ?_
    rotate_left
    · ((intro w hSw; (try dsimp only at hSw); go_simp); (try with_reducible rfl))
    try simp only [Act.put, List.setIfInBounds_toArray, List.set_cons_zero, List.set_cons_succ]
    refine rg_take (n := 22) (v := ?_) 5 (some 77) rfl rfl (by kernel_rfl) (by kernel_rfl) (by kernel_rfl) (fun _ _ _ h => h) (by rfl) hI ?_ ?_
    rotate_left
    · ((intro w hSw; (try dsimp only at hSw); go_simp); (try with_reducible rfl))
    try simp only [Act.put, List.setIfInBounds_toArray, List.set_cons_zero, List.set_cons_succ]
    refine rg_take (n := 21) (v := ?_) 6 (some 78) rfl rfl (by kernel_rfl) (by kernel_rfl) (by kernel_rfl) (fun _ _ _ h => h) (by rfl) hI ?_ ?_
    rotate_left
    · ((intro w hSw; (try dsimp only at hSw); go_simp); (try with_reducible rfl))
    try simp only [Act.put, List.setIfInBounds_toArray, List.set_cons_zero, List.set_cons_succ]
    refine rg_take (n := 20) (v := ?_) 7 (some 79) rfl rfl (by kernel_rfl) (by kernel_rfl) (by kernel_rfl) (fun _ _ _ h => h) (by rfl) hI ?_ ?_
    rotate_left
    · ((intro w hSw; (try dsimp only at hSw); go_simp); (try with_reducible rfl))
    try simp only [Act.put, List.setIfInBounds_toArray, List.set_cons_zero, List.set_cons_succ]
    refine rg_take (n := 19) (v := ?_) 8 (some 80) rfl rfl (by kernel_rfl) (by kernel_rfl) (by kernel_rfl) (fun _ _ _ h => h) (by rfl) hI ?_ ?_
    rotate_left
    · ((intro w hSw; (try dsimp only at hSw); go_simp); (try with_reducible rfl))
    try simp only [Act.put, List.setIfInBounds_toArray, List.set_cons_zero, List.set_cons_succ]
    refine rg_take (n := 18) (v := ?_) 9 (some 81) rfl rfl (by kernel_rfl) (by kernel_rfl) (by kernel_rfl) (fun _ _ _ h => h) (by rfl) hI ?_ ?_
    rotate_left
    · ((intro w hSw; (try dsimp only at hSw); go_simp); (try with_reducible rfl))
    try simp only [Act.put, List.setIfInBounds_toArray, List.set_cons_zero, List.set_cons_succ]
    refine rg_take (n := 17) (v := ?_) 10 (some 82) rfl rfl (by kernel_rfl) (by kernel_rfl) (by kernel_rfl) (fun _ _ _ h => h) (by rfl) hI ?_ ?_
    rotate_left
    · ((intro w hSw; (try dsimp only at hSw); go_simp); (try with_reducible rfl))
    try simp only [Act.put, List.setIfInBounds_toArray, List.set_cons_zero, List.set_cons_succ]
    refine rg_take (n := 16) (v := ?_) 11 (some 83) rfl rfl (by kernel_rfl) (by kernel_rfl) (by kernel_rfl) (fun _ _ _ h => h) (by rfl) hI ?_ ?_
    rotate_left
    · ((intro w hSw; (try dsimp only at hSw); go_simp); (try with_reducible rfl))
    try simp only [Act.put, List.setIfInBounds_toArray, List.set_cons_zero, List.set_cons_succ]
    refine rg_take (n := 15) (v := ?_) 12 (some 84) rfl rfl (by kernel_rfl) (by kernel_rfl) (by kernel_rfl) (fun _ _ _ h => h) (by rfl) hI ?_ ?_
    rotate_left
    · ((intro w hSw; (try dsimp only at hSw); go_simp); (try with_reducible rfl))
    try simp only [Act.put, List.setIfInBounds_toArray, List.set_cons_zero, List.set_cons_succ]
    refine rg_take (n := 14) (v := ?_) 13 (some 85) rfl rfl (by kernel_rfl) (by kernel_rfl) (by kernel_rfl) (fun _ _ _ h => h) (by rfl) hI ?_ ?_
    rotate_left
    · ((intro w hSw; (try dsimp only at hSw); go_simp); (try with_reducible rfl))
    try simp only [Act.put, List.setIfInBounds_toArray, List.set_cons_zero, List.set_cons_succ]
    refine rg_take (n := 13) (v := ?_) 14 (some 86) rfl rfl (by kernel_rfl) (by kernel_rfl) (by kernel_rfl) (fun _ _ _ h => h) (by rfl) hI ?_ ?_
    rotate_left
    · ((intro w hSw; (try dsimp only at hSw); go_simp); (try with_reducible rfl))
    try simp only [Act.put, List.setIfInBounds_toArray, List.set_cons_zero, List.set_cons_succ]
    refine rg_take (n := 12) (v := ?_) 15 (some 87) rfl rfl (by kernel_rfl) (by kernel_rfl) (by kernel_rfl) (fun _ _ _ h => h) (by rfl) hI ?_ ?_
    rotate_left
    · ((intro w hSw; (try dsimp only at hSw); go_simp); (try with_reducible rfl))
    try simp only [Act.put, List.setIfInBounds_toArray, List.set_cons_zero, List.set_cons_succ]
    refine rg_take (n := 11) (v := ?_) 16 (some 88) rfl rfl (by kernel_rfl) (by kernel_rfl) (by kernel_rfl) (fun _ _ _ h => h) (by rfl) hI ?_ ?_
    rotate_left
    · ((intro w hSw; (try dsimp only at hSw); go_simp); (try with_reducible rfl))
    try simp only [Act.put, List.setIfInBounds_toArray, List.set_cons_zero, List.set_cons_succ]
    refine rg_take (n := 10) (v := ?_) 17 (some 89) rfl rfl (by kernel_rfl) (by kernel_rfl) (by kernel_rfl) (fun _ _ _ h => h) (by rfl) hI ?_ ?_
    rotate_left
    · ((intro w hSw; (try dsimp only at hSw); go_simp); (try with_reducible rfl))
    try simp only [Act.put, List.setIfInBounds_toArray, List.set_cons_zero, List.set_cons_succ]
    refine rg_take (n := 9) (v := ?_) 18 (some 90) rfl rfl (by kernel_rfl) (by kernel_rfl) (by kernel_rfl) (fun _ _ _ h => h) (by rfl) hI ?_ ?_
    rotate_left
    · ((intro w hSw; (try dsimp only at hSw); go_simp); (try with_reducible rfl))
    try simp only [Act.put, List.setIfInBounds_toArray, List.set_cons_zero, List.set_cons_succ]
    refine rg_skip (n := 8) 19 (some 91) rfl rfl (by kernel_rfl) (by kernel_rfl) (by kernel_rfl) (fun _ _ _ h => h) (by rfl) hI ?_
    try simp only [Act.put, List.setIfInBounds_toArray, List.set_cons_zero, List.set_cons_succ]
    refine rg_skip (n := 7) 20 (some 92) rfl rfl (by kernel_rfl) (by kernel_rfl) (by kernel_rfl) (fun _ _ _ h => h) (by rfl) hI ?_
    try simp only [Act.put, List.setIfInBounds_toArray, List.set_cons_zero, List.set_cons_succ]
    refine rg_skip (n := 6) 21 (some 93) rfl rfl (by kernel_rfl) (by kernel_rfl) (by kernel_rfl) (fun _ _ _ h => h) (by rfl) hI ?_
    try simp only [Act.put, List.setIfInBounds_toArray, List.set_cons_zero, List.set_cons_succ]
    refine rg_skip (n := 5) 22 (some 94) rfl rfl (by kernel_rfl) (by kernel_rfl) (by kernel_rfl) (fun _ _ _ h => h) (by rfl) hI ?_
    try simp only [Act.put, List.setIfInBounds_toArray, List.set_cons_zero, List.set_cons_succ]
    refine rg_skip (n := 4) 23 (some 95) rfl rfl (by kernel_rfl) (by kernel_rfl) (by kernel_rfl) (fun _ _ _ h => h) (by rfl) hI ?_
    try simp only [Act.put, List.setIfInBounds_toArray, List.set_cons_zero, List.set_cons_succ]
    refine rg_skip (n := 3) 24 (some 96) rfl rfl (by kernel_rfl) (by kernel_rfl) (by kernel_rfl) (fun _ _ _ h => h) (by rfl) hI ?_
    try simp only [Act.put, List.setIfInBounds_toArray, List.set_cons_zero, List.set_cons_succ]
    refine rg_skip (n := 2) 25 (some 97) rfl rfl (by kernel_rfl) (by kernel_rfl) (by kernel_rfl) (fun _ _ _ h => h) (by rfl) hI ?_
    try simp only [Act.put, List.setIfInBounds_toArray, List.set_cons_zero, List.set_cons_succ]
    refine rg_take (n := 1) (v := ?_) 26 (some 98) rfl rfl (by kernel_rfl) (by kernel_rfl) (by kernel_rfl) (fun _ _ _ h => h) (by rfl) hI ?_ ?_
    rotate_left
    · ((intro w hSw; (try dsimp only at hSw); go_simp); (try with_reducible rfl))
    try simp only [Act.put, List.setIfInBounds_toArray, List.set_cons_zero, List.set_cons_succ]
    refine rg_take (n := 0) (v := ?_) 27 (some 99) rfl rfl (by kernel_rfl) (by kernel_rfl) (by kernel_rfl) (fun _ _ _ h => h) (by rfl) hI ?_ ?_
    rotate_left
    · ((intro w hSw; (try dsimp only at hSw); go_simp); (try with_reducible rfl))
    try simp only [Act.put, List.setIfInBounds_toArray, List.set_cons_zero, List.set_cons_succ]
    refine wpAnyH_done (by kernel_rfl) ?_ _
    clear hI
    go_wp2
    go_ret
    exact ⟨rfl, (HM5.out.trans M1.out (fun _ _ h => h)).below (Nat.le_refl _) (fun _ _ => id)⟩
  have hs : (li == lk) = false := by simpa using e1
  by_cases e3 : ai = ak
  rotate_left
  · have ho : (ai == ak) = false := by simpa using e3
    clear e1 e3 HQ
    go_enter Try.func6, Try.ntmps6
    go_wp2_with fail
    refine (cawake_ok _).mono ?_
    rintro e w2 ⟨rfl, hm2⟩
    clear hw1
    have HB2 := Lib.hid (HB1.out.keep hm2)
    have HX2 := Lib.hid (HX1.out.keep hm2)
    have HM2 := Lib.hid (HM1.out.trans hm2 (fun _ _ h => h))
    clear hm2
    obtain ⟨c0, c1, c2, c3⟩ := HB2.out.cells
    go_wp2_with fail
    refine (clight_ok _ x).mono ?_
    rintro e w3 ⟨rfl, hm3⟩
    clear c0 c1 c2 c3
    have HB3 := Lib.hid (HB2.out.keep hm3)
    have HX3 := Lib.hid (HX2.out.keep hm3)
    have HM3 := Lib.hid (HM2.out.trans hm3 (fun _ _ h => h))
    clear hm3
    rw [hlt]
    obtain ⟨c0, c1, c2, c3⟩ := HB3.out.cells
    go_wp2_with fail
    refine (HMY.out _ HX3.out).mono ?_
    rintro e w9 ⟨rfl, hm9⟩
    clear c0 c1 c2 c3
    have HB9 := Lib.hid (HB3.out.keep hm9)
    have HX9 := Lib.hid (HX3.out.keep hm9)
    have HM9 := Lib.hid (HM3.out.trans hm9 (fun _ _ h => h))
    clear hm9
    obtain ⟨c0, c1, c2, c3⟩ := HB9.out.cells
    go_wp2_with fail
    refine (G1.out _ HX9.out).mono ?_
    rintro e w4 ⟨rfl, hm4⟩
    clear c0 c1 c2 c3
    have HB4 := Lib.hid (HB9.out.keep hm4)
    have HX4 := Lib.hid (HX9.out.keep hm4)
    have HM4 := Lib.hid (HM9.out.trans hm4 (fun _ _ h => h))
    clear hm4
    obtain ⟨c0, c1, c2, c3⟩ := HB4.out.cells
    go_wp2_with fail
    refine (G2.out _ HX4.out).mono ?_
    rintro e w5 ⟨rfl, hm5⟩
    clear c0 c1 c2 c3
    have HB5 := Lib.hid (HB4.out.keep hm5)
    have HX5 := Lib.hid (HX4.out.keep hm5)
    have HM5 := Lib.hid (HM4.out.trans hm5 (fun _ _ h => h))
    clear hm5
    have M0 : Hid (Mod (fun _ => False) w5 w5.drew) := (Mod.refl _ w5).drew
    have HIg : Hid (∀ V, Mod (fun _ => False) w5 V → (fun V : World => (V.cell? ⟨W.heap.size, 0, none⟩ = some (.slice x.P x.n x.c) ∧ V.cell? ⟨W.heap.size, 1, none⟩ = some (.slice (some ⟨b, o, none⟩) x.m x.d) ∧ V.cell? ⟨W.heap.size, 2, none⟩ = some (.int .i64 x.t.sl) ∧ V.cell? ⟨W.heap.size, 3, none⟩ = some (.int .i64 x.t.nw)) ∧ V.cell? ⟨b, o + i * 3 + 2, none⟩ = some (.int .i64 ai) ∧ V.cell? ⟨b, o + k * 3 + 2, none⟩ = some (.int .i64 ak)) V) := fun V hV => ⟨by have := (HB5.out.keep hV).cells; rw [HS.out] at this; exact this, (Hcs.out V (HM5.out.trans hV (fun _ _ h => h))).1, (Hcs.out V (HM5.out.trans hV (fun _ _ h => h))).2⟩
    have HLi := Lib.hid (fun V (hV : Mod (fun _ => False) w5 V) => HLi0.out V (HX5.out.keep hV))
    have HLk := Lib.hid (fun V (hV : Mod (fun _ => False) w5 V) => HLk0.out V (HX5.out.keep hV))
    go_wp2_with fail
    refine wp_region_held (S := (fun V : World => (V.cell? ⟨W.heap.size, 0, none⟩ = some (.slice x.P x.n x.c) ∧ V.cell? ⟨W.heap.size, 1, none⟩ = some (.slice (some ⟨b, o, none⟩) x.m x.d) ∧ V.cell? ⟨W.heap.size, 2, none⟩ = some (.int .i64 x.t.sl) ∧ V.cell? ⟨W.heap.size, 3, none⟩ = some (.int .i64 x.t.nw)) ∧ V.cell? ⟨b, o + i * 3 + 2, none⟩ = some (.int .i64 ai) ∧ V.cell? ⟨b, o + k * 3 + 2, none⟩ = some (.int .i64 ak))) (by kernel_rfl) ?_
    have hI := (show (fun V : World => (V.cell? ⟨W.heap.size, 0, none⟩ = some (.slice x.P x.n x.c) ∧ V.cell? ⟨W.heap.size, 1, none⟩ = some (.slice (some ⟨b, o, none⟩) x.m x.d) ∧ V.cell? ⟨W.heap.size, 2, none⟩ = some (.int .i64 x.t.sl) ∧ V.cell? ⟨W.heap.size, 3, none⟩ = some (.int .i64 x.t.nw)) ∧ V.cell? ⟨b, o + i * 3 + 2, none⟩ = some (.int .i64 ai) ∧ V.cell? ⟨b, o + k * 3 + 2, none⟩ = some (.int .i64 ak)) _ from HIg.out _ M0.out)
    refine rg_take (n := 7) (v := ?_) 0 (some 52) rfl rfl (by kernel_rfl) (by kernel_rfl) (by kernel_rfl) (fun _ _ _ h => h) (by rfl) hI ?_ ?_
    rotate_left
    · ((intro w hSw; (try dsimp only at hSw); go_simp); (try with_reducible rfl))
    try simp only [Act.put, List.setIfInBounds_toArray, List.set_cons_zero, List.set_cons_succ]
    refine rg_take (n := 6) (v := ?_) 1 (some 53) rfl rfl (by kernel_rfl) (by kernel_rfl) (by kernel_rfl) (fun _ _ _ h => h) (by rfl) hI ?_ ?_
    rotate_left
    · ((intro w hSw; (try dsimp only at hSw); go_simp); (try with_reducible rfl))
    try simp only [Act.put, List.setIfInBounds_toArray, List.set_cons_zero, List.set_cons_succ]
    refine rg_take (n := 5) (v := ?_) 3 (some 55) rfl rfl (by kernel_rfl) (by kernel_rfl) (by kernel_rfl) (fun _ _ _ h => h) (by rfl) hI ?_ ?_
    rotate_left
    · ((intro w hSw; (try dsimp only at hSw); go_simp); (try with_reducible rfl))
    try simp only [Act.put, List.setIfInBounds_toArray, List.set_cons_zero, List.set_cons_succ]
    refine rg_take (n := 4) (v := ?_) 4 (some 56) rfl rfl (by kernel_rfl) (by kernel_rfl) (by kernel_rfl) (fun _ _ _ h => h) (by rfl) hI ?_ ?_
    rotate_left
    · ((intro w hSw; (try dsimp only at hSw); go_simp); (try with_reducible rfl))
    try simp only [Act.put, List.setIfInBounds_toArray, List.set_cons_zero, List.set_cons_succ]
    refine rg_one (n := 3) 2 rfl (by kernel_rfl) (by rfl) ?_
    go_simp
    go_at_call 21
    refine (HLi.out _ M0.out).mono ?_
    rintro e u1 ⟨rfl, hml⟩
    have Mu1 := Lib.hid (M0.out.trans hml (fun _ _ h => h))
    clear hml
    clear hI
    have hI := (show (fun V : World => (V.cell? ⟨W.heap.size, 0, none⟩ = some (.slice x.P x.n x.c) ∧ V.cell? ⟨W.heap.size, 1, none⟩ = some (.slice (some ⟨b, o, none⟩) x.m x.d) ∧ V.cell? ⟨W.heap.size, 2, none⟩ = some (.int .i64 x.t.sl) ∧ V.cell? ⟨W.heap.size, 3, none⟩ = some (.int .i64 x.t.nw)) ∧ V.cell? ⟨b, o + i * 3 + 2, none⟩ = some (.int .i64 ai) ∧ V.cell? ⟨b, o + k * 3 + 2, none⟩ = some (.int .i64 ak)) _ from HIg.out _ Mu1.out)
    refine ⟨hI, ?_⟩
    try simp only [Act.put, List.setIfInBounds_toArray, List.set_cons_zero, List.set_cons_succ]
    refine rg_one (n := 2) 5 rfl (by kernel_rfl) (by rfl) ?_
    go_simp
    go_at_call 21
    refine (HLk.out _ Mu1.out).mono ?_
    rintro e u2 ⟨rfl, hml⟩
    have Mu2 := Lib.hid (Mu1.out.trans hml (fun _ _ h => h))
    clear hml
    clear hI
    have hI := (show (fun V : World => (V.cell? ⟨W.heap.size, 0, none⟩ = some (.slice x.P x.n x.c) ∧ V.cell? ⟨W.heap.size, 1, none⟩ = some (.slice (some ⟨b, o, none⟩) x.m x.d) ∧ V.cell? ⟨W.heap.size, 2, none⟩ = some (.int .i64 x.t.sl) ∧ V.cell? ⟨W.heap.size, 3, none⟩ = some (.int .i64 x.t.nw)) ∧ V.cell? ⟨b, o + i * 3 + 2, none⟩ = some (.int .i64 ai) ∧ V.cell? ⟨b, o + k * 3 + 2, none⟩ = some (.int .i64 ak)) _ from HIg.out _ Mu2.out)
    refine ⟨hI, ?_⟩
    try simp only [Act.put, List.setIfInBounds_toArray, List.set_cons_zero, List.set_cons_succ]
    refine rg_take (n := 1) (v := ?_) 6 (some 58) rfl rfl (by kernel_rfl) (by kernel_rfl) (by kernel_rfl) (fun _ _ _ h => h) (by rfl) hI ?_ ?_
    rotate_left
    · ((intro w hSw; (try dsimp only at hSw); go_simp); (try with_reducible rfl))
    try simp only [Act.put, List.setIfInBounds_toArray, List.set_cons_zero, List.set_cons_succ]
    refine rg_take (n := 0) (v := ?_) 7 (some 15) rfl rfl (by kernel_rfl) (by kernel_rfl) (by kernel_rfl) (fun _ _ _ h => h) (by rfl) hI ?_ ?_
    rotate_left
    · ((intro w hSw; (try dsimp only at hSw); go_simp); (try with_reducible rfl))
    try simp only [Act.put, List.setIfInBounds_toArray, List.set_cons_zero, List.set_cons_succ]
    refine wpAnyH_done (by kernel_rfl) ?_ _
    clear hI
    have hI2 := HIg.out _ Mu2.out
    obtain ⟨⟨c0, c1, c2, c3⟩, s0, s1⟩ := hI2
    go_wp2_with fail
    go_quiet (fail)
    generalize hu3 : World.drewN _ _ = u3
    have Mu3 : Hid (Mod (fun _ => False) w5 u3) := by rw [← hu3]; exact Mu2.out.drewN _
    have M1 : Hid (Mod (fun _ => False) w5 u3.drew) := Mu3.out.drew
    clear hu3 c0 c1 c2 c3 s0 s1 Mu1 Mu2
    go_wp2_with fail
    refine wp_region_held (S := (fun V : World => (V.cell? ⟨W.heap.size, 0, none⟩ = some (.slice x.P x.n x.c) ∧ V.cell? ⟨W.heap.size, 1, none⟩ = some (.slice (some ⟨b, o, none⟩) x.m x.d) ∧ V.cell? ⟨W.heap.size, 2, none⟩ = some (.int .i64 x.t.sl) ∧ V.cell? ⟨W.heap.size, 3, none⟩ = some (.int .i64 x.t.nw)) ∧ V.cell? ⟨b, o + i * 3 + 2, none⟩ = some (.int .i64 ai) ∧ V.cell? ⟨b, o + k * 3 + 2, none⟩ = some (.int .i64 ak))) (by kernel_rfl) ?_
    have hI := (show (fun V : World => (V.cell? ⟨W.heap.size, 0, none⟩ = some (.slice x.P x.n x.c) ∧ V.cell? ⟨W.heap.size, 1, none⟩ = some (.slice (some ⟨b, o, none⟩) x.m x.d) ∧ V.cell? ⟨W.heap.size, 2, none⟩ = some (.int .i64 x.t.sl) ∧ V.cell? ⟨W.heap.size, 3, none⟩ = some (.int .i64 x.t.nw)) ∧ V.cell? ⟨b, o + i * 3 + 2, none⟩ = some (.int .i64 ai) ∧ V.cell? ⟨b, o + k * 3 + 2, none⟩ = some (.int .i64 ak)) _ from HIg.out _ M1.out)
    refine rg_take (n := 27) (v := ?_) 0 (some 72) rfl rfl (by kernel_rfl) (by kernel_rfl) (by kernel_rfl) (fun _ _ _ h => h) (by rfl) hI ?_ ?_
    rotate_left
    · ((intro w hSw; (try dsimp only at hSw); go_simp); (try with_reducible rfl))
    try simp only [Act.put, List.setIfInBounds_toArray, List.set_cons_zero, List.set_cons_succ]
    refine rg_take (n := 26) (v := ?_) 1 (some 73) rfl rfl (by kernel_rfl) (by kernel_rfl) (by kernel_rfl) (fun _ _ _ h => h) (by rfl) hI ?_ ?_
    rotate_left
    · ((intro w hSw; (try dsimp only at hSw); go_simp); (try with_reducible rfl))
    try simp only [Act.put, List.setIfInBounds_toArray, List.set_cons_zero, List.set_cons_succ]
    refine rg_skip (n := 25) 2 (some 74) rfl rfl (by kernel_rfl) (by kernel_rfl) (by kernel_rfl) (fun _ _ _ h => h) (by rfl) hI ?_
    try simp only [Act.put, List.setIfInBounds_toArray, List.set_cons_zero, List.set_cons_succ]
    refine rg_skip (n := 24) 3 (some 75) rfl rfl (by kernel_rfl) (by kernel_rfl) (by kernel_rfl) (fun _ _ _ h => h) (by rfl) hI ?_
    try simp only [Act.put, List.setIfInBounds_toArray, List.set_cons_zero, List.set_cons_succ]
    refine rg_skip (n := 23) 4 (some 76) rfl rfl (by kernel_rfl) (by kernel_rfl) (by kernel_rfl) (fun _ _ _ h => h) (by rfl) hI ?_
    try simp only [Act.put, List.setIfInBounds_toArray, List.set_cons_zero, List.set_cons_succ]
    refine rg_skip (n := 22) 5 (some 77) rfl rfl (by kernel_rfl) (by kernel_rfl) (by kernel_rfl) (fun _ _ _ h => h) (by rfl) hI ?_
    try simp only [Act.put, List.setIfInBounds_toArray, List.set_cons_zero, List.set_cons_succ]
    refine rg_skip (n := 21) 6 (some 78) rfl rfl (by kernel_rfl) (by kernel_rfl) (by kernel_rfl) (fun _ _ _ h => h) (by rfl) hI ?_
    try simp only [Act.put, List.setIfInBounds_toArray, List.set_cons_zero, List.set_cons_succ]
    refine rg_skip (n := 20) 7 (some 79) rfl rfl (by kernel_rfl) (by kernel_rfl) (by kernel_rfl) (fun _ _ _ h => h) (by rfl) hI ?_
    try simp only [Act.put, List.setIfInBounds_toArray, List.set_cons_zero, List.set_cons_succ]
    refine rg_skip (n := 19) 8 (some 80) rfl rfl (by kernel_rfl) (by kernel_rfl) (by kernel_rfl) (fun _ _ _ h => h) (by rfl) hI ?_
    try simp only [Act.put, List.setIfInBounds_toArray, List.set_cons_zero, List.set_cons_succ]
    refine rg_skip (n := 18) 9 (some 81) rfl rfl (by kernel_rfl) (by kernel_rfl) (by kernel_rfl) (fun _ _ _ h => h) (by rfl) hI ?_
    try simp only [Act.put, List.setIfInBounds_toArray, List.set_cons_zero, List.set_cons_succ]
    refine rg_skip (n := 17) 10 (some 82) rfl rfl (by kernel_rfl) (by kernel_rfl) (by kernel_rfl) (fun _ _ _ h => h) (by rfl) hI ?_
    try simp only [Act.put, List.setIfInBounds_toArray, List.set_cons_zero, List.set_cons_succ]
    refine rg_skip (n := 16) 11 (some 83) rfl rfl (by kernel_rfl) (by kernel_rfl) (by kernel_rfl) (fun _ _ _ h => h) (by rfl) hI ?_
    try simp only [Act.put, List.setIfInBounds_toArray, List.set_cons_zero, List.set_cons_succ]
    refine rg_skip (n := 15) 12 (some 84) rfl rfl (by kernel_rfl) (by kernel_rfl) (by kernel_rfl) (fun _ _ _ h => h) (by rfl) hI ?_
    try simp only [Act.put, List.setIfInBounds_toArray, List.set_cons_zero, List.set_cons_succ]
    refine rg_skip (n := 14) 13 (some 85) rfl rfl (by kernel_rfl) (by kernel_rfl) (by kernel_rfl) (fun _ _ _ h => h) (by rfl) hI ?_
    try simp only [Act.put, List.setIfInBounds_toArray, List.set_cons_zero, List.set_cons_succ]
    refine rg_skip (n := 13) 14 (some 86) rfl rfl (by kernel_rfl) (by kernel_rfl) (by kernel_rfl) (fun _ _ _ h => h) (by rfl) hI ?_
    try simp only [Act.put, List.setIfInBounds_toArray, List.set_cons_zero, List.set_cons_succ]
    refine rg_take (n := 12) (v := ?_) 15 (some 87) rfl rfl (by kernel_rfl) (by kernel_rfl) (by kernel_rfl) (fun _ _ _ h => h) (by rfl) hI ?_ ?_
    rotate_left
    · ((intro w hSw; (try dsimp only at hSw); go_simp); (try with_reducible rfl))
    try simp only [Act.put, List.setIfInBounds_toArray, List.set_cons_zero, List.set_cons_succ]
    refine rg_take (n := 11) (v := ?_) 16 (some 88) rfl rfl (by kernel_rfl) (by kernel_rfl) (by kernel_rfl) (fun _ _ _ h => h) (by rfl) hI ?_ ?_
    rotate_left
    · ((intro w hSw; (try dsimp only at hSw); go_simp); (try with_reducible rfl))
    try simp only [Act.put, List.setIfInBounds_toArray, List.set_cons_zero, List.set_cons_succ]
    refine rg_take (n := 10) (v := ?_) 17 (some 89) rfl rfl (by kernel_rfl) (by kernel_rfl) (by kernel_rfl) (fun _ _ _ h => h) (by rfl) hI ?_ ?_
    rotate_left
    · ((intro w hSw; (try dsimp only at hSw); go_simp); (try with_reducible rfl))
    try simp only [Act.put, List.setIfInBounds_toArray, List.set_cons_zero, List.set_cons_succ]
    refine rg_take (n := 9) (v := ?_) 18 (some 90) rfl rfl (by kernel_rfl) (by kernel_rfl) (by kernel_rfl) (fun _ _ _ h => h) (by rfl) hI ?_ ?_
    rotate_left
    · ((intro w hSw; (try dsimp only at hSw); go_simp); (try with_reducible rfl))
    try simp only [Act.put, List.setIfInBounds_toArray, List.set_cons_zero, List.set_cons_succ]
    refine rg_skip (n := 8) 19 (some 91) rfl rfl (by kernel_rfl) (by kernel_rfl) (by kernel_rfl) (fun _ _ _ h => h) (by rfl) hI ?_
    try simp only [Act.put, List.setIfInBounds_toArray, List.set_cons_zero, List.set_cons_succ]
    refine rg_skip (n := 7) 20 (some 92) rfl rfl (by kernel_rfl) (by kernel_rfl) (by kernel_rfl) (fun _ _ _ h => h) (by rfl) hI ?_
    try simp only [Act.put, List.setIfInBounds_toArray, List.set_cons_zero, List.set_cons_succ]
    refine rg_skip (n := 6) 21 (some 93) rfl rfl (by kernel_rfl) (by kernel_rfl) (by kernel_rfl) (fun _ _ _ h => h) (by rfl) hI ?_
    try simp only [Act.put, List.setIfInBounds_toArray, List.set_cons_zero, List.set_cons_succ]
    refine rg_skip (n := 5) 22 (some 94) rfl rfl (by kernel_rfl) (by kernel_rfl) (by kernel_rfl) (fun _ _ _ h => h) (by rfl) hI ?_
    try simp only [Act.put, List.setIfInBounds_toArray, List.set_cons_zero, List.set_cons_succ]
    refine rg_skip (n := 4) 23 (some 95) rfl rfl (by kernel_rfl) (by kernel_rfl) (by kernel_rfl) (fun _ _ _ h => h) (by rfl) hI ?_
    try simp only [Act.put, List.setIfInBounds_toArray, List.set_cons_zero, List.set_cons_succ]
    refine rg_skip (n := 3) 24 (some 96) rfl rfl (by kernel_rfl) (by kernel_rfl) (by kernel_rfl) (fun _ _ _ h => h) (by rfl) hI ?_
    try simp only [Act.put, List.setIfInBounds_toArray, List.set_cons_zero, List.set_cons_succ]
    refine rg_skip (n := 2) 25 (some 97) rfl rfl (by kernel_rfl) (by kernel_rfl) (by kernel_rfl) (fun _ _ _ h => h) (by rfl) hI ?_
    try simp only [Act.put, List.setIfInBounds_toArray, List.set_cons_zero, List.set_cons_succ]
    refine rg_take (n := 1) (v := ?_) 26 (some 98) rfl rfl (by kernel_rfl) (by kernel_rfl) (by kernel_rfl) (fun _ _ _ h => h) (by rfl) hI ?_ ?_
    rotate_left
    · ((intro w hSw; (try dsimp only at hSw); go_simp); (try with_reducible rfl))
    try simp only [Act.put, List.setIfInBounds_toArray, List.set_cons_zero, List.set_cons_succ]
    refine rg_take (n := 0) (v := ?_) 27 (some 99) rfl rfl (by kernel_rfl) (by kernel_rfl) (by kernel_rfl) (fun _ _ _ h => h) (by rfl) hI ?_ ?_
    rotate_left
    · ((intro w hSw; (try dsimp only at hSw); go_simp); (try with_reducible rfl))
    try simp only [Act.put, List.setIfInBounds_toArray, List.set_cons_zero, List.set_cons_succ]
    refine wpAnyH_done (by kernel_rfl) ?_ _
    clear hI
    go_wp2
    go_ret
    exact ⟨rfl, (HM5.out.trans M1.out (fun _ _ h => h)).below (Nat.le_refl _) (fun _ _ => id)⟩
  have ho : (ai == ak) = true := by simpa using e3
  by_cases e4 : li ≤ lk
  · have hB : decide (li ≤ lk) = true := decide_eq_true e4
    have hq := HQ.out (.inr ⟨e3, e4⟩)
    have hqd : decide (Nk * Di ≤ Ni * Dk) = true := decide_eq_true hq
    clear e1 e3 e4 hq HQ
    go_enter Try.func6, Try.ntmps6
    go_wp2_with fail
    refine (cawake_ok _).mono ?_
    rintro e w2 ⟨rfl, hm2⟩
    clear hw1
    have HB2 := Lib.hid (HB1.out.keep hm2)
    have HX2 := Lib.hid (HX1.out.keep hm2)
    have HM2 := Lib.hid (HM1.out.trans hm2 (fun _ _ h => h))
    clear hm2
    obtain ⟨c0, c1, c2, c3⟩ := HB2.out.cells
    go_wp2_with fail
    refine (clight_ok _ x).mono ?_
    rintro e w3 ⟨rfl, hm3⟩
    clear c0 c1 c2 c3
    have HB3 := Lib.hid (HB2.out.keep hm3)
    have HX3 := Lib.hid (HX2.out.keep hm3)
    have HM3 := Lib.hid (HM2.out.trans hm3 (fun _ _ h => h))
    clear hm3
    rw [hlt]
    obtain ⟨c0, c1, c2, c3⟩ := HB3.out.cells
    go_wp2_with fail
    refine (HMY.out _ HX3.out).mono ?_
    rintro e w9 ⟨rfl, hm9⟩
    clear c0 c1 c2 c3
    have HB9 := Lib.hid (HB3.out.keep hm9)
    have HX9 := Lib.hid (HX3.out.keep hm9)
    have HM9 := Lib.hid (HM3.out.trans hm9 (fun _ _ h => h))
    clear hm9
    obtain ⟨c0, c1, c2, c3⟩ := HB9.out.cells
    go_wp2_with fail
    refine (G1.out _ HX9.out).mono ?_
    rintro e w4 ⟨rfl, hm4⟩
    clear c0 c1 c2 c3
    have HB4 := Lib.hid (HB9.out.keep hm4)
    have HX4 := Lib.hid (HX9.out.keep hm4)
    have HM4 := Lib.hid (HM9.out.trans hm4 (fun _ _ h => h))
    clear hm4
    obtain ⟨c0, c1, c2, c3⟩ := HB4.out.cells
    go_wp2_with fail
    refine (G2.out _ HX4.out).mono ?_
    rintro e w5 ⟨rfl, hm5⟩
    clear c0 c1 c2 c3
    have HB5 := Lib.hid (HB4.out.keep hm5)
    have HX5 := Lib.hid (HX4.out.keep hm5)
    have HM5 := Lib.hid (HM4.out.trans hm5 (fun _ _ h => h))
    clear hm5
    have M0 : Hid (Mod (fun _ => False) w5 w5.drew) := (Mod.refl _ w5).drew
    have HIg : Hid (∀ V, Mod (fun _ => False) w5 V → (fun V : World => (V.cell? ⟨W.heap.size, 0, none⟩ = some (.slice x.P x.n x.c) ∧ V.cell? ⟨W.heap.size, 1, none⟩ = some (.slice (some ⟨b, o, none⟩) x.m x.d) ∧ V.cell? ⟨W.heap.size, 2, none⟩ = some (.int .i64 x.t.sl) ∧ V.cell? ⟨W.heap.size, 3, none⟩ = some (.int .i64 x.t.nw)) ∧ V.cell? ⟨b, o + i * 3 + 2, none⟩ = some (.int .i64 ai) ∧ V.cell? ⟨b, o + k * 3 + 2, none⟩ = some (.int .i64 ak)) V) := fun V hV => ⟨by have := (HB5.out.keep hV).cells; rw [HS.out] at this; exact this, (Hcs.out V (HM5.out.trans hV (fun _ _ h => h))).1, (Hcs.out V (HM5.out.trans hV (fun _ _ h => h))).2⟩
    have HLi := Lib.hid (fun V (hV : Mod (fun _ => False) w5 V) => HLi0.out V (HX5.out.keep hV))
    have HLk := Lib.hid (fun V (hV : Mod (fun _ => False) w5 V) => HLk0.out V (HX5.out.keep hV))
    go_wp2_with fail
    refine wp_region_held (S := (fun V : World => (V.cell? ⟨W.heap.size, 0, none⟩ = some (.slice x.P x.n x.c) ∧ V.cell? ⟨W.heap.size, 1, none⟩ = some (.slice (some ⟨b, o, none⟩) x.m x.d) ∧ V.cell? ⟨W.heap.size, 2, none⟩ = some (.int .i64 x.t.sl) ∧ V.cell? ⟨W.heap.size, 3, none⟩ = some (.int .i64 x.t.nw)) ∧ V.cell? ⟨b, o + i * 3 + 2, none⟩ = some (.int .i64 ai) ∧ V.cell? ⟨b, o + k * 3 + 2, none⟩ = some (.int .i64 ak))) (by kernel_rfl) ?_
    have hI := (show (fun V : World => (V.cell? ⟨W.heap.size, 0, none⟩ = some (.slice x.P x.n x.c) ∧ V.cell? ⟨W.heap.size, 1, none⟩ = some (.slice (some ⟨b, o, none⟩) x.m x.d) ∧ V.cell? ⟨W.heap.size, 2, none⟩ = some (.int .i64 x.t.sl) ∧ V.cell? ⟨W.heap.size, 3, none⟩ = some (.int .i64 x.t.nw)) ∧ V.cell? ⟨b, o + i * 3 + 2, none⟩ = some (.int .i64 ai) ∧ V.cell? ⟨b, o + k * 3 + 2, none⟩ = some (.int .i64 ak)) _ from HIg.out _ M0.out)
    refine rg_take (n := 7) (v := ?_) 0 (some 52) rfl rfl (by kernel_rfl) (by kernel_rfl) (by kernel_rfl) (fun _ _ _ h => h) (by rfl) hI ?_ ?_
    rotate_left
    · ((intro w hSw; (try dsimp only at hSw); go_simp); (try with_reducible rfl))
    try simp only [Act.put, List.setIfInBounds_toArray, List.set_cons_zero, List.set_cons_succ]
    refine rg_take (n := 6) (v := ?_) 1 (some 53) rfl rfl (by kernel_rfl) (by kernel_rfl) (by kernel_rfl) (fun _ _ _ h => h) (by rfl) hI ?_ ?_
    rotate_left
    · ((intro w hSw; (try dsimp only at hSw); go_simp); (try with_reducible rfl))
    try simp only [Act.put, List.setIfInBounds_toArray, List.set_cons_zero, List.set_cons_succ]
    refine rg_take (n := 5) (v := ?_) 3 (some 55) rfl rfl (by kernel_rfl) (by kernel_rfl) (by kernel_rfl) (fun _ _ _ h => h) (by rfl) hI ?_ ?_
    rotate_left
    · ((intro w hSw; (try dsimp only at hSw); go_simp); (try with_reducible rfl))
    try simp only [Act.put, List.setIfInBounds_toArray, List.set_cons_zero, List.set_cons_succ]
    refine rg_take (n := 4) (v := ?_) 4 (some 56) rfl rfl (by kernel_rfl) (by kernel_rfl) (by kernel_rfl) (fun _ _ _ h => h) (by rfl) hI ?_ ?_
    rotate_left
    · ((intro w hSw; (try dsimp only at hSw); go_simp); (try with_reducible rfl))
    try simp only [Act.put, List.setIfInBounds_toArray, List.set_cons_zero, List.set_cons_succ]
    refine rg_one (n := 3) 2 rfl (by kernel_rfl) (by rfl) ?_
    go_simp
    go_at_call 21
    refine (HLi.out _ M0.out).mono ?_
    rintro e u1 ⟨rfl, hml⟩
    have Mu1 := Lib.hid (M0.out.trans hml (fun _ _ h => h))
    clear hml
    clear hI
    have hI := (show (fun V : World => (V.cell? ⟨W.heap.size, 0, none⟩ = some (.slice x.P x.n x.c) ∧ V.cell? ⟨W.heap.size, 1, none⟩ = some (.slice (some ⟨b, o, none⟩) x.m x.d) ∧ V.cell? ⟨W.heap.size, 2, none⟩ = some (.int .i64 x.t.sl) ∧ V.cell? ⟨W.heap.size, 3, none⟩ = some (.int .i64 x.t.nw)) ∧ V.cell? ⟨b, o + i * 3 + 2, none⟩ = some (.int .i64 ai) ∧ V.cell? ⟨b, o + k * 3 + 2, none⟩ = some (.int .i64 ak)) _ from HIg.out _ Mu1.out)
    refine ⟨hI, ?_⟩
    try simp only [Act.put, List.setIfInBounds_toArray, List.set_cons_zero, List.set_cons_succ]
    refine rg_one (n := 2) 5 rfl (by kernel_rfl) (by rfl) ?_
    go_simp
    go_at_call 21
    refine (HLk.out _ Mu1.out).mono ?_
    rintro e u2 ⟨rfl, hml⟩
    have Mu2 := Lib.hid (Mu1.out.trans hml (fun _ _ h => h))
    clear hml
    clear hI
    have hI := (show (fun V : World => (V.cell? ⟨W.heap.size, 0, none⟩ = some (.slice x.P x.n x.c) ∧ V.cell? ⟨W.heap.size, 1, none⟩ = some (.slice (some ⟨b, o, none⟩) x.m x.d) ∧ V.cell? ⟨W.heap.size, 2, none⟩ = some (.int .i64 x.t.sl) ∧ V.cell? ⟨W.heap.size, 3, none⟩ = some (.int .i64 x.t.nw)) ∧ V.cell? ⟨b, o + i * 3 + 2, none⟩ = some (.int .i64 ai) ∧ V.cell? ⟨b, o + k * 3 + 2, none⟩ = some (.int .i64 ak)) _ from HIg.out _ Mu2.out)
    refine ⟨hI, ?_⟩
    try simp only [Act.put, List.setIfInBounds_toArray, List.set_cons_zero, List.set_cons_succ]
    refine rg_take (n := 1) (v := ?_) 6 (some 58) rfl rfl (by kernel_rfl) (by kernel_rfl) (by kernel_rfl) (fun _ _ _ h => h) (by rfl) hI ?_ ?_
    rotate_left
    · ((intro w hSw; (try dsimp only at hSw); go_simp); (try with_reducible rfl))
    try simp only [Act.put, List.setIfInBounds_toArray, List.set_cons_zero, List.set_cons_succ]
    refine rg_take (n := 0) (v := ?_) 7 (some 15) rfl rfl (by kernel_rfl) (by kernel_rfl) (by kernel_rfl) (fun _ _ _ h => h) (by rfl) hI ?_ ?_
    rotate_left
    · ((intro w hSw; (try dsimp only at hSw); go_simp); (try with_reducible rfl))
    try simp only [Act.put, List.setIfInBounds_toArray, List.set_cons_zero, List.set_cons_succ]
    refine wpAnyH_done (by kernel_rfl) ?_ _
    clear hI
    have hI2 := HIg.out _ Mu2.out
    obtain ⟨⟨c0, c1, c2, c3⟩, s0, s1⟩ := hI2
    go_wp2_with fail
    go_quiet (fail)
    generalize hu3 : World.drewN _ _ = u3
    have Mu3 : Hid (Mod (fun _ => False) w5 u3) := by rw [← hu3]; exact Mu2.out.drewN _
    have M1 : Hid (Mod (fun _ => False) w5 u3.drew) := Mu3.out.drew
    clear hu3 c0 c1 c2 c3 s0 s1 Mu1 Mu2
    go_wp2_with fail
    refine wp_region_held (S := (fun V : World => (V.cell? ⟨W.heap.size, 0, none⟩ = some (.slice x.P x.n x.c) ∧ V.cell? ⟨W.heap.size, 1, none⟩ = some (.slice (some ⟨b, o, none⟩) x.m x.d) ∧ V.cell? ⟨W.heap.size, 2, none⟩ = some (.int .i64 x.t.sl) ∧ V.cell? ⟨W.heap.size, 3, none⟩ = some (.int .i64 x.t.nw)) ∧ V.cell? ⟨b, o + i * 3 + 2, none⟩ = some (.int .i64 ai) ∧ V.cell? ⟨b, o + k * 3 + 2, none⟩ = some (.int .i64 ak))) (by kernel_rfl) ?_
    have hI := (show (fun V : World => (V.cell? ⟨W.heap.size, 0, none⟩ = some (.slice x.P x.n x.c) ∧ V.cell? ⟨W.heap.size, 1, none⟩ = some (.slice (some ⟨b, o, none⟩) x.m x.d) ∧ V.cell? ⟨W.heap.size, 2, none⟩ = some (.int .i64 x.t.sl) ∧ V.cell? ⟨W.heap.size, 3, none⟩ = some (.int .i64 x.t.nw)) ∧ V.cell? ⟨b, o + i * 3 + 2, none⟩ = some (.int .i64 ai) ∧ V.cell? ⟨b, o + k * 3 + 2, none⟩ = some (.int .i64 ak)) _ from HIg.out _ M1.out)
    refine rg_take (n := 27) (v := ?_) 0 (some 72) rfl rfl (by kernel_rfl) (by kernel_rfl) (by kernel_rfl) (fun _ _ _ h => h) (by rfl) hI ?_ ?_
    rotate_left
    · ((intro w hSw; (try dsimp only at hSw); go_simp); (try with_reducible rfl))
    try simp only [Act.put, List.setIfInBounds_toArray, List.set_cons_zero, List.set_cons_succ]
    refine rg_take (n := 26) (v := ?_) 1 (some 73) rfl rfl (by kernel_rfl) (by kernel_rfl) (by kernel_rfl) (fun _ _ _ h => h) (by rfl) hI ?_ ?_
    rotate_left
    · ((intro w hSw; (try dsimp only at hSw); go_simp); (try with_reducible rfl))
    try simp only [Act.put, List.setIfInBounds_toArray, List.set_cons_zero, List.set_cons_succ]
    refine rg_skip (n := 25) 2 (some 74) rfl rfl (by kernel_rfl) (by kernel_rfl) (by kernel_rfl) (fun _ _ _ h => h) (by rfl) hI ?_
    try simp only [Act.put, List.setIfInBounds_toArray, List.set_cons_zero, List.set_cons_succ]
    refine rg_skip (n := 24) 3 (some 75) rfl rfl (by kernel_rfl) (by kernel_rfl) (by kernel_rfl) (fun _ _ _ h => h) (by rfl) hI ?_
    try simp only [Act.put, List.setIfInBounds_toArray, List.set_cons_zero, List.set_cons_succ]
    refine rg_skip (n := 23) 4 (some 76) rfl rfl (by kernel_rfl) (by kernel_rfl) (by kernel_rfl) (fun _ _ _ h => h) (by rfl) hI ?_
    try simp only [Act.put, List.setIfInBounds_toArray, List.set_cons_zero, List.set_cons_succ]
    refine rg_skip (n := 22) 5 (some 77) rfl rfl (by kernel_rfl) (by kernel_rfl) (by kernel_rfl) (fun _ _ _ h => h) (by rfl) hI ?_
    try simp only [Act.put, List.setIfInBounds_toArray, List.set_cons_zero, List.set_cons_succ]
    refine rg_skip (n := 21) 6 (some 78) rfl rfl (by kernel_rfl) (by kernel_rfl) (by kernel_rfl) (fun _ _ _ h => h) (by rfl) hI ?_
    try simp only [Act.put, List.setIfInBounds_toArray, List.set_cons_zero, List.set_cons_succ]
    refine rg_skip (n := 20) 7 (some 79) rfl rfl (by kernel_rfl) (by kernel_rfl) (by kernel_rfl) (fun _ _ _ h => h) (by rfl) hI ?_
    try simp only [Act.put, List.setIfInBounds_toArray, List.set_cons_zero, List.set_cons_succ]
    refine rg_skip (n := 19) 8 (some 80) rfl rfl (by kernel_rfl) (by kernel_rfl) (by kernel_rfl) (fun _ _ _ h => h) (by rfl) hI ?_
    try simp only [Act.put, List.setIfInBounds_toArray, List.set_cons_zero, List.set_cons_succ]
    refine rg_skip (n := 18) 9 (some 81) rfl rfl (by kernel_rfl) (by kernel_rfl) (by kernel_rfl) (fun _ _ _ h => h) (by rfl) hI ?_
    try simp only [Act.put, List.setIfInBounds_toArray, List.set_cons_zero, List.set_cons_succ]
    refine rg_skip (n := 17) 10 (some 82) rfl rfl (by kernel_rfl) (by kernel_rfl) (by kernel_rfl) (fun _ _ _ h => h) (by rfl) hI ?_
    try simp only [Act.put, List.setIfInBounds_toArray, List.set_cons_zero, List.set_cons_succ]
    refine rg_skip (n := 16) 11 (some 83) rfl rfl (by kernel_rfl) (by kernel_rfl) (by kernel_rfl) (fun _ _ _ h => h) (by rfl) hI ?_
    try simp only [Act.put, List.setIfInBounds_toArray, List.set_cons_zero, List.set_cons_succ]
    refine rg_skip (n := 15) 12 (some 84) rfl rfl (by kernel_rfl) (by kernel_rfl) (by kernel_rfl) (fun _ _ _ h => h) (by rfl) hI ?_
    try simp only [Act.put, List.setIfInBounds_toArray, List.set_cons_zero, List.set_cons_succ]
    refine rg_skip (n := 14) 13 (some 85) rfl rfl (by kernel_rfl) (by kernel_rfl) (by kernel_rfl) (fun _ _ _ h => h) (by rfl) hI ?_
    try simp only [Act.put, List.setIfInBounds_toArray, List.set_cons_zero, List.set_cons_succ]
    refine rg_skip (n := 13) 14 (some 86) rfl rfl (by kernel_rfl) (by kernel_rfl) (by kernel_rfl) (fun _ _ _ h => h) (by rfl) hI ?_
    try simp only [Act.put, List.setIfInBounds_toArray, List.set_cons_zero, List.set_cons_succ]
    refine rg_take (n := 12) (v := ?_) 15 (some 87) rfl rfl (by kernel_rfl) (by kernel_rfl) (by kernel_rfl) (fun _ _ _ h => h) (by rfl) hI ?_ ?_
    rotate_left
    · ((intro w hSw; (try dsimp only at hSw); go_simp); (try with_reducible rfl))
    try simp only [Act.put, List.setIfInBounds_toArray, List.set_cons_zero, List.set_cons_succ]
    refine rg_take (n := 11) (v := ?_) 16 (some 88) rfl rfl (by kernel_rfl) (by kernel_rfl) (by kernel_rfl) (fun _ _ _ h => h) (by rfl) hI ?_ ?_
    rotate_left
    · ((intro w hSw; (try dsimp only at hSw); go_simp); (try with_reducible rfl))
    try simp only [Act.put, List.setIfInBounds_toArray, List.set_cons_zero, List.set_cons_succ]
    refine rg_take (n := 10) (v := ?_) 17 (some 89) rfl rfl (by kernel_rfl) (by kernel_rfl) (by kernel_rfl) (fun _ _ _ h => h) (by rfl) hI ?_ ?_
    rotate_left
    · ((intro w hSw; (try dsimp only at hSw); go_simp); (try with_reducible rfl))
    try simp only [Act.put, List.setIfInBounds_toArray, List.set_cons_zero, List.set_cons_succ]
    refine rg_take (n := 9) (v := ?_) 18 (some 90) rfl rfl (by kernel_rfl) (by kernel_rfl) (by kernel_rfl) (fun _ _ _ h => h) (by rfl) hI ?_ ?_
    rotate_left
    · ((intro w hSw; (try dsimp only at hSw); go_simp); (try with_reducible rfl))
    try simp only [Act.put, List.setIfInBounds_toArray, List.set_cons_zero, List.set_cons_succ]
    refine rg_take (n := 8) (v := ?_) 19 (some 91) rfl rfl (by kernel_rfl) (by kernel_rfl) (by kernel_rfl) (fun _ _ _ h => h) (by rfl) hI ?_ ?_
    rotate_left
    · ((intro w hSw; (try dsimp only at hSw); go_simp); (try with_reducible rfl))
    try simp only [Act.put, List.setIfInBounds_toArray, List.set_cons_zero, List.set_cons_succ]
    refine rg_take (n := 7) (v := ?_) 20 (some 92) rfl rfl (by kernel_rfl) (by kernel_rfl) (by kernel_rfl) (fun _ _ _ h => h) (by rfl) hI ?_ ?_
    rotate_left
    · ((intro w hSw; (try dsimp only at hSw); go_simp); (try with_reducible rfl))
    try simp only [Act.put, List.setIfInBounds_toArray, List.set_cons_zero, List.set_cons_succ]
    refine rg_take (n := 6) (v := ?_) 22 (some 94) rfl rfl (by kernel_rfl) (by kernel_rfl) (by kernel_rfl) (fun _ _ _ h => h) (by rfl) hI ?_ ?_
    rotate_left
    · ((intro w hSw; (try dsimp only at hSw); go_simp); (try with_reducible rfl))
    try simp only [Act.put, List.setIfInBounds_toArray, List.set_cons_zero, List.set_cons_succ]
    refine rg_take (n := 5) (v := ?_) 23 (some 95) rfl rfl (by kernel_rfl) (by kernel_rfl) (by kernel_rfl) (fun _ _ _ h => h) (by rfl) hI ?_ ?_
    rotate_left
    · ((intro w hSw; (try dsimp only at hSw); go_simp); (try with_reducible rfl))
    try simp only [Act.put, List.setIfInBounds_toArray, List.set_cons_zero, List.set_cons_succ]
    refine rg_one (n := 4) 21 rfl (by kernel_rfl) (by rfl) ?_
    go_simp
    go_at_call 21
    refine (HLi.out _ M1.out).mono ?_
    rintro e u4 ⟨rfl, hml⟩
    have Mu4 := Lib.hid (M1.out.trans hml (fun _ _ h => h))
    clear hml
    clear hI
    have hI := (show (fun V : World => (V.cell? ⟨W.heap.size, 0, none⟩ = some (.slice x.P x.n x.c) ∧ V.cell? ⟨W.heap.size, 1, none⟩ = some (.slice (some ⟨b, o, none⟩) x.m x.d) ∧ V.cell? ⟨W.heap.size, 2, none⟩ = some (.int .i64 x.t.sl) ∧ V.cell? ⟨W.heap.size, 3, none⟩ = some (.int .i64 x.t.nw)) ∧ V.cell? ⟨b, o + i * 3 + 2, none⟩ = some (.int .i64 ai) ∧ V.cell? ⟨b, o + k * 3 + 2, none⟩ = some (.int .i64 ak)) _ from HIg.out _ Mu4.out)
    refine ⟨hI, ?_⟩
    try simp only [Act.put, List.setIfInBounds_toArray, List.set_cons_zero, List.set_cons_succ]
    refine rg_one (n := 3) 24 rfl (by kernel_rfl) (by rfl) ?_
    go_simp
    go_at_call 21
    refine (HLk.out _ Mu4.out).mono ?_
    rintro e u5 ⟨rfl, hml⟩
    have Mu5 := Lib.hid (Mu4.out.trans hml (fun _ _ h => h))
    clear hml
    clear hI
    have hI := (show (fun V : World => (V.cell? ⟨W.heap.size, 0, none⟩ = some (.slice x.P x.n x.c) ∧ V.cell? ⟨W.heap.size, 1, none⟩ = some (.slice (some ⟨b, o, none⟩) x.m x.d) ∧ V.cell? ⟨W.heap.size, 2, none⟩ = some (.int .i64 x.t.sl) ∧ V.cell? ⟨W.heap.size, 3, none⟩ = some (.int .i64 x.t.nw)) ∧ V.cell? ⟨b, o + i * 3 + 2, none⟩ = some (.int .i64 ai) ∧ V.cell? ⟨b, o + k * 3 + 2, none⟩ = some (.int .i64 ak)) _ from HIg.out _ Mu5.out)
    refine ⟨hI, ?_⟩
    try simp only [Act.put, List.setIfInBounds_toArray, List.set_cons_zero, List.set_cons_succ]
    refine rg_take (n := 2) (v := ?_) 25 (some 97) rfl rfl (by kernel_rfl) (by kernel_rfl) (by kernel_rfl) (fun _ _ _ h => h) (by rfl) hI ?_ ?_
    rotate_left
    · ((intro w hSw; (try dsimp only at hSw); go_simp); (try with_reducible rfl))
    try simp only [Act.put, List.setIfInBounds_toArray, List.set_cons_zero, List.set_cons_succ]
    refine rg_take (n := 1) (v := ?_) 26 (some 98) rfl rfl (by kernel_rfl) (by kernel_rfl) (by kernel_rfl) (fun _ _ _ h => h) (by rfl) hI ?_ ?_
    rotate_left
    · ((intro w hSw; (try dsimp only at hSw); go_simp); (try with_reducible rfl))
    try simp only [Act.put, List.setIfInBounds_toArray, List.set_cons_zero, List.set_cons_succ]
    refine rg_take (n := 0) (v := ?_) 27 (some 99) rfl rfl (by kernel_rfl) (by kernel_rfl) (by kernel_rfl) (fun _ _ _ h => h) (by rfl) hI ?_ ?_
    rotate_left
    · ((intro w hSw; (try dsimp only at hSw); go_simp); (try with_reducible rfl))
    try simp only [Act.put, List.setIfInBounds_toArray, List.set_cons_zero, List.set_cons_succ]
    refine wpAnyH_done (by kernel_rfl) ?_ _
    clear hI
    go_wp2
    go_ret
    exact ⟨rfl, (HM5.out.trans Mu5.out (fun _ _ h => h)).below (Nat.le_refl _) (fun _ _ => id)⟩
  have hB : decide (li ≤ lk) = false := decide_eq_false e4
  clear e1 e3 e4 HQ
  go_enter Try.func6, Try.ntmps6
  go_wp2_with fail
  refine (cawake_ok _).mono ?_
  rintro e w2 ⟨rfl, hm2⟩
  clear hw1
  have HB2 := Lib.hid (HB1.out.keep hm2)
  have HX2 := Lib.hid (HX1.out.keep hm2)
  have HM2 := Lib.hid (HM1.out.trans hm2 (fun _ _ h => h))
  clear hm2
  obtain ⟨c0, c1, c2, c3⟩ := HB2.out.cells
  go_wp2_with fail
  refine (clight_ok _ x).mono ?_
  rintro e w3 ⟨rfl, hm3⟩
  clear c0 c1 c2 c3
  have HB3 := Lib.hid (HB2.out.keep hm3)
  have HX3 := Lib.hid (HX2.out.keep hm3)
  have HM3 := Lib.hid (HM2.out.trans hm3 (fun _ _ h => h))
  clear hm3
  rw [hlt]
  obtain ⟨c0, c1, c2, c3⟩ := HB3.out.cells
  go_wp2_with fail
  refine (HMY.out _ HX3.out).mono ?_
  rintro e w9 ⟨rfl, hm9⟩
  clear c0 c1 c2 c3
  have HB9 := Lib.hid (HB3.out.keep hm9)
  have HX9 := Lib.hid (HX3.out.keep hm9)
  have HM9 := Lib.hid (HM3.out.trans hm9 (fun _ _ h => h))
  clear hm9
  obtain ⟨c0, c1, c2, c3⟩ := HB9.out.cells
  go_wp2_with fail
  refine (G1.out _ HX9.out).mono ?_
  rintro e w4 ⟨rfl, hm4⟩
  clear c0 c1 c2 c3
  have HB4 := Lib.hid (HB9.out.keep hm4)
  have HX4 := Lib.hid (HX9.out.keep hm4)
  have HM4 := Lib.hid (HM9.out.trans hm4 (fun _ _ h => h))
  clear hm4
  obtain ⟨c0, c1, c2, c3⟩ := HB4.out.cells
  go_wp2_with fail
  refine (G2.out _ HX4.out).mono ?_
  rintro e w5 ⟨rfl, hm5⟩
  clear c0 c1 c2 c3
  have HB5 := Lib.hid (HB4.out.keep hm5)
  have HX5 := Lib.hid (HX4.out.keep hm5)
  have HM5 := Lib.hid (HM4.out.trans hm5 (fun _ _ h => h))
  clear hm5
  have M0 : Hid (Mod (fun _ => False) w5 w5.drew) := (Mod.refl _ w5).drew
  have HIg : Hid (∀ V, Mod (fun _ => False) w5 V → (fun V : World => (V.cell? ⟨W.heap.size, 0, none⟩ = some (.slice x.P x.n x.c) ∧ V.cell? ⟨W.heap.size, 1, none⟩ = some (.slice (some ⟨b, o, none⟩) x.m x.d) ∧ V.cell? ⟨W.heap.size, 2, none⟩ = some (.int .i64 x.t.sl) ∧ V.cell? ⟨W.heap.size, 3, none⟩ = some (.int .i64 x.t.nw)) ∧ V.cell? ⟨b, o + i * 3 + 2, none⟩ = some (.int .i64 ai) ∧ V.cell? ⟨b, o + k * 3 + 2, none⟩ = some (.int .i64 ak)) V) := fun V hV => ⟨by have := (HB5.out.keep hV).cells; rw [HS.out] at this; exact this, (Hcs.out V (HM5.out.trans hV (fun _ _ h => h))).1, (Hcs.out V (HM5.out.trans hV (fun _ _ h => h))).2⟩
  have HLi := Lib.hid (fun V (hV : Mod (fun _ => False) w5 V) => HLi0.out V (HX5.out.keep hV))
  have HLk := Lib.hid (fun V (hV : Mod (fun _ => False) w5 V) => HLk0.out V (HX5.out.keep hV))
  go_wp2_with fail
  refine wp_region_held (S := (fun V : World => (V.cell? ⟨W.heap.size, 0, none⟩ = some (.slice x.P x.n x.c) ∧ V.cell? ⟨W.heap.size, 1, none⟩ = some (.slice (some ⟨b, o, none⟩) x.m x.d) ∧ V.cell? ⟨W.heap.size, 2, none⟩ = some (.int .i64 x.t.sl) ∧ V.cell? ⟨W.heap.size, 3, none⟩ = some (.int .i64 x.t.nw)) ∧ V.cell? ⟨b, o + i * 3 + 2, none⟩ = some (.int .i64 ai) ∧ V.cell? ⟨b, o + k * 3 + 2, none⟩ = some (.int .i64 ak))) (by kernel_rfl) ?_
  have hI := (show (fun V : World => (V.cell? ⟨W.heap.size, 0, none⟩ = some (.slice x.P x.n x.c) ∧ V.cell? ⟨W.heap.size, 1, none⟩ = some (.slice (some ⟨b, o, none⟩) x.m x.d) ∧ V.cell? ⟨W.heap.size, 2, none⟩ = some (.int .i64 x.t.sl) ∧ V.cell? ⟨W.heap.size, 3, none⟩ = some (.int .i64 x.t.nw)) ∧ V.cell? ⟨b, o + i * 3 + 2, none⟩ = some (.int .i64 ai) ∧ V.cell? ⟨b, o + k * 3 + 2, none⟩ = some (.int .i64 ak)) _ from HIg.out _ M0.out)
  refine rg_take (n := 7) (v := ?_) 0 (some 52) rfl rfl (by kernel_rfl) (by kernel_rfl) (by kernel_rfl) (fun _ _ _ h => h) (by rfl) hI ?_ ?_
  rotate_left
  · ((intro w hSw; (try dsimp only at hSw); go_simp); (try with_reducible rfl))
  try simp only [Act.put, List.setIfInBounds_toArray, List.set_cons_zero, List.set_cons_succ]
  refine rg_take (n := 6) (v := ?_) 1 (some 53) rfl rfl (by kernel_rfl) (by kernel_rfl) (by kernel_rfl) (fun _ _ _ h => h) (by rfl) hI ?_ ?_
  rotate_left
  · ((intro w hSw; (try dsimp only at hSw); go_simp); (try with_reducible rfl))
  try simp only [Act.put, List.setIfInBounds_toArray, List.set_cons_zero, List.set_cons_succ]
  refine rg_take (n := 5) (v := ?_) 3 (some 55) rfl rfl (by kernel_rfl) (by kernel_rfl) (by kernel_rfl) (fun _ _ _ h => h) (by rfl) hI ?_ ?_
  rotate_left
  · ((intro w hSw; (try dsimp only at hSw); go_simp); (try with_reducible rfl))
  try simp only [Act.put, List.setIfInBounds_toArray, List.set_cons_zero, List.set_cons_succ]
  refine rg_take (n := 4) (v := ?_) 4 (some 56) rfl rfl (by kernel_rfl) (by kernel_rfl) (by kernel_rfl) (fun _ _ _ h => h) (by rfl) hI ?_ ?_
  rotate_left
  · ((intro w hSw; (try dsimp only at hSw); go_simp); (try with_reducible rfl))
  try simp only [Act.put, List.setIfInBounds_toArray, List.set_cons_zero, List.set_cons_succ]
  refine rg_one (n := 3) 2 rfl (by kernel_rfl) (by rfl) ?_
  go_simp
  go_at_call 21
  refine (HLi.out _ M0.out).mono ?_
  rintro e u1 ⟨rfl, hml⟩
  have Mu1 := Lib.hid (M0.out.trans hml (fun _ _ h => h))
  clear hml
  clear hI
  have hI := (show (fun V : World => (V.cell? ⟨W.heap.size, 0, none⟩ = some (.slice x.P x.n x.c) ∧ V.cell? ⟨W.heap.size, 1, none⟩ = some (.slice (some ⟨b, o, none⟩) x.m x.d) ∧ V.cell? ⟨W.heap.size, 2, none⟩ = some (.int .i64 x.t.sl) ∧ V.cell? ⟨W.heap.size, 3, none⟩ = some (.int .i64 x.t.nw)) ∧ V.cell? ⟨b, o + i * 3 + 2, none⟩ = some (.int .i64 ai) ∧ V.cell? ⟨b, o + k * 3 + 2, none⟩ = some (.int .i64 ak)) _ from HIg.out _ Mu1.out)
  refine ⟨hI, ?_⟩
  try simp only [Act.put, List.setIfInBounds_toArray, List.set_cons_zero, List.set_cons_succ]
  refine rg_one (n := 2) 5 rfl (by kernel_rfl) (by rfl) ?_
  go_simp
  go_at_call 21
  refine (HLk.out _ Mu1.out).mono ?_
  rintro e u2 ⟨rfl, hml⟩
  have Mu2 := Lib.hid (Mu1.out.trans hml (fun _ _ h => h))
  clear hml
  clear hI
  have hI := (show (fun V : World => (V.cell? ⟨W.heap.size, 0, none⟩ = some (.slice x.P x.n x.c) ∧ V.cell? ⟨W.heap.size, 1, none⟩ = some (.slice (some ⟨b, o, none⟩) x.m x.d) ∧ V.cell? ⟨W.heap.size, 2, none⟩ = some (.int .i64 x.t.sl) ∧ V.cell? ⟨W.heap.size, 3, none⟩ = some (.int .i64 x.t.nw)) ∧ V.cell? ⟨b, o + i * 3 + 2, none⟩ = some (.int .i64 ai) ∧ V.cell? ⟨b, o + k * 3 + 2, none⟩ = some (.int .i64 ak)) _ from HIg.out _ Mu2.out)
  refine ⟨hI, ?_⟩
  try simp only [Act.put, List.setIfInBounds_toArray, List.set_cons_zero, List.set_cons_succ]
  refine rg_take (n := 1) (v := ?_) 6 (some 58) rfl rfl (by kernel_rfl) (by kernel_rfl) (by kernel_rfl) (fun _ _ _ h => h) (by rfl) hI ?_ ?_
  rotate_left
  · ((intro w hSw; (try dsimp only at hSw); go_simp); (try with_reducible rfl))
  try simp only [Act.put, List.setIfInBounds_toArray, List.set_cons_zero, List.set_cons_succ]
  refine rg_take (n := 0) (v := ?_) 7 (some 15) rfl rfl (by kernel_rfl) (by kernel_rfl) (by kernel_rfl) (fun _ _ _ h => h) (by rfl) hI ?_ ?_
  rotate_left
  · ((intro w hSw; (try dsimp only at hSw); go_simp); (try with_reducible rfl))
  try simp only [Act.put, List.setIfInBounds_toArray, List.set_cons_zero, List.set_cons_succ]
  refine wpAnyH_done (by kernel_rfl) ?_ _
  clear hI
  have hI2 := HIg.out _ Mu2.out
  obtain ⟨⟨c0, c1, c2, c3⟩, s0, s1⟩ := hI2
  go_wp2_with fail
  go_quiet (fail)
  generalize hu3 : World.drewN _ _ = u3
  have Mu3 : Hid (Mod (fun _ => False) w5 u3) := by rw [← hu3]; exact Mu2.out.drewN _
  have M1 : Hid (Mod (fun _ => False) w5 u3.drew) := Mu3.out.drew
  clear hu3 c0 c1 c2 c3 s0 s1 Mu1 Mu2
  go_wp2_with fail
  refine wp_region_held (S := (fun V : World => (V.cell? ⟨W.heap.size, 0, none⟩ = some (.slice x.P x.n x.c) ∧ V.cell? ⟨W.heap.size, 1, none⟩ = some (.slice (some ⟨b, o, none⟩) x.m x.d) ∧ V.cell? ⟨W.heap.size, 2, none⟩ = some (.int .i64 x.t.sl) ∧ V.cell? ⟨W.heap.size, 3, none⟩ = some (.int .i64 x.t.nw)) ∧ V.cell? ⟨b, o + i * 3 + 2, none⟩ = some (.int .i64 ai) ∧ V.cell? ⟨b, o + k * 3 + 2, none⟩ = some (.int .i64 ak))) (by kernel_rfl) ?_
  have hI := (show (fun V : World => (V.cell? ⟨W.heap.size, 0, none⟩ = some (.slice x.P x.n x.c) ∧ V.cell? ⟨W.heap.size, 1, none⟩ = some (.slice (some ⟨b, o, none⟩) x.m x.d) ∧ V.cell? ⟨W.heap.size, 2, none⟩ = some (.int .i64 x.t.sl) ∧ V.cell? ⟨W.heap.size, 3, none⟩ = some (.int .i64 x.t.nw)) ∧ V.cell? ⟨b, o + i * 3 + 2, none⟩ = some (.int .i64 ai) ∧ V.cell? ⟨b, o + k * 3 + 2, none⟩ = some (.int .i64 ak)) _ from HIg.out _ M1.out)
  refine rg_take (n := 27) (v := ?_) 0 (some 72) rfl rfl (by kernel_rfl) (by kernel_rfl) (by kernel_rfl) (fun _ _ _ h => h) (by rfl) hI ?_ ?_
  rotate_left
  · ((intro w hSw; (try dsimp only at hSw); go_simp); (try with_reducible rfl))
  try simp only [Act.put, List.setIfInBounds_toArray, List.set_cons_zero, List.set_cons_succ]
  refine rg_take (n := 26) (v := ?_) 1 (some 73) rfl rfl (by kernel_rfl) (by kernel_rfl) (by kernel_rfl) (fun _ _ _ h => h) (by rfl) hI ?_ ?_
  rotate_left
  · ((intro w hSw; (try dsimp only at hSw); go_simp); (try with_reducible rfl))
  try simp only [Act.put, List.setIfInBounds_toArray, List.set_cons_zero, List.set_cons_succ]
  refine rg_skip (n := 25) 2 (some 74) rfl rfl (by kernel_rfl) (by kernel_rfl) (by kernel_rfl) (fun _ _ _ h => h) (by rfl) hI ?_
  try simp only [Act.put, List.setIfInBounds_toArray, List.set_cons_zero, List.set_cons_succ]
  refine rg_skip (n := 24) 3 (some 75) rfl rfl (by kernel_rfl) (by kernel_rfl) (by kernel_rfl) (fun _ _ _ h => h) (by rfl) hI ?_
  try simp only [Act.put, List.setIfInBounds_toArray, List.set_cons_zero, List.set_cons_succ]
  refine rg_skip (n := 23) 4 (some 76) rfl rfl (by kernel_rfl) (by kernel_rfl) (by kernel_rfl) (fun _ _ _ h => h) (by rfl) hI ?_
  try simp only [Act.put, List.setIfInBounds_toArray, List.set_cons_zero, List.set_cons_succ]
  refine rg_skip (n := 22) 5 (some 77) rfl rfl (by kernel_rfl) (by kernel_rfl) (by kernel_rfl) (fun _ _ _ h => h) (by rfl) hI ?_
  try simp only [Act.put, List.setIfInBounds_toArray, List.set_cons_zero, List.set_cons_succ]
  refine rg_skip (n := 21) 6 (some 78) rfl rfl (by kernel_rfl) (by kernel_rfl) (by kernel_rfl) (fun _ _ _ h => h) (by rfl) hI ?_
  try simp only [Act.put, List.setIfInBounds_toArray, List.set_cons_zero, List.set_cons_succ]
  refine rg_skip (n := 20) 7 (some 79) rfl rfl (by kernel_rfl) (by kernel_rfl) (by kernel_rfl) (fun _ _ _ h => h) (by rfl) hI ?_
  try simp only [Act.put, List.setIfInBounds_toArray, List.set_cons_zero, List.set_cons_succ]
  refine rg_skip (n := 19) 8 (some 80) rfl rfl (by kernel_rfl) (by kernel_rfl) (by kernel_rfl) (fun _ _ _ h => h) (by rfl) hI ?_
  try simp only [Act.put, List.setIfInBounds_toArray, List.set_cons_zero, List.set_cons_succ]
  refine rg_skip (n := 18) 9 (some 81) rfl rfl (by kernel_rfl) (by kernel_rfl) (by kernel_rfl) (fun _ _ _ h => h) (by rfl) hI ?_
  try simp only [Act.put, List.setIfInBounds_toArray, List.set_cons_zero, List.set_cons_succ]
  refine rg_skip (n := 17) 10 (some 82) rfl rfl (by kernel_rfl) (by kernel_rfl) (by kernel_rfl) (fun _ _ _ h => h) (by rfl) hI ?_
  try simp only [Act.put, List.setIfInBounds_toArray, List.set_cons_zero, List.set_cons_succ]
  refine rg_skip (n := 16) 11 (some 83) rfl rfl (by kernel_rfl) (by kernel_rfl) (by kernel_rfl) (fun _ _ _ h => h) (by rfl) hI ?_
  try simp only [Act.put, List.setIfInBounds_toArray, List.set_cons_zero, List.set_cons_succ]
  refine rg_skip (n := 15) 12 (some 84) rfl rfl (by kernel_rfl) (by kernel_rfl) (by kernel_rfl) (fun _ _ _ h => h) (by rfl) hI ?_
  try simp only [Act.put, List.setIfInBounds_toArray, List.set_cons_zero, List.set_cons_succ]
  refine rg_skip (n := 14) 13 (some 85) rfl rfl (by kernel_rfl) (by kernel_rfl) (by kernel_rfl) (fun _ _ _ h => h) (by rfl) hI ?_
  try simp only [Act.put, List.setIfInBounds_toArray, List.set_cons_zero, List.set_cons_succ]
  refine rg_skip (n := 13) 14 (some 86) rfl rfl (by kernel_rfl) (by kernel_rfl) (by kernel_rfl) (fun _ _ _ h => h) (by rfl) hI ?_
  try simp only [Act.put, List.setIfInBounds_toArray, List.set_cons_zero, List.set_cons_succ]
  refine rg_take (n := 12) (v := ?_) 15 (some 87) rfl rfl (by kernel_rfl) (by kernel_rfl) (by kernel_rfl) (fun _ _ _ h => h) (by rfl) hI ?_ ?_
  rotate_left
  · ((intro w hSw; (try dsimp only at hSw); go_simp); (try with_reducible rfl))
  try simp only [Act.put, List.setIfInBounds_toArray, List.set_cons_zero, List.set_cons_succ]
  refine rg_take (n := 11) (v := ?_) 16 (some 88) rfl rfl (by kernel_rfl) (by kernel_rfl) (by kernel_rfl) (fun _ _ _ h => h) (by rfl) hI ?_ ?_
  rotate_left
  · ((intro w hSw; (try dsimp only at hSw); go_simp); (try with_reducible rfl))
  try simp only [Act.put, List.setIfInBounds_toArray, List.set_cons_zero, List.set_cons_succ]
  refine rg_take (n := 10) (v := ?_) 17 (some 89) rfl rfl (by kernel_rfl) (by kernel_rfl) (by kernel_rfl) (fun _ _ _ h => h) (by rfl) hI ?_ ?_
  rotate_left
  · ((intro w hSw; (try dsimp only at hSw); go_simp); (try with_reducible rfl))
  try simp only [Act.put, List.setIfInBounds_toArray, List.set_cons_zero, List.set_cons_succ]
  refine rg_take (n := 9) (v := ?_) 18 (some 90) rfl rfl (by kernel_rfl) (by kernel_rfl) (by kernel_rfl) (fun _ _ _ h => h) (by rfl) hI ?_ ?_
  rotate_left
  · ((intro w hSw; (try dsimp only at hSw); go_simp); (try with_reducible rfl))
  try simp only [Act.put, List.setIfInBounds_toArray, List.set_cons_zero, List.set_cons_succ]
  refine rg_take (n := 8) (v := ?_) 19 (some 91) rfl rfl (by kernel_rfl) (by kernel_rfl) (by kernel_rfl) (fun _ _ _ h => h) (by rfl) hI ?_ ?_
  rotate_left
  · ((intro w hSw; (try dsimp only at hSw); go_simp); (try with_reducible rfl))
  try simp only [Act.put, List.setIfInBounds_toArray, List.set_cons_zero, List.set_cons_succ]
  refine rg_take (n := 7) (v := ?_) 20 (some 92) rfl rfl (by kernel_rfl) (by kernel_rfl) (by kernel_rfl) (fun _ _ _ h => h) (by rfl) hI ?_ ?_
  rotate_left
  · ((intro w hSw; (try dsimp only at hSw); go_simp); (try with_reducible rfl))
  try simp only [Act.put, List.setIfInBounds_toArray, List.set_cons_zero, List.set_cons_succ]
  refine rg_take (n := 6) (v := ?_) 22 (some 94) rfl rfl (by kernel_rfl) (by kernel_rfl) (by kernel_rfl) (fun _ _ _ h => h) (by rfl) hI ?_ ?_
  rotate_left
  · ((intro w hSw; (try dsimp only at hSw); go_simp); (try with_reducible rfl))
  try simp only [Act.put, List.setIfInBounds_toArray, List.set_cons_zero, List.set_cons_succ]
  refine rg_take (n := 5) (v := ?_) 23 (some 95) rfl rfl (by kernel_rfl) (by kernel_rfl) (by kernel_rfl) (fun _ _ _ h => h) (by rfl) hI ?_ ?_
  rotate_left
  · ((intro w hSw; (try dsimp only at hSw); go_simp); (try with_reducible rfl))
  try simp only [Act.put, List.setIfInBounds_toArray, List.set_cons_zero, List.set_cons_succ]
  refine rg_one (n := 4) 21 rfl (by kernel_rfl) (by rfl) ?_
  go_simp
  go_at_call 21
  refine (HLi.out _ M1.out).mono ?_
  rintro e u4 ⟨rfl, hml⟩
  have Mu4 := Lib.hid (M1.out.trans hml (fun _ _ h => h))
  clear hml
  clear hI
  have hI := (show (fun V : World => (V.cell? ⟨W.heap.size, 0, none⟩ = some (.slice x.P x.n x.c) ∧ V.cell? ⟨W.heap.size, 1, none⟩ = some (.slice (some ⟨b, o, none⟩) x.m x.d) ∧ V.cell? ⟨W.heap.size, 2, none⟩ = some (.int .i64 x.t.sl) ∧ V.cell? ⟨W.heap.size, 3, none⟩ = some (.int .i64 x.t.nw)) ∧ V.cell? ⟨b, o + i * 3 + 2, none⟩ = some (.int .i64 ai) ∧ V.cell? ⟨b, o + k * 3 + 2, none⟩ = some (.int .i64 ak)) _ from HIg.out _ Mu4.out)
  refine ⟨hI, ?_⟩
  try simp only [Act.put, List.setIfInBounds_toArray, List.set_cons_zero, List.set_cons_succ]
  refine rg_one (n := 3) 24 rfl (by kernel_rfl) (by rfl) ?_
  go_simp
  go_at_call 21
  refine (HLk.out _ Mu4.out).mono ?_
  rintro e u5 ⟨rfl, hml⟩
  have Mu5 := Lib.hid (Mu4.out.trans hml (fun _ _ h => h))
  clear hml
  clear hI
  have hI := (show (fun V : World => (V.cell? ⟨W.heap.size, 0, none⟩ = some (.slice x.P x.n x.c) ∧ V.cell? ⟨W.heap.size, 1, none⟩ = some (.slice (some ⟨b, o, none⟩) x.m x.d) ∧ V.cell? ⟨W.heap.size, 2, none⟩ = some (.int .i64 x.t.sl) ∧ V.cell? ⟨W.heap.size, 3, none⟩ = some (.int .i64 x.t.nw)) ∧ V.cell? ⟨b, o + i * 3 + 2, none⟩ = some (.int .i64 ai) ∧ V.cell? ⟨b, o + k * 3 + 2, none⟩ = some (.int .i64 ak)) _ from HIg.out _ Mu5.out)
  refine ⟨hI, ?_⟩
  try simp only [Act.put, List.setIfInBounds_toArray, List.set_cons_zero, List.set_cons_succ]
  refine rg_take (n := 2) (v := ?_) 25 (some 97) rfl rfl (by kernel_rfl) (by kernel_rfl) (by kernel_rfl) (fun _ _ _ h => h) (by rfl) hI ?_ ?_
  rotate_left
  · ((intro w hSw; (try dsimp only at hSw); go_simp); (try with_reducible rfl))
  try simp only [Act.put, List.setIfInBounds_toArray, List.set_cons_zero, List.set_cons_succ]
  refine rg_take (n := 1) (v := ?_) 26 (some 98) rfl rfl (by kernel_rfl) (by kernel_rfl) (by kernel_rfl) (fun _ _ _ h => h) (by rfl) hI ?_ ?_
  rotate_left
  · ((intro w hSw; (try dsimp only at hSw); go_simp); (try with_reducible rfl))
  try simp only [Act.put, List.setIfInBounds_toArray, List.set_cons_zero, List.set_cons_succ]
  refine rg_take (n := 0) (v := ?_) 27 (some 99) rfl rfl (by kernel_rfl) (by kernel_rfl) (by kernel_rfl) (fun _ _ _ h => h) (by rfl) hI ?_ ?_
  rotate_left
  · ((intro w hSw; (try dsimp only at hSw); go_simp); (try with_reducible rfl))
  try simp only [Act.put, List.setIfInBounds_toArray, List.set_cons_zero, List.set_cons_succ]
  refine wpAnyH_done (by kernel_rfl) ?_ _
  clear hI
  go_wp2
  go_ret
  exact ⟨rfl, (HM5.out.trans Mu5.out (fun _ _ h => h)).below (Nat.le_refl _) (fun _ _ => id)⟩
end Go.Proofs.Ythbcgbbcoanbdaa
