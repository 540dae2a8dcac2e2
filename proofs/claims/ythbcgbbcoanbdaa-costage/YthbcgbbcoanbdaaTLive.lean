/-
  Package table: Live, top.
-/
import Derived.Test.YthbcgbbcoanbdaaTNext
namespace Go.Proofs.Ythbcgbbcoanbdaa
open Go Go.RowKit

set_option maxRecDepth 100000 in
set_option maxHeartbeats 3200000 in
theorem live_ok (w : World) (x : TV) (h : x.At w) (hn : x.n ≤ 1000) (hm : x.m ≤ 1000) (seg : Int) :
    Calls Try.prog 21 #[.agg #[.slice x.P x.n x.c, .slice x.S x.m x.d, .int .i64 x.t.sl, .int .i64 x.t.nw], .int .i64 seg] w fun e w' => e = .returned (.int .i64 (liveI x.t seg)) ∧ Mod (fun _ => False) w w' := by
  obtain ⟨w1, hw1⟩ : ∃ w1, w.alloc (.cells #[.slice x.P x.n x.c, .slice x.S x.m x.d, .int .i64 x.t.sl, .int .i64 x.t.nw] 27) = w1 := ⟨_, rfl⟩
  have hm1 : Mod (fun _ => False) w w1 := by rw [← hw1]; exact (Mod.refl _ w).alloc _
  have hbx : TBx w1 w.heap.size x := by rw [← hw1]; exact TBx.new w x
  obtain ⟨c0, c1, c2, c3⟩ := hbx.cells
  have HB := Lib.hid hbx
  have HM := Lib.hid hm1
  have HX := Lib.hid (h.keep hm1)
  have Hm := Lib.hid (tmay_ok w1 x HX.out hn hm)
  have Hsl : Hid (x.t.sg.length = x.m) := h.sg.len
  have Hpl : Hid (x.t.pg.length = x.n) := h.pg.len
  clear hbx hm1 h
  unfold liveI
  rw [Hsl.out, Hpl.out]
  have Hs := Lib.hid (fun W => hasSeg_ok W x hm seg)
  cases hy : mayB x.t with
  | false =>
    rw [hy] at Hm
    rw [if_neg (by simp)]
    clear hy
    go_enter Try.func21, Try.ntmps21
    go_wp2_with fail
    refine Hm.out.mono ?_
    rintro e w2 ⟨rfl, hm2⟩
    have HM2 := Lib.hid (HM.out.trans hm2 (fun _ _ h => h))
    clear hm2
    go_wp2
    go_ret
    exact ⟨rfl, HM2.out⟩
  | true =>
  rw [hy] at Hm
  clear hy
  cases hi : inB seg 0 ((x.m : Int) - 1) with
  | false =>
    rw [hi] at Hs
    rw [if_neg (by simp)]
    clear hi
    go_enter Try.func21, Try.ntmps21
    go_wp2_with fail
    refine Hm.out.mono ?_
    rintro e w2 ⟨rfl, hm2⟩
    have Hm2 := Lib.hid (HM.out.trans hm2 (fun _ _ h => h))
    obtain ⟨d0, d1, d2, d3⟩ := (HB.out.keep hm2).cells
    clear hm2
    go_wp2_with fail
    refine (Hs.out _).mono ?_
    rintro e w3 ⟨rfl, hm3⟩
    have HM3 := Lib.hid (Hm2.out.trans hm3 (fun _ _ h => h))
    clear hm3
    go_wp2
    go_ret
    exact ⟨rfl, HM3.out⟩
  | true =>
  rw [hi] at Hs
  rw [if_pos ⟨rfl, rfl⟩]
  clear hi
  go_enter Try.func21, Try.ntmps21
  go_wp2_with fail
  refine Hm.out.mono ?_
  rintro e w2 ⟨rfl, hm2⟩
  have Hm2 := Lib.hid hm2
  obtain ⟨d0, d1, d2, d3⟩ := (HB.out.keep hm2).cells
  clear hm2 c0 c1 c2 c3 hw1 Hm
  go_wp2_with fail
  refine (Hs.out _).mono ?_
  rintro e w3 ⟨rfl, hm3⟩
  have HB2 := Lib.hid ((HB.out.keep Hm2.out).keep hm3)
  have HX2 := Lib.hid ((HX.out.keep Hm2.out).keep hm3)
  have HM2 := Lib.hid (HM.out.trans (Hm2.out.trans hm3 (fun _ _ h => h)) (fun _ _ h => h))
  obtain ⟨e0, e1, e2, e3⟩ := HB2.out.cells
  clear hm3 d0 d1 d2 d3 Hs
  go_wp2
  go_loopw [5, 20] (fun k i wr => ∃ j : Nat, j ≤ x.n ∧ i = .int .i64 j ∧ k = .int .i64 ((cnt (lvF seg x.t) j : Nat) : Int) ∧ Mod (fun _ => False) w3 wr) (fun _ i _ => x.n - (intOf i).toNat)
  case atStart => exact ⟨0, Nat.zero_le _, rfl, rfl, Mod.refl _ _⟩
  clear e0 e1 e2 e3
  case round =>
    obtain ⟨j, hj, rfl, rfl, hmr⟩ := hrel
    have Hmr := Lib.hid hmr
    clear hmr
    by_cases hlt : j < x.n
    · obtain ⟨b, o, hP, hc⟩ := (HX2.out.keep Hmr.out).pg.cells (by omega)
      obtain ⟨s0, s1, s2⟩ := hc j hlt
      have Hlv : Hid (lvF seg x.t j = decide ((atS x.t.pg j).a = seg)) := rfl
      have hcb := cnt_le (lvF seg x.t) j
      generalize atS x.t.pg j = s at *
      rw [hP]
      clear hc hP
      by_cases hs : s.a = seg
      · have hd : (s.a == seg) = true := by simpa using hs
        have Hcy : Hid (cnt (lvF seg x.t) (j + 1) = cnt (lvF seg x.t) j + 1) := cnt_yes (Hlv.out.trans (by simpa using hs))
        clear hs Hlv
        generalize cnt (lvF seg x.t) j = q at *
        go_wp2
        go_roundw
        case rel => exact ⟨j + 1, by omega, by go_num, by rw [Hcy.out]; go_num, Hmr.out.alloc _⟩
        case measure => simp [intOf]; omega
      · have hd : (s.a == seg) = false := by simpa using hs
        have Hcy : Hid (cnt (lvF seg x.t) (j + 1) = cnt (lvF seg x.t) j) := cnt_no (Hlv.out.trans (by simpa using hs))
        clear hs Hlv
        generalize cnt (lvF seg x.t) j = q at *
        go_wp2
        go_roundw
        case rel => exact ⟨j + 1, by omega, by go_num, by rw [Hcy.out], Hmr.out.alloc _⟩
        case measure => simp [intOf]; omega
    · obtain rfl : j = x.n := by omega
      go_wp2
      go_ret
      exact ⟨rfl, HM2.out.trans Hmr.out (fun _ _ h => h)⟩

/-- One more than the greatest live slot of a segment among the first pages. -/
def topN (t : Tb) (seg : Int) : Nat → Int
  | 0 => 0
  | j + 1 => if (atS t.pg j).a = seg then max (topN t seg j) ((atS t.pg j).b + 1) else topN t seg j
theorem topN_yes {t : Tb} {seg : Int} {j : Nat} (h : (atS t.pg j).a = seg) : topN t seg (j + 1) = max (topN t seg j) ((atS t.pg j).b + 1) := by rw [topN, if_pos h]
theorem topN_no {t : Tb} {seg : Int} {j : Nat} (h : ¬ (atS t.pg j).a = seg) : topN t seg (j + 1) = topN t seg j := by rw [topN, if_neg h]
theorem topN_nn (t : Tb) (seg : Int) : ∀ j, 0 ≤ topN t seg j
  | 0 => by rw [topN]; decide
  | j + 1 => by
    have := topN_nn t seg j
    rw [topN]
    split
    · omega
    · exact this

set_option maxRecDepth 100000 in
set_option maxHeartbeats 3200000 in
theorem top_ok (w : World) (x : TV) (h : x.At w) (hn : x.n ≤ 1000) (seg : Int) (hs0 : 0 ≤ seg) (hsm : ∀ j, j < x.n → 0 ≤ (atS x.t.pg j).a → 0 ≤ (atS x.t.pg j).b ∧ (atS x.t.pg j).b ≤ 16) :
    Calls Try.prog 54 #[.agg #[.slice x.P x.n x.c, .slice x.S x.m x.d, .int .i64 x.t.sl, .int .i64 x.t.nw], .int .i64 seg] w fun e w' => e = .returned (.int .i64 (topN x.t seg x.n)) ∧ Mod (fun _ => False) w w' := by
  obtain ⟨w1, hw1⟩ : ∃ w1, w.alloc (.cells #[.slice x.P x.n x.c, .slice x.S x.m x.d, .int .i64 x.t.sl, .int .i64 x.t.nw] 27) = w1 := ⟨_, rfl⟩
  have hm1 : Mod (fun _ => False) w w1 := by rw [← hw1]; exact (Mod.refl _ w).alloc _
  have hbx : TBx w1 w.heap.size x := by rw [← hw1]; exact TBx.new w x
  obtain ⟨c0, c1, c2, c3⟩ := hbx.cells
  have HB2 := Lib.hid hbx
  have HM2 := Lib.hid hm1
  have HX2 := Lib.hid (h.keep hm1)
  have Hsm := Lib.hid hsm
  clear hbx hm1 h hsm
  go_enter Try.func54, Try.ntmps54
  go_wp2
  go_loopw [5, 11] (fun k i wr => ∃ j : Nat, j ≤ x.n ∧ i = .int .i64 j ∧ k = .int .i64 (topN x.t seg j) ∧ Mod (fun _ => False) w1 wr) (fun _ i _ => x.n - (intOf i).toNat)
  case atStart => exact ⟨0, Nat.zero_le _, rfl, rfl, Mod.refl _ _⟩
  clear c0 c1 c2 c3 hw1
  case round =>
    obtain ⟨j, hj, rfl, rfl, hmr⟩ := hrel
    have Hmr := Lib.hid hmr
    clear hmr
    by_cases hlt : j < x.n
    · obtain ⟨b, o, hP, hc⟩ := (HX2.out.keep Hmr.out).pg.cells (by omega)
      obtain ⟨s0, s1, s2⟩ := hc j hlt
      have Hsj := Lib.hid (Hsm.out j hlt)
      have hty := topN_yes (t := x.t) (seg := seg) (j := j)
      have htn := topN_no (t := x.t) (seg := seg) (j := j)
      have Hty := Lib.hid hty
      have Htn := Lib.hid htn
      generalize atS x.t.pg j = s at *
      generalize hTj : topN x.t seg j = q at *
      rw [hP]
      clear hc hP hty htn hTj
      by_cases hs : s.a = seg
      · have hd : (s.a == seg) = true := by simpa using hs
        have Hcy := Lib.hid (Hty.out hs)
        obtain ⟨hb0, hb1⟩ := Hsj.out (by omega)
        clear hs Hty Htn
        go_wp2
        go_roundw
        case rel => exact ⟨j + 1, by omega, by go_num, by rw [Hcy.out]; first | done | rfl | go_num, Hmr.out.alloc _⟩
        case measure => simp [intOf]; omega
      · have hd : (s.a == seg) = false := by simpa using hs
        have Hcy := Lib.hid (Htn.out hs)
        clear hs Hty Htn
        go_wp2
        go_roundw
        case rel => exact ⟨j + 1, by omega, by go_num, by rw [Hcy.out], Hmr.out.alloc _⟩
        case measure => simp [intOf]; omega
    · obtain rfl : j = x.n := by omega
      go_wp2
      go_ret
      exact ⟨rfl, HM2.out.trans Hmr.out (fun _ _ h => h)⟩
end Go.Proofs.Ythbcgbbcoanbdaa
