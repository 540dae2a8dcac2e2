/-
  CostTells: what it gains to clean any segment, and which one is to be cleaned, is what the document says.
-/
import Derived.Test.YthbcgbbcoanbdaaCLaw
import Derived.Test.YthbcgbbcoanbdaaRVic
namespace Go.Proofs.Ythbcgbbcoanbdaa
open Go Go.RowKit

set_option maxRecDepth 100000 in
set_option maxHeartbeats 6400000 in
theorem tells_walk (x : TV) (W : World) (h : x.At W) (g : Int) :
    Calls Try.prog 4 #[.agg #[.slice x.P x.n x.c, .slice x.S x.m x.d, .int .i64 x.t.sl, .int .i64 x.t.nw], .int .i64 g] W fun e w' => e = .returned (.bool true) ∧ Below W.heap.size W w' := by
  obtain ⟨w1, hw1⟩ : ∃ w1, W.alloc (.cells #[.slice x.P x.n x.c, .slice x.S x.m x.d, .int .i64 x.t.sl, .int .i64 x.t.nw] 27) = w1 := ⟨_, rfl⟩
  have hm1 : Mod (fun _ => False) W w1 := by rw [← hw1]; exact (Mod.refl _ W).alloc _
  have hb1 : TBx w1 W.heap.size x := by rw [← hw1]; exact TBx.new W x
  have HB1 := Lib.hid hb1
  have HX1 := Lib.hid (h.keep hm1)
  have HM1 := Lib.hid hm1
  have Hpl : Hid (x.t.pg.length = x.n) := h.pg.len
  have Hsl : Hid (x.t.sg.length = x.m) := h.sg.len
  clear hb1 hm1 h
  cases hlt : (decide (x.n ≤ 40) && decide (x.m ≤ 40)) with
  | false =>
    go_enter Try.func4, Try.ntmps4
    go_wp2_with fail
    refine (cawake_ok _).mono ?_
    rintro e w2 ⟨rfl, hm2⟩
    clear hw1
    have HB2 := Lib.hid (HB1.out.keep hm2)
    have HX2 := Lib.hid (HX1.out.keep hm2)
    have HM2 := Lib.hid (HM1.out.trans hm2 (fun _ _ h => h))
    clear hm2
    obtain ⟨c0, c1, c2, c3⟩ := HB2.out.cells
    go_wp2_with fail
    refine (clight_ok _ x).mono ?_
    rintro e w3 ⟨rfl, hm3⟩
    clear c0 c1 c2 c3
    have HB3 := Lib.hid (HB2.out.keep hm3)
    have HX3 := Lib.hid (HX2.out.keep hm3)
    have HM3 := Lib.hid (HM2.out.trans hm3 (fun _ _ h => h))
    clear hm3
    rw [hlt]
    go_wp2
    go_ret
    exact ⟨rfl, HM3.out.below (Nat.le_refl _) (fun _ _ => id)⟩
  | true =>
  have hnm : x.n ≤ 40 ∧ x.m ≤ 40 := by simpa using hlt
  obtain ⟨hn, hm⟩ := hnm
  have hn' : x.n ≤ 1000 := by omega
  have hm' : x.m ≤ 1000 := by omega
  have G1 := Lib.hid (fun V (hV : x.At V) => gain_ok V x hV hn' hm' g)
  have G2 := Lib.hid (fun V (hV : x.At V) => rgain_ok V x hV hn' g)
  have G3 := Lib.hid (fun V (hV : x.At V) => victim_ok V x hV hn' hm')
  have G4 := Lib.hid (fun V (hV : x.At V) => rvictim_ok V x hV hn' hm')
  generalize gaN x.t g = N at *
  generalize gaD x.t g = Dn at *
  generalize gnB x.t g = G at *
  generalize (vcT x.t).v = v at *
  generalize (vcT x.t).f = f at *
  have q0 : (N == N) = true := by simp
  have q1 : (Dn == Dn) = true := by simp
  have q2 : (G == G) = true := by simp
  have q3 : (v == v) = true := by simp
  have q4 : (f == f) = true := by simp
  go_enter Try.func4, Try.ntmps4
  go_wp2_with fail
  refine (cawake_ok _).mono ?_
  rintro e w2 ⟨rfl, hm2⟩
  clear hw1
  have HB2 := Lib.hid (HB1.out.keep hm2)
  have HX2 := Lib.hid (HX1.out.keep hm2)
  have HM2 := Lib.hid (HM1.out.trans hm2 (fun _ _ h => h))
  clear hm2
  obtain ⟨c0, c1, c2, c3⟩ := HB2.out.cells
  go_wp2_with fail
  refine (clight_ok _ x).mono ?_
  rintro e w3 ⟨rfl, hm3⟩
  clear c0 c1 c2 c3
  have HB3 := Lib.hid (HB2.out.keep hm3)
  have HX3 := Lib.hid (HX2.out.keep hm3)
  have HM3 := Lib.hid (HM2.out.trans hm3 (fun _ _ h => h))
  clear hm3
  rw [hlt]
  obtain ⟨c0, c1, c2, c3⟩ := HB3.out.cells
  go_wp2_with fail
  refine (G1.out _ HX3.out).mono ?_
  rintro e w4 ⟨rfl, hm4⟩
  clear c0 c1 c2 c3
  have HB4 := Lib.hid (HB3.out.keep hm4)
  have HX4 := Lib.hid (HX3.out.keep hm4)
  have HM4 := Lib.hid (HM3.out.trans hm4 (fun _ _ h => h))
  clear hm4
  obtain ⟨c0, c1, c2, c3⟩ := HB4.out.cells
  go_wp2_with fail
  refine (G2.out _ HX4.out).mono ?_
  rintro e w5 ⟨rfl, hm5⟩
  clear c0 c1 c2 c3
  have HB5 := Lib.hid (HB4.out.keep hm5)
  have HX5 := Lib.hid (HX4.out.keep hm5)
  have HM5 := Lib.hid (HM4.out.trans hm5 (fun _ _ h => h))
  clear hm5
  obtain ⟨c0, c1, c2, c3⟩ := HB5.out.cells
  go_wp2_with fail
  refine (G3.out _ HX5.out).mono ?_
  rintro e w6 ⟨rfl, hm6⟩
  clear c0 c1 c2 c3
  have HB6 := Lib.hid (HB5.out.keep hm6)
  have HX6 := Lib.hid (HX5.out.keep hm6)
  have HM6 := Lib.hid (HM5.out.trans hm6 (fun _ _ h => h))
  clear hm6
  obtain ⟨c0, c1, c2, c3⟩ := HB6.out.cells
  go_wp2_with fail
  refine (G4.out _ HX6.out).mono ?_
  rintro e w7 ⟨rfl, hm7⟩
  clear c0 c1 c2 c3
  have HB7 := Lib.hid (HB6.out.keep hm7)
  have HX7 := Lib.hid (HX6.out.keep hm7)
  have HM7 := Lib.hid (HM6.out.trans hm7 (fun _ _ h => h))
  clear hm7
  go_wp2
  go_ret
  exact ⟨rfl, HM7.out.below (Nat.le_refl _) (fun _ _ => id)⟩
end Go.Proofs.Ythbcgbbcoanbdaa
