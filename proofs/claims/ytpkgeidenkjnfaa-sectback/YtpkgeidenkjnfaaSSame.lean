/-
  bobbinref07.Same, of two batches that are the same.
-/
import Derived.Test.YtpkgeidenkjnfaaSBase
namespace Go.Proofs.Ytpkgeidenkjnfaa
open Go Go.RowKit Go.Shelf

set_option maxRecDepth 100000 in
set_option maxHeartbeats 2000000 in
theorem bsame_ok (w : World) (x y : BtD) (hx : x.At w) (hy : y.At w) (he : x.e = y.e) (hs : x.s = y.s) (hf : x.f = y.f) (hn : x.n = y.n) (hn100 : x.n ≤ 1000)
    (hr : ∀ (i : Nat) (a b : RcD), x.l[i]? = some a → y.l[i]? = some b → sameR a b = true ∧ a.o.m ≤ 1000 ∧ a.v.m ≤ 1000 ∧ b.o.m ≤ 1000 ∧ b.v.m ≤ 1000) :
    Calls Try.prog 22 #[x.val, y.val] w fun e w' => e = .returned (.bool true) ∧ Mod (fun _ => False) w w' := by
  obtain ⟨w1, hw1⟩ : ∃ w1, (w.alloc (.cells x.cells 24)).alloc (.cells y.cells 24) = w1 := ⟨_, rfl⟩
  have hm1 : Mod (fun _ => False) w w1 := by rw [← hw1]; exact ((Mod.refl _ w).alloc _).alloc _
  have hX1 : x.In w1 w.heap.size := by rw [← hw1]; exact (BtD.In.new w x).keep ((Mod.refl _ _).alloc _)
  have hY1 : y.In w1 (w.heap.size + 1) := by
    rw [← hw1]
    have := BtD.In.new (w.alloc (.cells x.cells 24)) y
    rw [World.size_alloc] at this
    exact this
  have Hm1 := Lib.hid hm1
  have HX1 := Lib.hid hX1
  have HY1 := Lib.hid hY1
  have Hx := Lib.hid hx
  have Hy := Lib.hid hy
  have Hlx : Hid (x.l.length = x.n) := Rs.len hx
  have Hly : Hid (y.l.length = x.n) := by rw [hn]; exact Rs.len hy
  have Hr := Lib.hid hr
  have x0 := hX1.c0
  have x1 := hX1.c1
  have x2 := hX1.c2
  have x3 := hX1.c3
  have y0 := hY1.c0
  have y1 := hY1.c1
  have y2 := hY1.c2
  have y3 := hY1.c3
  rw [← he] at y0
  rw [← hs] at y1
  rw [← hf] at y2
  rw [← hn] at y3
  have Hn := Lib.hid hn
  have hnI : (x.n : Int) ≤ 1000 := by omega
  clear hx hy he hs hf hn hr hm1 hX1 hY1
  go_enter Try.func22, Try.ntmps22
  go_wp2_with fail
  clear hw1 x0 x1 x2 x3 y0 y1 y2 y3
  go_loopw [5] (fun i wr => ∃ j : Nat, j ≤ x.n ∧ i = .int .i64 j ∧ Mod (fun _ => False) w1 wr) (fun i _ => x.n - (intOf i).toNat)
  case atStart => exact ⟨0, by omega, rfl, Mod.refl _ _⟩
  case round =>
    obtain ⟨j, hj, rfl, hm⟩ := hrel
    have Hm := Lib.hid hm
    have x3 := (HX1.out.keep hm).c3
    have y3 := (HY1.out.keep hm).c3
    rw [← Hn.out] at y3
    clear hm
    by_cases hlt : j < x.n
    · obtain ⟨b1, o1, hA1, hc1⟩ := Rs.cells Hx.out (by omega)
      obtain ⟨b2, o2, hA2, hc2⟩ := Rs.cells Hy.out (by rw [← Hn.out]; omega)
      rw [hA1] at x3
      rw [hA2] at y3
      obtain ⟨a, ha⟩ : ∃ a, x.l[j]? = some a := ⟨_, List.getElem?_eq_getElem (by rw [Hlx.out]; exact hlt)⟩
      obtain ⟨b, hb⟩ : ∃ b, y.l[j]? = some b := ⟨_, List.getElem?_eq_getElem (by rw [Hly.out]; exact hlt)⟩
      obtain ⟨hs, h1, h2, h3, h4⟩ := Hr.out j a b ha hb
      have hmr := Hm1.out.trans Hm.out (fun _ _ h => h)
      have hC1 := (hc1 j a ha).keep (hmr.block b1 (hc1 j a ha).lt id)
      have hC2 := (hc2 j b hb).keep (hmr.block b2 (hc2 j b hb).lt id)
      have hsm := rsame_ok wr.drew a b ((Hx.out.ats a (List.mem_of_getElem? ha)).keep hmr.drew) ((Hy.out.ats b (List.mem_of_getElem? hb)).keep hmr.drew) (by omega) (by omega) (by omega) (by omega)
      rw [show (sameN a b && (sameV a.o b.o && sameV a.v b.v && (a.k == b.k))) = true from hs] at hsm
      have Hsm := Lib.hid hsm
      have p0 := hC1.k
      have p1 := hC1.f1
      have p2 := hC1.f2
      have p3 := hC1.f3
      have p4 := hC1.f4
      have p5 := hC1.f5
      have p6 := hC1.f6
      have p7 := hC1.f7
      have p8 := hC1.f8
      have p9 := hC1.f9
      have p10 := hC1.c10
      have p11 := hC1.c11
      have p12 := hC1.c12
      have p13 := hC1.c13
      have q0 := hC2.k
      have q1 := hC2.f1
      have q2 := hC2.f2
      have q3 := hC2.f3
      have q4 := hC2.f4
      have q5 := hC2.f5
      have q6 := hC2.f6
      have q7 := hC2.f7
      have q8 := hC2.f8
      have q9 := hC2.f9
      have q10 := hC2.c10
      have q11 := hC2.c11
      have q12 := hC2.c12
      have q13 := hC2.c13
      clear hsm hC1 hC2 hmr hs h1 h2 h3 h4 ha hb hc1 hc2 hA1 hA2
      go_wp2_with fail
      go_still_tail 10, (by kernel_rfl)
      change wpList _ _ _ _ _ wr.drew
      have Hmd := Lib.hid Hm.out.drew
      clear p0 p1 p2 p3 p4 p5 p6 p7 p8 p9 p10 p11 p12 p13 q0 q1 q2 q3 q4 q5 q6 q7 q8 q9 q10 q11 q12 q13 x3 y3
      generalize wr.drew = wd at *
      go_wp2_with fail
      refine Hsm.out.mono ?_
      rintro e w2 ⟨rfl, hm2⟩
      have Hm2 := Lib.hid (Hmd.out.trans hm2 (fun _ _ h => h))
      clear hm2 Hsm
      go_wp2
      go_roundw
      case rel => exact ⟨j + 1, by omega, by go_num, Hm2.out⟩
      case measure => simp [intOf]; omega
    · go_wp2
      go_ret
      exact ⟨rfl, Hm1.out.trans Hm.out (fun _ _ h => h)⟩
end Go.Proofs.Ytpkgeidenkjnfaa
