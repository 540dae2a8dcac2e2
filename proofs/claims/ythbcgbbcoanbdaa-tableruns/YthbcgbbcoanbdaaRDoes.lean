/-
  bobbinlaw10.refDoes: the document's call.
-/
import Derived.Test.YthbcgbbcoanbdaaTDoes
import Derived.Test.YthbcgbbcoanbdaaRSettle2
namespace Go.Proofs.Ythbcgbbcoanbdaa
open Go Go.RowKit

set_option maxRecDepth 100000 in
set_option maxHeartbeats 6400000 in
theorem rdoes_ok (w : World) (x : TV) (h : x.At w) (htm : x.t.May) (y : OpD) :
    Calls Try.prog 13 #[.agg #[.slice x.P x.n x.c, .slice x.S x.m x.d, .int .i64 x.t.sl, .int .i64 x.t.nw], .agg #[.int .i64 y.kind, .int .i64 y.page, .int .i64 y.at_, .int .i64 y.seg, .int .i64 y.p.a, .int .i64 y.p.b, .int .i64 y.p.c]] w fun e w' => TbAns w w' (doesE x.t y) (doesT x.t y) e := by
  obtain ⟨w1, hw1⟩ : ∃ w1, ((w.alloc (.cells #[.slice x.P x.n x.c, .slice x.S x.m x.d, .int .i64 x.t.sl, .int .i64 x.t.nw] 27)).alloc (.cells #[.int .i64 y.kind, .int .i64 y.page, .int .i64 y.at_, .int .i64 y.seg, .int .i64 y.p.a, .int .i64 y.p.b, .int .i64 y.p.c] 36)).alloc (.cells #[.slice none 0 0, .slice none 0 0, .int .i64 0, .int .i64 0] 27) = w1 := ⟨_, rfl⟩
  have hb : Bxt w w1 x := by
    rw [← hw1]
    refine ⟨((TBx.new w x).keep ((Mod.refl _ _).alloc _)).keep ((Mod.refl _ _).alloc _), ?_, (((Mod.refl _ w).alloc _).alloc _).alloc _, by simp⟩
    have := TBx.new ((w.alloc (.cells #[.slice x.P x.n x.c, .slice x.S x.m x.d, .int .i64 x.t.sl, .int .i64 x.t.nw] 27)).alloc (.cells #[.int .i64 y.kind, .int .i64 y.page, .int .i64 y.at_, .int .i64 y.seg, .int .i64 y.p.a, .int .i64 y.p.b, .int .i64 y.p.c] 36)) z0
    rw [World.size_alloc, World.size_alloc] at this
    exact this
  have ho : OBx w1 (w.heap.size + 1) y := by
    rw [← hw1]
    have := (OBx.new (w.alloc (.cells #[.slice x.P x.n x.c, .slice x.S x.m x.d, .int .i64 x.t.sl, .int .i64 x.t.nw] 27)) y).keep ((Mod.refl _ _).alloc (.cells #[.slice none 0 0, .slice none 0 0, .int .i64 0, .int .i64 0] 27))
    rw [World.size_alloc] at this
    exact this
  obtain ⟨c0, c1, c2, c3⟩ := hb.b1.cells
  obtain ⟨o0, o1, o2, o3, o4, o5, o6⟩ := ho.cells
  rw [Nat.zero_add] at o1 o2 o3 o4 o5 o6
  have HB := Lib.hid hb
  have HX := Lib.hid (h.keep hb.old)
  have HTM := Lib.hid htm
  clear hb ho h
  unfold doesE doesT
  by_cases h0 : y.kind = 0
  · rw [if_pos h0, if_pos h0]
    have HC0 := rput_ok w1 x HX.out htm y.page y.at_
    generalize putE x.t y.page y.at_ = E at *
    have hk0 : (y.kind == 0) = true := by simpa using h0
    have HC := Lib.hid (HC0)
    clear h0
    go_enter Try.func13, Try.ntmps13
    go_wp2_with fail
    clear hw1 c0 c1 c2 c3 o0 o1 o2 o3 o4 o5 o6
    refine HC.out.mono ?_
    rintro e w2 ⟨z, rfl, hz, ht, hm2⟩
    have hb2 := HB.out.keep hm2
    have fz0 := hb2.b2.frozen 0
    have fz1 := hb2.b2.frozen 1
    have fz2 := hb2.b2.frozen 2
    have fz3 := hb2.b2.frozen 3
    obtain ⟨z0c, z1c, z2c, z3c⟩ := hb2.b2.cells
    have hend := does_end hb2 hz
    obtain ⟨wf, hwf⟩ : ∃ wf, stT w2 (w.heap.size + 2) z = wf := ⟨_, rfl⟩
    rw [hwf] at hend
    unfold stT at hwf
    have Hend := Lib.hid hend
    have Ht := Lib.hid ht
    clear hend ht hz hm2 hb2 HC
    go_wp2
    clear hwf fz0 fz1 fz2 fz3 z0c z1c z2c z3c
    obtain ⟨q0, q1, q2, q3⟩ := Hend.out.2.1.cells
    refine bodyPost_ret (v := .tuple #[.agg #[.slice z.P z.n z.c, .slice z.S z.m z.d, .int .i64 z.t.sl, .int .i64 z.t.nw], .int .i64 E]) (by simp [results, Try.results13, go_sem, q0, q1, q2, q3]) rfl ?_
    exact ⟨z, rfl, Hend.out.1, Ht.out, Hend.out.2.2⟩
  rw [if_neg h0, if_neg h0]
  by_cases h1 : y.kind = 1
  · rw [if_pos h1, if_pos h1]
    have HC0 := rset_ok w1 x HX.out htm y.page y.p
    generalize setE x.t y.page y.p = E at *
    have hk0 : (y.kind == 0) = false := by simpa using h0
    have hk1 : (y.kind == 1) = true := by simpa using h1
    have HC := Lib.hid (HC0)
    clear h0 h1
    go_enter Try.func13, Try.ntmps13
    go_wp2_with fail
    clear hw1 c0 c1 c2 c3 o0 o1 o2 o3 o4 o5 o6
    refine HC.out.mono ?_
    rintro e w2 ⟨z, rfl, hz, ht, hm2⟩
    have hb2 := HB.out.keep hm2
    have fz0 := hb2.b2.frozen 0
    have fz1 := hb2.b2.frozen 1
    have fz2 := hb2.b2.frozen 2
    have fz3 := hb2.b2.frozen 3
    obtain ⟨z0c, z1c, z2c, z3c⟩ := hb2.b2.cells
    have hend := does_end hb2 hz
    obtain ⟨wf, hwf⟩ : ∃ wf, stT w2 (w.heap.size + 2) z = wf := ⟨_, rfl⟩
    rw [hwf] at hend
    unfold stT at hwf
    have Hend := Lib.hid hend
    have Ht := Lib.hid ht
    clear hend ht hz hm2 hb2 HC
    go_wp2
    clear hwf fz0 fz1 fz2 fz3 z0c z1c z2c z3c
    obtain ⟨q0, q1, q2, q3⟩ := Hend.out.2.1.cells
    refine bodyPost_ret (v := .tuple #[.agg #[.slice z.P z.n z.c, .slice z.S z.m z.d, .int .i64 z.t.sl, .int .i64 z.t.nw], .int .i64 E]) (by simp [results, Try.results13, go_sem, q0, q1, q2, q3]) rfl ?_
    exact ⟨z, rfl, Hend.out.1, Ht.out, Hend.out.2.2⟩
  rw [if_neg h1, if_neg h1]
  by_cases h2 : y.kind = 2
  · rw [if_pos h2, if_pos h2]
    have HC0 := rfree_ok w1 x HX.out htm y.seg
    generalize freeE x.t y.seg = E at *
    have hk0 : (y.kind == 0) = false := by simpa using h0
    have hk1 : (y.kind == 1) = false := by simpa using h1
    have hk2 : (y.kind == 2) = true := by simpa using h2
    have HC := Lib.hid (HC0)
    clear h0 h1 h2
    go_enter Try.func13, Try.ntmps13
    go_wp2_with fail
    clear hw1 c0 c1 c2 c3 o0 o1 o2 o3 o4 o5 o6
    refine HC.out.mono ?_
    rintro e w2 ⟨z, rfl, hz, ht, hm2⟩
    have hb2 := HB.out.keep hm2
    have fz0 := hb2.b2.frozen 0
    have fz1 := hb2.b2.frozen 1
    have fz2 := hb2.b2.frozen 2
    have fz3 := hb2.b2.frozen 3
    obtain ⟨z0c, z1c, z2c, z3c⟩ := hb2.b2.cells
    have hend := does_end hb2 hz
    obtain ⟨wf, hwf⟩ : ∃ wf, stT w2 (w.heap.size + 2) z = wf := ⟨_, rfl⟩
    rw [hwf] at hend
    unfold stT at hwf
    have Hend := Lib.hid hend
    have Ht := Lib.hid ht
    clear hend ht hz hm2 hb2 HC
    go_wp2
    clear hwf fz0 fz1 fz2 fz3 z0c z1c z2c z3c
    obtain ⟨q0, q1, q2, q3⟩ := Hend.out.2.1.cells
    refine bodyPost_ret (v := .tuple #[.agg #[.slice z.P z.n z.c, .slice z.S z.m z.d, .int .i64 z.t.sl, .int .i64 z.t.nw], .int .i64 E]) (by simp [results, Try.results13, go_sem, q0, q1, q2, q3]) rfl ?_
    exact ⟨z, rfl, Hend.out.1, Ht.out, Hend.out.2.2⟩
  rw [if_neg h2, if_neg h2]
  have HC0 := rsettle_ok w1 x HX.out htm y.seg
  rw [if_pos (mayB_iff.2 htm)]
  generalize hE0 : (0 : Int) = E at HC0 ⊢
  clear hE0
  have hk0 : (y.kind == 0) = false := by simpa using h0
  have hk1 : (y.kind == 1) = false := by simpa using h1
  have hk2 : (y.kind == 2) = false := by simpa using h2
  have HC := Lib.hid (HC0)
  clear h0 h1 h2
  go_enter Try.func13, Try.ntmps13
  go_wp2_with fail
  clear hw1 c0 c1 c2 c3 o0 o1 o2 o3 o4 o5 o6
  refine HC.out.mono ?_
  rintro e w2 ⟨z, rfl, hz, ht, hm2⟩
  have hb2 := HB.out.keep hm2
  have fz0 := hb2.b2.frozen 0
  have fz1 := hb2.b2.frozen 1
  have fz2 := hb2.b2.frozen 2
  have fz3 := hb2.b2.frozen 3
  obtain ⟨z0c, z1c, z2c, z3c⟩ := hb2.b2.cells
  have hend := does_end hb2 hz
  obtain ⟨wf, hwf⟩ : ∃ wf, stT w2 (w.heap.size + 2) z = wf := ⟨_, rfl⟩
  rw [hwf] at hend
  unfold stT at hwf
  have Hend := Lib.hid hend
  have Ht := Lib.hid ht
  clear hend ht hz hm2 hb2 HC
  go_wp2
  clear hwf fz0 fz1 fz2 fz3 z0c z1c z2c z3c
  obtain ⟨q0, q1, q2, q3⟩ := Hend.out.2.1.cells
  refine bodyPost_ret (v := .tuple #[.agg #[.slice z.P z.n z.c, .slice z.S z.m z.d, .int .i64 z.t.sl, .int .i64 z.t.nw], .int .i64 E]) (by simp [results, Try.results13, go_sem, q0, q1, q2, q3]) rfl ?_
  exact ⟨z, rfl, Hend.out.1, Ht.out, Hend.out.2.2⟩

end Go.Proofs.Ythbcgbbcoanbdaa
