/-
  bobbinlaw10.Does: a call.
-/
import Derived.Test.YthbcgbbcoanbdaaTLaw
import Derived.Test.YthbcgbbcoanbdaaTLMath3
namespace Go.Proofs.Ythbcgbbcoanbdaa
open Go Go.RowKit

/-- A call in a box of seven cells. -/
def OBx (W : World) (b : Nat) (y : OpD) : Prop := W.heap[b]? = some (.cells #[.int .i64 y.kind, .int .i64 y.page, .int .i64 y.at_, .int .i64 y.seg, .int .i64 y.p.a, .int .i64 y.p.b, .int .i64 y.p.c] 36 (0, 0))
section
variable {w w' : World} {b : Nat} {y : OpD}
theorem OBx.new (w : World) (y : OpD) : OBx (w.alloc (.cells #[.int .i64 y.kind, .int .i64 y.page, .int .i64 y.at_, .int .i64 y.seg, .int .i64 y.p.a, .int .i64 y.p.b, .int .i64 y.p.c] 36)) w.heap.size y := heap_alloc_new w _
theorem OBx.lt (h : OBx w b y) : b < w.heap.size := (Array.getElem?_eq_some_iff.1 h).1
theorem OBx.keep (h : OBx w b y) (hm : Mod (fun _ => False) w w') : OBx w' b y := (hm.block b h.lt id).trans h
theorem OBx.cells (h : OBx w b y) : y.In w b 0 :=
  ⟨by rw [cell_of_row _ _ _ _ _ _ h]; rfl, by rw [cell_of_row _ _ _ _ _ _ h]; rfl, by rw [cell_of_row _ _ _ _ _ _ h]; rfl, by rw [cell_of_row _ _ _ _ _ _ h]; rfl, by rw [cell_of_row _ _ _ _ _ _ h]; rfl, by rw [cell_of_row _ _ _ _ _ _ h]; rfl, by rw [cell_of_row _ _ _ _ _ _ h]; rfl⟩
end

/-- The end of Does: the answer's table goes into the result's box. -/
theorem does_end {w W : World} {x z : TV} (hb : Bxt w W x) (hz : z.At W) : z.At (stT W (w.heap.size + 2) z) ∧ TBx (stT W (w.heap.size + 2) z) (w.heap.size + 2) z ∧ Mod (fun _ => False) w (stT W (w.heap.size + 2) z) :=
  ⟨hz.store hb.b2 (stT_mod W _ z), hb.b2.set z, hb.old1 (stT_mod W _ z) (fun k hk e => by omega)⟩

set_option maxRecDepth 100000 in
set_option maxHeartbeats 6400000 in
theorem does_ok (w : World) (x : TV) (h : x.At w) (hn : x.n ≤ 1000) (hm : x.m ≤ 1000) (y : OpD) :
    Calls Try.prog 12 #[.agg #[.slice x.P x.n x.c, .slice x.S x.m x.d, .int .i64 x.t.sl, .int .i64 x.t.nw], .agg #[.int .i64 y.kind, .int .i64 y.page, .int .i64 y.at_, .int .i64 y.seg, .int .i64 y.p.a, .int .i64 y.p.b, .int .i64 y.p.c]] w fun e w' => TbAns w w' (doesE x.t y) (doesT x.t y) e := by
  obtain ⟨w1, hw1⟩ : ∃ w1, ((w.alloc (.cells #[.slice x.P x.n x.c, .slice x.S x.m x.d, .int .i64 x.t.sl, .int .i64 x.t.nw] 27)).alloc (.cells #[.int .i64 y.kind, .int .i64 y.page, .int .i64 y.at_, .int .i64 y.seg, .int .i64 y.p.a, .int .i64 y.p.b, .int .i64 y.p.c] 36)).alloc (.cells #[.slice none 0 0, .slice none 0 0, .int .i64 0, .int .i64 0] 27) = w1 := ⟨_, rfl⟩
  have hb : Bxt w w1 x := by
    rw [← hw1]
    refine ⟨((TBx.new w x).keep ((Mod.refl _ _).alloc _)).keep ((Mod.refl _ _).alloc _), ?_, (((Mod.refl _ w).alloc _).alloc _).alloc _, by simp⟩
    have := TBx.new ((w.alloc (.cells #[.slice x.P x.n x.c, .slice x.S x.m x.d, .int .i64 x.t.sl, .int .i64 x.t.nw] 27)).alloc (.cells #[.int .i64 y.kind, .int .i64 y.page, .int .i64 y.at_, .int .i64 y.seg, .int .i64 y.p.a, .int .i64 y.p.b, .int .i64 y.p.c] 36)) z0
    rw [World.size_alloc, World.size_alloc] at this
    exact this
  have ho : OBx w1 (w.heap.size + 1) y := by
    rw [← hw1]
    have := (OBx.new (w.alloc (.cells #[.slice x.P x.n x.c, .slice x.S x.m x.d, .int .i64 x.t.sl, .int .i64 x.t.nw] 27)) y).keep ((Mod.refl _ _).alloc (.cells #[.slice none 0 0, .slice none 0 0, .int .i64 0, .int .i64 0] 27))
    rw [World.size_alloc] at this
    exact this
  obtain ⟨c0, c1, c2, c3⟩ := hb.b1.cells
  obtain ⟨o0, o1, o2, o3, o4, o5, o6⟩ := ho.cells
  rw [Nat.zero_add] at o1 o2 o3 o4 o5 o6
  have HB := Lib.hid hb
  have HX := Lib.hid (h.keep hb.old)
  clear hb ho h
  unfold doesE doesT
  by_cases h0 : y.kind = 0
  · rw [if_pos h0, if_pos h0]
    have HC0 := put_ok w1 x HX.out hn hm y.page y.at_
    generalize putE x.t y.page y.at_ = E at *
    have hk0 : (y.kind == 0) = true := by simpa using h0
    have HC := Lib.hid (HC0)
    clear h0
    go_enter Try.func12, Try.ntmps12
    go_wp2_with fail
    clear hw1 c0 c1 c2 c3 o0 o1 o2 o3 o4 o5 o6
    refine HC.out.mono ?_
    rintro e w2 ⟨z, rfl, hz, ht, hm2⟩
    have hb2 := HB.out.keep hm2
    have fz0 := hb2.b2.frozen 0
    have fz1 := hb2.b2.frozen 1
    have fz2 := hb2.b2.frozen 2
    have fz3 := hb2.b2.frozen 3
    obtain ⟨z0c, z1c, z2c, z3c⟩ := hb2.b2.cells
    have hend := does_end hb2 hz
    obtain ⟨wf, hwf⟩ : ∃ wf, stT w2 (w.heap.size + 2) z = wf := ⟨_, rfl⟩
    rw [hwf] at hend
    unfold stT at hwf
    have Hend := Lib.hid hend
    have Ht := Lib.hid ht
    clear hend ht hz hm2 hb2 HC
    go_wp2
    clear hwf fz0 fz1 fz2 fz3 z0c z1c z2c z3c
    obtain ⟨q0, q1, q2, q3⟩ := Hend.out.2.1.cells
    refine bodyPost_ret (v := .tuple #[.agg #[.slice z.P z.n z.c, .slice z.S z.m z.d, .int .i64 z.t.sl, .int .i64 z.t.nw], .int .i64 E]) (by simp [results, Try.results12, go_sem, q0, q1, q2, q3]) rfl ?_
    exact ⟨z, rfl, Hend.out.1, Ht.out, Hend.out.2.2⟩
  rw [if_neg h0, if_neg h0]
  by_cases h1 : y.kind = 1
  · rw [if_pos h1, if_pos h1]
    have HC0 := set_ok w1 x HX.out hn hm y.page y.p
    generalize setE x.t y.page y.p = E at *
    have hk0 : (y.kind == 0) = false := by simpa using h0
    have hk1 : (y.kind == 1) = true := by simpa using h1
    have HC := Lib.hid (HC0)
    clear h0 h1
    go_enter Try.func12, Try.ntmps12
    go_wp2_with fail
    clear hw1 c0 c1 c2 c3 o0 o1 o2 o3 o4 o5 o6
    refine HC.out.mono ?_
    rintro e w2 ⟨z, rfl, hz, ht, hm2⟩
    have hb2 := HB.out.keep hm2
    have fz0 := hb2.b2.frozen 0
    have fz1 := hb2.b2.frozen 1
    have fz2 := hb2.b2.frozen 2
    have fz3 := hb2.b2.frozen 3
    obtain ⟨z0c, z1c, z2c, z3c⟩ := hb2.b2.cells
    have hend := does_end hb2 hz
    obtain ⟨wf, hwf⟩ : ∃ wf, stT w2 (w.heap.size + 2) z = wf := ⟨_, rfl⟩
    rw [hwf] at hend
    unfold stT at hwf
    have Hend := Lib.hid hend
    have Ht := Lib.hid ht
    clear hend ht hz hm2 hb2 HC
    go_wp2
    clear hwf fz0 fz1 fz2 fz3 z0c z1c z2c z3c
    obtain ⟨q0, q1, q2, q3⟩ := Hend.out.2.1.cells
    refine bodyPost_ret (v := .tuple #[.agg #[.slice z.P z.n z.c, .slice z.S z.m z.d, .int .i64 z.t.sl, .int .i64 z.t.nw], .int .i64 E]) (by simp [results, Try.results12, go_sem, q0, q1, q2, q3]) rfl ?_
    exact ⟨z, rfl, Hend.out.1, Ht.out, Hend.out.2.2⟩
  rw [if_neg h1, if_neg h1]
  by_cases h2 : y.kind = 2
  · rw [if_pos h2, if_pos h2]
    have HC0 := tfree_ok w1 x HX.out hn hm y.seg
    generalize freeE x.t y.seg = E at *
    have hk0 : (y.kind == 0) = false := by simpa using h0
    have hk1 : (y.kind == 1) = false := by simpa using h1
    have hk2 : (y.kind == 2) = true := by simpa using h2
    have HC := Lib.hid (HC0)
    clear h0 h1 h2
    go_enter Try.func12, Try.ntmps12
    go_wp2_with fail
    clear hw1 c0 c1 c2 c3 o0 o1 o2 o3 o4 o5 o6
    refine HC.out.mono ?_
    rintro e w2 ⟨z, rfl, hz, ht, hm2⟩
    have hb2 := HB.out.keep hm2
    have fz0 := hb2.b2.frozen 0
    have fz1 := hb2.b2.frozen 1
    have fz2 := hb2.b2.frozen 2
    have fz3 := hb2.b2.frozen 3
    obtain ⟨z0c, z1c, z2c, z3c⟩ := hb2.b2.cells
    have hend := does_end hb2 hz
    obtain ⟨wf, hwf⟩ : ∃ wf, stT w2 (w.heap.size + 2) z = wf := ⟨_, rfl⟩
    rw [hwf] at hend
    unfold stT at hwf
    have Hend := Lib.hid hend
    have Ht := Lib.hid ht
    clear hend ht hz hm2 hb2 HC
    go_wp2
    clear hwf fz0 fz1 fz2 fz3 z0c z1c z2c z3c
    obtain ⟨q0, q1, q2, q3⟩ := Hend.out.2.1.cells
    refine bodyPost_ret (v := .tuple #[.agg #[.slice z.P z.n z.c, .slice z.S z.m z.d, .int .i64 z.t.sl, .int .i64 z.t.nw], .int .i64 E]) (by simp [results, Try.results12, go_sem, q0, q1, q2, q3]) rfl ?_
    exact ⟨z, rfl, Hend.out.1, Ht.out, Hend.out.2.2⟩
  rw [if_neg h2, if_neg h2]
  have HC0 := settle_ok w1 x HX.out hn hm y.seg
  generalize (if mayB x.t = true then (0 : Int) else 1) = E at *
  have hk0 : (y.kind == 0) = false := by simpa using h0
  have hk1 : (y.kind == 1) = false := by simpa using h1
  have hk2 : (y.kind == 2) = false := by simpa using h2
  have HC := Lib.hid (HC0)
  clear h0 h1 h2
  go_enter Try.func12, Try.ntmps12
  go_wp2_with fail
  clear hw1 c0 c1 c2 c3 o0 o1 o2 o3 o4 o5 o6
  refine HC.out.mono ?_
  rintro e w2 ⟨z, rfl, hz, ht, hm2⟩
  have hb2 := HB.out.keep hm2
  have fz0 := hb2.b2.frozen 0
  have fz1 := hb2.b2.frozen 1
  have fz2 := hb2.b2.frozen 2
  have fz3 := hb2.b2.frozen 3
  obtain ⟨z0c, z1c, z2c, z3c⟩ := hb2.b2.cells
  have hend := does_end hb2 hz
  obtain ⟨wf, hwf⟩ : ∃ wf, stT w2 (w.heap.size + 2) z = wf := ⟨_, rfl⟩
  rw [hwf] at hend
  unfold stT at hwf
  have Hend := Lib.hid hend
  have Ht := Lib.hid ht
  clear hend ht hz hm2 hb2 HC
  go_wp2
  clear hwf fz0 fz1 fz2 fz3 z0c z1c z2c z3c
  obtain ⟨q0, q1, q2, q3⟩ := Hend.out.2.1.cells
  refine bodyPost_ret (v := .tuple #[.agg #[.slice z.P z.n z.c, .slice z.S z.m z.d, .int .i64 z.t.sl, .int .i64 z.t.nw], .int .i64 E]) (by simp [results, Try.results12, go_sem, q0, q1, q2, q3]) rfl ?_
  exact ⟨z, rfl, Hend.out.1, Ht.out, Hend.out.2.2⟩

theorem l_does {w W : World} {b : Nat} {z : TV} {T : Tb} (h : Tbl w W b z T) (hl : T.pg.length ≤ 1000 ∧ T.sg.length ≤ 1000) (y : OpD) : Calls Try.prog 12 #[.agg #[.slice z.P z.n z.c, .slice z.S z.m z.d, .int .i64 z.t.sl, .int .i64 z.t.nw], .agg #[.int .i64 y.kind, .int .i64 y.page, .int .i64 y.at_, .int .i64 y.seg, .int .i64 y.p.a, .int .i64 y.p.b, .int .i64 y.p.c]] W fun e w' => TbAns W w' (doesE T y) (doesT T y) e := by
  have := does_ok W z h.at_ (h.small hl).1 (h.small hl).2 y
  rw [h.t] at this ⊢
  exact this
end Go.Proofs.Ythbcgbbcoanbdaa
