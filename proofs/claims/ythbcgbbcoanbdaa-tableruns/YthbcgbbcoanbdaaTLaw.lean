/-
  Tables in boxes of a law's own; bobbinlaw10.awake, light.
-/
import Derived.Test.YthbcgbbcoanbdaaTNew2
import Derived.Test.YthbcgbbcoanbdaaTSettle
import Derived.Test.YthbcgbbcoanbdaaTSet
namespace Go.Proofs.Ythbcgbbcoanbdaa
open Go Go.RowKit

/-- A row of triples does not lie in a table's box. -/
theorem Tl.notBox {w : World} {A : Option Addr} {n c b : Nat} {l : List Tr} {x : TV} (h : Tl w A n c l) (hb : TBx w b x) (hn : 0 < n) : blkOf A ≠ some b := by
  intro e
  obtain ⟨b', o, rfl, hc⟩ := h.cells hn
  simp [blkOf] at e
  subst e
  obtain ⟨c0, c1, c2⟩ := hc 0 hn
  rw [cell_of_row _ _ _ _ _ _ hb] at c0 c2
  rw [Nat.zero_mul, Nat.add_zero] at c0 c2
  rcases Nat.lt_or_ge o 2 with h2 | h2
  · have : o = 0 ∨ o = 1 := by omega
    rcases this with rfl | rfl <;> simp at c0
  · rw [Array.getElem?_eq_none (by simp; omega)] at c2
    cases c2
theorem TV.At.store {w w' : World} {b : Nat} {x y : TV} (h : y.At w) (hb : TBx w b x) (hm : Mod (fun k => k = b) w w') : y.At w' :=
  ⟨h.pg.mod hm (fun k hk hn e => h.pg.notBox hb hn (by rw [hk, e])), h.sg.mod hm (fun k hk hn e => h.sg.notBox hb hn (by rw [hk, e]))⟩

/-- A table in a box of the law's own. -/
structure Tbl (w W : World) (b : Nat) (y : TV) (T : Tb) : Prop where
  bx : TBx W b y
  at_ : y.At W
  t : y.t = T
  old : Mod (fun _ => False) w W
  lo : w.heap.size ≤ b
section
variable {w W W' : World} {b : Nat} {y y' : TV} {T T' : Tb}
theorem Tbl.keep (h : Tbl w W b y T) (hm : Mod (fun _ => False) W W') : Tbl w W' b y T := ⟨h.bx.keep hm, h.at_.keep hm, h.t, h.old.trans hm (fun _ _ h => h), h.lo⟩
theorem Tbl.n (h : Tbl w W b y T) : y.n = T.pg.length := by rw [← h.t]; exact h.at_.pg.len.symm
theorem Tbl.m (h : Tbl w W b y T) : y.m = T.sg.length := by rw [← h.t]; exact h.at_.sg.len.symm
/-- It takes another one. -/
theorem Tbl.put (h : Tbl w W b y T) (hy : y'.At W) (ht : y'.t = T') : Tbl w (stT W b y') b y' T' :=
  ⟨h.bx.set y', hy.store h.bx (stT_mod W b y'), ht, ((h.old.mono (G := fun k => w.heap.size ≤ k) (fun _ _ h => h.elim)).trans (stT_mod W b y') (fun k _ e => by have := h.lo; show w.heap.size ≤ k; omega)).mono (fun k hk e => by omega), h.lo⟩
/-- A store into another box. -/
theorem Tbl.other {c : Nat} {z x : TV} (h : Tbl w W b y T) (hc : TBx W c x) (hne : b ≠ c) (hlo : w.heap.size ≤ c) : Tbl w (stT W c z) b y T :=
  ⟨h.bx.mod (stT_mod W c z) (fun e => hne e), h.at_.store hc (stT_mod W c z), h.t, ((h.old.mono (G := fun k => w.heap.size ≤ k) (fun _ _ h => h.elim)).trans (stT_mod W c z) (fun k _ e => by show w.heap.size ≤ k; omega)).mono (fun k hk e => by omega), h.lo⟩
theorem Tbl.new (hm : Mod (fun _ => False) w W) (hy : y.At W) (ht : y.t = T) : Tbl w (W.alloc (.cells #[.slice y.P y.n y.c, .slice y.S y.m y.d, .int .i64 y.t.sl, .int .i64 y.t.nw] 27)) W.heap.size y T :=
  ⟨TBx.new W y, hy.keep ((Mod.refl _ W).alloc _), ht, hm.alloc _, hm.size⟩
end

/-! ### The chapter's example -/
def aw0 : Tb := newT 2 2 2
def aw1 : Tb := putT aw0 0 5
def aw2 : Tb := putT aw1 1 6
def aw3 : Tb := putT aw2 0 7
def aw4 : Tb := putT aw3 1 8
def aw5 : Tb := freeT aw4 0
theorem aw_facts : newE 2 2 2 = 0 ∧ putE aw0 0 5 = 0 ∧ putE aw1 1 6 = 0 ∧ putE aw2 0 7 = 0 ∧ liveI aw3 0 = 1 ∧ freeE aw3 0 = 5 ∧ putE aw3 1 8 = 0 ∧ freeE aw4 0 = 0 ∧ freesI aw5 = 1 ∧ mayB aw5 = true := by decide +kernel
theorem aw_lens : (aw0.pg.length = 2 ∧ aw0.sg.length = 2) ∧ (aw1.pg.length = 2 ∧ aw1.sg.length = 2) ∧ (aw2.pg.length = 2 ∧ aw2.sg.length = 2) ∧ (aw3.pg.length = 2 ∧ aw3.sg.length = 2) ∧ (aw4.pg.length = 2 ∧ aw4.sg.length = 2) ∧ aw5.pg.length = 2 ∧ aw5.sg.length = 2 := by decide +kernel

/-! The calls at a table in a box. -/
section
variable {w W : World} {b : Nat} {y : TV} {T : Tb}
theorem Tbl.small (h : Tbl w W b y T) (hl : T.pg.length ≤ 1000 ∧ T.sg.length ≤ 1000) : y.n ≤ 1000 ∧ y.m ≤ 1000 := by rw [h.n, h.m]; exact hl
theorem l_put (h : Tbl w W b y T) (hl : T.pg.length ≤ 1000 ∧ T.sg.length ≤ 1000) (page a : Int) : Calls Try.prog 22 #[.agg #[.slice y.P y.n y.c, .slice y.S y.m y.d, .int .i64 y.t.sl, .int .i64 y.t.nw], .int .i64 page, .int .i64 a] W fun e w' => TbAns W w' (putE T page a) (putT T page a) e := by
  have := put_ok W y h.at_ (h.small hl).1 (h.small hl).2 page a
  rw [h.t] at this ⊢
  exact this
theorem l_free (h : Tbl w W b y T) (hl : T.pg.length ≤ 1000 ∧ T.sg.length ≤ 1000) (seg : Int) : Calls Try.prog 23 #[.agg #[.slice y.P y.n y.c, .slice y.S y.m y.d, .int .i64 y.t.sl, .int .i64 y.t.nw], .int .i64 seg] W fun e w' => TbAns W w' (freeE T seg) (freeT T seg) e := by
  have := tfree_ok W y h.at_ (h.small hl).1 (h.small hl).2 seg
  rw [h.t] at this ⊢
  exact this
theorem l_settle (h : Tbl w W b y T) (hl : T.pg.length ≤ 1000 ∧ T.sg.length ≤ 1000) (op : Int) : Calls Try.prog 31 #[.agg #[.slice y.P y.n y.c, .slice y.S y.m y.d, .int .i64 y.t.sl, .int .i64 y.t.nw], .int .i64 op] W fun e w' => TbAns W w' (if mayB T = true then 0 else 1) (setlT T op) e := by
  have := settle_ok W y h.at_ (h.small hl).1 (h.small hl).2 op
  rw [h.t] at this ⊢
  exact this
theorem l_set (h : Tbl w W b y T) (hl : T.pg.length ≤ 1000 ∧ T.sg.length ≤ 1000) (page : Int) (p : Tr) : Calls Try.prog 30 #[.agg #[.slice y.P y.n y.c, .slice y.S y.m y.d, .int .i64 y.t.sl, .int .i64 y.t.nw], .int .i64 page, .agg #[.int .i64 p.a, .int .i64 p.b, .int .i64 p.c]] W fun e w' => TbAns W w' (setE T page p) (setT T page p) e := by
  have := set_ok W y h.at_ (h.small hl).1 (h.small hl).2 page p
  rw [h.t] at this ⊢
  exact this
theorem l_live (h : Tbl w W b y T) (hl : T.pg.length ≤ 1000 ∧ T.sg.length ≤ 1000) (seg : Int) : Calls Try.prog 21 #[.agg #[.slice y.P y.n y.c, .slice y.S y.m y.d, .int .i64 y.t.sl, .int .i64 y.t.nw], .int .i64 seg] W fun e w' => e = .returned (.int .i64 (liveI T seg)) ∧ Mod (fun _ => False) W w' := by
  have := live_ok W y h.at_ (h.small hl).1 (h.small hl).2 seg
  rw [h.t] at this ⊢
  exact this
theorem l_frees (h : Tbl w W b y T) (hl : T.pg.length ≤ 1000 ∧ T.sg.length ≤ 1000) : Calls Try.prog 24 #[.agg #[.slice y.P y.n y.c, .slice y.S y.m y.d, .int .i64 y.t.sl, .int .i64 y.t.nw]] W fun e w' => e = .returned (.int .i64 (freesI T)) ∧ Mod (fun _ => False) W w' := by
  have := frees_ok W y h.at_ (h.small hl).1 (h.small hl).2
  rw [h.t] at this ⊢
  exact this
theorem l_may (h : Tbl w W b y T) (hl : T.pg.length ≤ 1000 ∧ T.sg.length ≤ 1000) : Calls Try.prog 20 #[.agg #[.slice y.P y.n y.c, .slice y.S y.m y.d, .int .i64 y.t.sl, .int .i64 y.t.nw]] W fun e w' => e = .returned (.bool (mayB T)) ∧ Mod (fun _ => False) W w' := by
  have := tmay_ok W y h.at_ (h.small hl).1 (h.small hl).2
  rw [h.t] at this ⊢
  exact this
theorem l_next (h : Tbl w W b y T) (hl : T.pg.length ≤ 1000 ∧ T.sg.length ≤ 1000) : Calls Try.prog 45 #[.agg #[.slice y.P y.n y.c, .slice y.S y.m y.d, .int .i64 y.t.sl, .int .i64 y.t.nw]] W fun e w' => e = .returned (.tuple #[.int .i64 ((nxG T : Nat) : Int), .int .i64 (nxU T), .int .i64 (nxE T)]) ∧ Mod (fun _ => False) W w' := by
  have := next_ok W y h.at_ (h.small hl).1 (h.small hl).2
  rw [h.t] at this ⊢
  exact this
end

set_option maxRecDepth 100000 in
set_option maxHeartbeats 3200000 in
theorem awake_ok (w : World) : Calls Try.prog 8 #[] w fun e w' => e = .returned (.bool true) ∧ Mod (fun _ => False) w w' := by
  obtain ⟨f0, f1, f2, f3, f4, f5, f6, f7, f8, f9⟩ := aw_facts
  obtain ⟨⟨g0, g0'⟩, ⟨g1, g1'⟩, ⟨g2, g2'⟩, ⟨g3, g3'⟩, ⟨g4, g4'⟩, g5, g5'⟩ := aw_lens
  have L0 : Hid (aw0.pg.length ≤ 1000 ∧ aw0.sg.length ≤ 1000) := ⟨by omega, by omega⟩
  have L1 : Hid (aw1.pg.length ≤ 1000 ∧ aw1.sg.length ≤ 1000) := ⟨by omega, by omega⟩
  have L2 : Hid (aw2.pg.length ≤ 1000 ∧ aw2.sg.length ≤ 1000) := ⟨by omega, by omega⟩
  have L3 : Hid (aw3.pg.length ≤ 1000 ∧ aw3.sg.length ≤ 1000) := ⟨by omega, by omega⟩
  have L4 : Hid (aw4.pg.length ≤ 1000 ∧ aw4.sg.length ≤ 1000) := ⟨by omega, by omega⟩
  have L5 : Hid (aw5.pg.length ≤ 1000 ∧ aw5.sg.length ≤ 1000) := ⟨by omega, by omega⟩
  have F0 := Lib.hid f0
  have F1 := Lib.hid f1
  have F2 := Lib.hid f2
  have F3 := Lib.hid f3
  have F4 := Lib.hid f4
  have F5 := Lib.hid f5
  have F6 := Lib.hid f6
  have F7 := Lib.hid f7
  have F8 := Lib.hid f8
  have F9 := Lib.hid f9
  clear f0 f1 f2 f3 f4 f5 f6 f7 f8 f9 g0 g0' g1 g1' g2 g2' g3 g3' g4 g4' g5 g5'
  have HN := Lib.hid (new_ok w 2 2 2)
  rw [F0.out] at HN
  go_enter Try.func8, Try.ntmps8
  go_wp2_with fail
  refine HN.out.mono ?_
  rintro e w1 ⟨y0, rfl, ha0, ht0, hm1⟩
  rw [if_pos rfl] at ht0
  have B0 := Lib.hid (Tbl.new (T := aw0) hm1 ha0 ht0)
  obtain ⟨v0, hv0⟩ : ∃ v0, w1.alloc (.cells #[.slice y0.P y0.n y0.c, .slice y0.S y0.m y0.d, .int .i64 y0.t.sl, .int .i64 y0.t.nw] 27) = v0 := ⟨_, rfl⟩
  rw [hv0] at B0
  obtain ⟨c0, c1, c2, c3⟩ := B0.out.bx.cells
  clear ha0 ht0 hm1 HN
  have HP := Lib.hid (l_put B0.out L0.out 0 5)
  rw [F1.out] at HP
  go_wp2_with fail
  clear hv0 c0 c1 c2 c3
  refine HP.out.mono ?_
  rintro e u1 ⟨y1, rfl, ha, ht, hm⟩
  rw [if_pos rfl] at ht
  have hb := B0.out.keep hm
  have z0f := hb.bx.frozen 0
  have z1f := hb.bx.frozen 1
  have z2f := hb.bx.frozen 2
  have z3f := hb.bx.frozen 3
  obtain ⟨z0c, z1c, z2c, z3c⟩ := hb.bx.cells
  have B1 := Lib.hid (hb.put (T' := aw1) ha ht)
  obtain ⟨v1, hv1⟩ : ∃ v1, stT u1 w1.heap.size y1 = v1 := ⟨_, rfl⟩
  rw [hv1] at B1
  unfold stT at hv1
  obtain ⟨c0, c1, c2, c3⟩ := B1.out.bx.cells
  clear ha ht hm hb HP
  have HP := Lib.hid (l_put B1.out L1.out 1 6)
  rw [F2.out] at HP
  go_wp2_with fail
  clear z0f z1f z2f z3f z0c z1c z2c z3c
  clear hv1 c0 c1 c2 c3
  refine HP.out.mono ?_
  rintro e u2 ⟨y2, rfl, ha, ht, hm⟩
  rw [if_pos rfl] at ht
  have hb := B1.out.keep hm
  have z0f := hb.bx.frozen 0
  have z1f := hb.bx.frozen 1
  have z2f := hb.bx.frozen 2
  have z3f := hb.bx.frozen 3
  obtain ⟨z0c, z1c, z2c, z3c⟩ := hb.bx.cells
  have B2 := Lib.hid (hb.put (T' := aw2) ha ht)
  obtain ⟨v2, hv2⟩ : ∃ v2, stT u2 w1.heap.size y2 = v2 := ⟨_, rfl⟩
  rw [hv2] at B2
  unfold stT at hv2
  obtain ⟨c0, c1, c2, c3⟩ := B2.out.bx.cells
  clear ha ht hm hb HP
  have HP := Lib.hid (l_put B2.out L2.out 0 7)
  rw [F3.out] at HP
  go_wp2_with fail
  clear z0f z1f z2f z3f z0c z1c z2c z3c
  clear hv2 c0 c1 c2 c3
  refine HP.out.mono ?_
  rintro e u3 ⟨y3, rfl, ha, ht, hm⟩
  rw [if_pos rfl] at ht
  have hb := B2.out.keep hm
  have z0f := hb.bx.frozen 0
  have z1f := hb.bx.frozen 1
  have z2f := hb.bx.frozen 2
  have z3f := hb.bx.frozen 3
  obtain ⟨z0c, z1c, z2c, z3c⟩ := hb.bx.cells
  have B3 := Lib.hid (hb.put (T' := aw3) ha ht)
  obtain ⟨v3, hv3⟩ : ∃ v3, stT u3 w1.heap.size y3 = v3 := ⟨_, rfl⟩
  rw [hv3] at B3
  unfold stT at hv3
  obtain ⟨c0, c1, c2, c3⟩ := B3.out.bx.cells
  clear ha ht hm hb HP
  have HL := Lib.hid (l_live B3.out L3.out 0)
  rw [F4.out] at HL
  go_wp2_with fail
  clear z0f z1f z2f z3f z0c z1c z2c z3c hv3 c0 c1 c2 c3
  refine HL.out.mono ?_
  rintro e u4 ⟨rfl, hm⟩
  have B3' := Lib.hid (B3.out.keep hm)
  obtain ⟨c0, c1, c2, c3⟩ := B3'.out.bx.cells
  clear hm HL
  have HFr := Lib.hid (l_free B3'.out L3.out 0)
  rw [F5.out] at HFr
  go_wp2_with fail
  clear c0 c1 c2 c3
  refine HFr.out.mono ?_
  rintro e u5 ⟨yf, rfl, ha, ht, hm⟩
  obtain ⟨v5, hv5⟩ : ∃ v5, u5.alloc (.cells #[.slice yf.P yf.n yf.c, .slice yf.S yf.m yf.d, .int .i64 yf.t.sl, .int .i64 yf.t.nw] 27) = v5 := ⟨_, rfl⟩
  have hm5 : Mod (fun _ => False) u4 v5 := by rw [← hv5]; exact hm.alloc _
  have B3'' := Lib.hid (B3'.out.keep hm5)
  obtain ⟨c0, c1, c2, c3⟩ := B3''.out.bx.cells
  clear ha ht hm hm5 HFr
  have HP := Lib.hid (l_put B3''.out L3.out 1 8)
  rw [F6.out] at HP
  go_wp2_with fail
  clear hv5 c0 c1 c2 c3
  refine HP.out.mono ?_
  rintro e u4 ⟨y4, rfl, ha, ht, hm⟩
  rw [if_pos rfl] at ht
  have hb := B3''.out.keep hm
  have z0f := hb.bx.frozen 0
  have z1f := hb.bx.frozen 1
  have z2f := hb.bx.frozen 2
  have z3f := hb.bx.frozen 3
  obtain ⟨z0c, z1c, z2c, z3c⟩ := hb.bx.cells
  have B4 := Lib.hid (hb.put (T' := aw4) ha ht)
  obtain ⟨v4, hv4⟩ : ∃ v4, stT u4 w1.heap.size y4 = v4 := ⟨_, rfl⟩
  rw [hv4] at B4
  unfold stT at hv4
  obtain ⟨c0, c1, c2, c3⟩ := B4.out.bx.cells
  clear ha ht hm hb HP
  have HFr := Lib.hid (l_free B4.out L4.out 0)
  rw [F7.out] at HFr
  go_wp2_with fail
  clear z0f z1f z2f z3f z0c z1c z2c z3c hv4 c0 c1 c2 c3
  refine HFr.out.mono ?_
  rintro e u6 ⟨y5, rfl, ha, ht, hm⟩
  rw [if_pos rfl] at ht
  have B5 := Lib.hid (Tbl.new (T := aw5) (B4.out.old.trans hm (fun _ _ h => h)) ha ht)
  obtain ⟨v6, hv6⟩ : ∃ v6, u6.alloc (.cells #[.slice y5.P y5.n y5.c, .slice y5.S y5.m y5.d, .int .i64 y5.t.sl, .int .i64 y5.t.nw] 27) = v6 := ⟨_, rfl⟩
  rw [hv6] at B5
  obtain ⟨c0, c1, c2, c3⟩ := B5.out.bx.cells
  clear ha ht hm HFr
  have HL := Lib.hid (l_frees B5.out L5.out)
  rw [F8.out] at HL
  go_wp2_with fail
  clear hv6 c0 c1 c2 c3
  refine HL.out.mono ?_
  rintro e u7 ⟨rfl, hm⟩
  have B6 := Lib.hid (B5.out.keep hm)
  obtain ⟨c0, c1, c2, c3⟩ := B6.out.bx.cells
  clear hm HL
  have HL := Lib.hid (l_may B6.out L5.out)
  rw [F9.out] at HL
  go_wp2_with fail
  clear c0 c1 c2 c3
  refine HL.out.mono ?_
  rintro e u8 ⟨rfl, hm⟩
  have HMF := Lib.hid (B6.out.old.trans hm (fun _ _ h => h))
  clear hm HL
  go_wp2
  go_ret
  exact ⟨rfl, HMF.out⟩

end Go.Proofs.Ythbcgbbcoanbdaa
