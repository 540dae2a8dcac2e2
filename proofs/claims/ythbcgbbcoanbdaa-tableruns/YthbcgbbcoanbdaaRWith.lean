/-
  bobbinref10.with: a table with another page's place, and another segment.
-/
import Derived.Test.YthbcgbbcoanbdaaTFr
namespace Go.Proofs.Ythbcgbbcoanbdaa
open Go Go.RowKit

/-- What with answers. -/
def WtAns (w w' : World) (_n _m : Nat) (T : Tb) (e : Ending) : Prop :=
  ∃ y : TV, e = .returned (.agg #[.slice y.P y.n y.c, .slice y.S y.m y.d, .int .i64 y.t.sl, .int .i64 y.t.nw]) ∧ y.At w' ∧ y.t = T ∧ Mod (fun _ => False) w w'
/-- The boxes. -/
structure Wtx (w W : World) (x : TV) (p s : Tr) : Prop where
  bx : TBx W w.heap.size x
  pl : RBx W (w.heap.size + 1) 34 p
  sg : RBx W (w.heap.size + 2) 45 s
  res : TBx W (w.heap.size + 3) z0
  old : Mod (fun _ => False) w W
  sz : w.heap.size + 4 ≤ W.heap.size
theorem Wtx.new (w : World) (x : TV) (p s : Tr) : Wtx w ((((w.alloc (.cells #[.slice x.P x.n x.c, .slice x.S x.m x.d, .int .i64 x.t.sl, .int .i64 x.t.nw] 27)).alloc (.cells #[.int .i64 p.a, .int .i64 p.b, .int .i64 p.c] 34)).alloc (.cells #[.int .i64 s.a, .int .i64 s.b, .int .i64 s.c] 45)).alloc (.cells #[.slice none 0 0, .slice none 0 0, .int .i64 0, .int .i64 0] 27)) x p s := by
  have z1 : (w.alloc (.cells #[.slice x.P x.n x.c, .slice x.S x.m x.d, .int .i64 x.t.sl, .int .i64 x.t.nw] 27)).heap.size = w.heap.size + 1 := World.size_alloc _ _
  have z2 : ((w.alloc (.cells #[.slice x.P x.n x.c, .slice x.S x.m x.d, .int .i64 x.t.sl, .int .i64 x.t.nw] 27)).alloc (.cells #[.int .i64 p.a, .int .i64 p.b, .int .i64 p.c] 34)).heap.size = w.heap.size + 2 := by rw [World.size_alloc, z1]
  have z3 : (((w.alloc (.cells #[.slice x.P x.n x.c, .slice x.S x.m x.d, .int .i64 x.t.sl, .int .i64 x.t.nw] 27)).alloc (.cells #[.int .i64 p.a, .int .i64 p.b, .int .i64 p.c] 34)).alloc (.cells #[.int .i64 s.a, .int .i64 s.b, .int .i64 s.c] 45)).heap.size = w.heap.size + 3 := by rw [World.size_alloc, z2]
  refine ⟨(((TBx.new w x).keep ((Mod.refl _ _).alloc _)).keep ((Mod.refl _ _).alloc _)).keep ((Mod.refl _ _).alloc _), ?_, ?_, ?_, ((((Mod.refl _ w).alloc _).alloc _).alloc _).alloc _, by rw [World.size_alloc, z3]; omega⟩
  · have := ((RBx.new (w.alloc (.cells #[.slice x.P x.n x.c, .slice x.S x.m x.d, .int .i64 x.t.sl, .int .i64 x.t.nw] 27)) 34 p).keep ((Mod.refl _ _).alloc (.cells #[.int .i64 s.a, .int .i64 s.b, .int .i64 s.c] 45))).keep ((Mod.refl _ _).alloc (.cells #[.slice none 0 0, .slice none 0 0, .int .i64 0, .int .i64 0] 27))
    rw [z1] at this
    exact this
  · have := (RBx.new ((w.alloc (.cells #[.slice x.P x.n x.c, .slice x.S x.m x.d, .int .i64 x.t.sl, .int .i64 x.t.nw] 27)).alloc (.cells #[.int .i64 p.a, .int .i64 p.b, .int .i64 p.c] 34)) 45 s).keep ((Mod.refl _ _).alloc (.cells #[.slice none 0 0, .slice none 0 0, .int .i64 0, .int .i64 0] 27))
    rw [z2] at this
    exact this
  · have := TBx.new (((w.alloc (.cells #[.slice x.P x.n x.c, .slice x.S x.m x.d, .int .i64 x.t.sl, .int .i64 x.t.nw] 27)).alloc (.cells #[.int .i64 p.a, .int .i64 p.b, .int .i64 p.c] 34)).alloc (.cells #[.int .i64 s.a, .int .i64 s.b, .int .i64 s.c] 45)) z0
    rw [z3] at this
    exact this
theorem Wtx.mod {F : Nat → Prop} {w W W' : World} {x : TV} {p s : Tr} (h : Wtx w W x p s) (hm : Mod F W W') (hF : ∀ k, k < w.heap.size + 4 → ¬ F k) : Wtx w W' x p s :=
  ⟨h.bx.mod hm (hF _ (by omega)), h.pl.mod hm (hF _ (by omega)), h.sg.mod hm (hF _ (by omega)), h.res.mod hm (hF _ (by omega)), ((h.old.mono (G := fun k => w.heap.size ≤ k ∨ F k) (fun _ _ h => h.elim)).trans hm (fun _ _ h => .inr h)).mono (fun k hk e => by
    rcases e with e | e
    · omega
    · exact hF k (by omega) e), Nat.le_trans h.sz hm.size⟩
theorem Wtx.keep {w W W' : World} {x : TV} {p s : Tr} (h : Wtx w W x p s) (hm : Mod (fun _ => False) W W') : Wtx w W' x p s := h.mod hm (fun _ _ => id)
/-- Two rows of the call's own: two blocks of two types. -/
theorem wt_rows {W : World} {b1 b2 : Nat} {P S : Option Addr} {n m c d : Nat} {pg sg : List Tr} (h1 : Ow3 W b1 34 P n c pg) (h2 : Ow3 W b2 45 S m d sg) (hn : 0 < n) (hm : 0 < m) :
    ∃ gP gS, P = some ⟨gP, 0, none⟩ ∧ S = some ⟨gS, 0, none⟩ ∧ gP ≠ gS ∧ (∀ j, W.frozen? ⟨gP, j, none⟩ = false) ∧ ∀ j, W.frozen? ⟨gS, j, none⟩ = false := by
  obtain ⟨gP, csP, hP, _, _, hh⟩ := h1.at_ hn
  obtain ⟨gS, csS, hS, _, _, hh'⟩ := h2.at_ hm
  refine ⟨gP, gS, hP, hS, fun e => ?_, fun j => frozen_of_block hh j, fun j => frozen_of_block hh' j⟩
  subst e
  rw [hh] at hh'
  injection hh' with hh'
  injection hh' with _ hh' _
  exact absurd hh' (by decide)
theorem row_at {W : World} {b1 g : Nat} {e : TypeId} {n c : Nat} {l : List Tr} (h : Ow3 W b1 e (some ⟨g, 0, none⟩) n c l) {j : Nat} (hj : j < n) : At3 W g (j * 3) (atS l j) ∧ ∀ k, W.frozen? ⟨g, k, none⟩ = false := by
  obtain ⟨b, o, hA, hc⟩ := h.tl.cells (by omega)
  obtain ⟨g', cs, hA', _, _, hh⟩ := h.at_ (by omega)
  have e1 := hA
  injection e1 with e1
  injection e1 with h1 h2 _
  injection hA' with hA'
  injection hA' with h3 _ _
  subst h3
  have := hc j hj
  rw [← h1, ← h2, Nat.zero_add] at this
  exact ⟨this, fun k => frozen_of_block hh k⟩
/-- The two rows beside the boxes. -/
structure Wt (w W : World) (x : TV) (p s : Tr) (gP gS c d : Nat) (pg sg : List Tr) : Prop where
  b : Wtx w W x p s
  pg : Ow3 W (w.heap.size + 4) 34 (some ⟨gP, 0, none⟩) x.n c pg
  sg : Ow3 W (w.heap.size + 4) 45 (some ⟨gS, 0, none⟩) x.m d sg
  ne : gP ≠ gS
section
variable {w W : World} {x : TV} {p s : Tr} {gP gS c d : Nat} {pg sg : List Tr}
theorem Wt.setP (h : Wt w W x p s gP gS c d pg sg) {i : Nat} (hi : i < x.n) (v : Tr) : Wt w (st3 W gP i v) x p s gP gS c d (pg.set i v) sg :=
  ⟨h.b.mod (st3_mod W gP i v) (fun k hk e => by have := (h.pg.lt gP rfl).1; omega), h.pg.store hi v, h.sg.mod (st3_mod W gP i v) (fun k hk e => by simp [blkOf] at hk; exact h.ne (by omega)), h.ne⟩
theorem Wt.setS (h : Wt w W x p s gP gS c d pg sg) {j : Nat} (hj : j < x.m) (v : Tr) : Wt w (st3 W gS j v) x p s gP gS c d pg (sg.set j v) :=
  ⟨h.b.mod (st3_mod W gS j v) (fun k hk e => by have := (h.sg.lt gS rfl).1; omega), h.pg.mod (st3_mod W gS j v) (fun k hk e => by simp [blkOf] at hk; exact h.ne (by omega)), h.sg.store hj v, h.ne⟩
theorem Wt.fin (h : Wt w W x p s gP gS c d pg sg) (T : Tb) (hp : T.pg = pg) (hs : T.sg = sg) :
    (⟨some ⟨gP, 0, none⟩, x.n, c, some ⟨gS, 0, none⟩, x.m, d, T⟩ : TV).At (stT W (w.heap.size + 3) ⟨some ⟨gP, 0, none⟩, x.n, c, some ⟨gS, 0, none⟩, x.m, d, T⟩) ∧
    TBx (stT W (w.heap.size + 3) ⟨some ⟨gP, 0, none⟩, x.n, c, some ⟨gS, 0, none⟩, x.m, d, T⟩) (w.heap.size + 3) ⟨some ⟨gP, 0, none⟩, x.n, c, some ⟨gS, 0, none⟩, x.m, d, T⟩ ∧
    Mod (fun _ => False) w (stT W (w.heap.size + 3) ⟨some ⟨gP, 0, none⟩, x.n, c, some ⟨gS, 0, none⟩, x.m, d, T⟩) := by
  subst hp; subst hs
  have hmm := stT_mod W (w.heap.size + 3) ⟨some ⟨gP, 0, none⟩, x.n, c, some ⟨gS, 0, none⟩, x.m, d, T⟩
  refine ⟨⟨(h.pg.mod hmm (fun k hk e => by have := (h.pg.lt k hk).1; omega)).tl, (h.sg.mod hmm (fun k hk e => by have := (h.sg.lt k hk).1; omega)).tl⟩, h.b.res.set _, ?_⟩
  exact ((h.b.old.mono (G := fun k => w.heap.size ≤ k) (fun _ _ h => h.elim)).trans hmm (fun k _ e => by show w.heap.size ≤ k; omega)).mono (fun k hk e => by omega)
end

set_option maxRecDepth 100000 in
set_option maxHeartbeats 3200000 in
theorem rwith_ps (w : World) (x : TV) (h : x.At w) (hn : x.n ≤ 1000) (hm : x.m ≤ 1000) (hn0 : 0 < x.n) (hm0 : 0 < x.m) (i : Nat) (hi : i < x.n) (j : Nat) (hj : j < x.m) (p s : Tr) :
    Calls Try.prog 56 #[.agg #[.slice x.P x.n x.c, .slice x.S x.m x.d, .int .i64 x.t.sl, .int .i64 x.t.nw], .int .i64 ((i : Nat) : Int), .agg #[.int .i64 p.a, .int .i64 p.b, .int .i64 p.c], .int .i64 ((j : Nat) : Int), .agg #[.int .i64 s.a, .int .i64 s.b, .int .i64 s.c]] w fun e w' => WtAns w w' x.n x.m ⟨x.t.pg.set i p, x.t.sg.set j s, x.t.sl, x.t.nw⟩ e := by
  obtain ⟨w1, hw1⟩ : ∃ w1, (((w.alloc (.cells #[.slice x.P x.n x.c, .slice x.S x.m x.d, .int .i64 x.t.sl, .int .i64 x.t.nw] 27)).alloc (.cells #[.int .i64 p.a, .int .i64 p.b, .int .i64 p.c] 34)).alloc (.cells #[.int .i64 s.a, .int .i64 s.b, .int .i64 s.c] 45)).alloc (.cells #[.slice none 0 0, .slice none 0 0, .int .i64 0, .int .i64 0] 27) = w1 := ⟨_, rfl⟩
  have hb : Wtx w w1 x p s := by
    rw [← hw1]
    exact Wtx.new w x p s
  have HB := Lib.hid hb
  have HX := Lib.hid (h.keep hb.old)
  obtain ⟨c0, c1, c2, c3⟩ := hb.bx.cells
  have HsP := Lib.hid (HX.out.pg.src)
  have HsS : Hid (∀ V, Mod (fun _ => False) w1 V → SrcN V x.S x.m 3 (trs x.t.sg)) := fun V hV => (HX.out.keep hV).sg.src
  have Hsz := Lib.hid hb.sz
  clear hb h
  go_enter Try.func56, Try.ntmps56
  go_wp2_with (first | (at_builtin; refine wpList_appN (.const (.slice none 0 0)) (.tmp 14) plElem rfl rfl rfl rfl (OwN.nil _ w1.heap.size _ _) HsP.out (by omega) (by unfold maxLen; omega) (Nat.le_refl _) ?_; intro P c w2 h1 h2 h3; rw [Nat.zero_add] at h1 ⊢; have H1 : Hid (Ow3 w2 w1.heap.size 34 P x.n c x.t.pg) := h1; have hm12 : Mod (fun _ => False) w1 w2 := (Mod.refl (fun _ => False) w1).grown h2 (fun k e _ => by simp [blkOf] at e); have Hm12 := Lib.hid hm12; obtain ⟨d0, d1, d2, d3⟩ := (HB.out.keep hm12).bx.cells; have hss := HsS.out _ hm12; have Hss := Lib.hid hss; have hbase := hm12.size; clear h1 h2 h3 hm12 hss c0 c1 c2 c3 hw1) | (at_builtin; refine wpList_appN (.const (.slice none 0 0)) (.tmp 17) sgElem rfl rfl rfl rfl (OwN.nil _ w1.heap.size _ _) Hss.out (by omega) (by unfold maxLen; omega) hbase ?_; intro S d w3 h1 h2 h3; rw [Nat.zero_add] at h1 ⊢; have H2 : Hid (Ow3 w3 w1.heap.size 45 S x.m d x.t.sg) := h1; have hm23 : Mod (fun _ => False) w2 w3 := (Mod.refl (fun _ => False) w2).grown h2 (fun k e _ => by simp [blkOf] at e); have Hm23 := Lib.hid hm23; clear h1 h2 h3 hbase d0 d1 d2 d3; obtain ⟨gP, gS, rfl, rfl, hne, fPall, fSall⟩ := wt_rows (H1.out.keep hm23) H2.out hn0 hm0; have HW3 : Hid (Wt w w3 x p s gP gS c d x.t.pg x.t.sg) := ⟨HB.out.keep (Hm12.out.trans hm23 (fun _ _ h => h)), (H1.out.keep hm23).rebase3 (fun k hk => by have := ((H1.out).lt k hk).1; have := Hsz.out; omega), H2.out.rebase3 (fun k hk => by have := (H2.out.lt k hk).1; have := Hsz.out; omega), hne⟩; clear hm23 hne fPall fSall; have rP := row_at HW3.out.pg hi; obtain ⟨⟨p0, p1, p2⟩, fP⟩ := rP; have fP0 := fP (i * 3); have fP1 := fP (i * 3 + 1); have fP2 := fP (i * 3 + 2); obtain ⟨l0, l1, l2⟩ := HW3.out.b.pl.cells; have hset := HW3.out.setP hi p; obtain ⟨w4, hw4⟩ : ∃ w4, st3 w3 gP i p = w4 := ⟨_, rfl⟩; rw [hw4] at hset; unfold st3 at hw4; have HW4 := Lib.hid hset; clear hset fP; have rS := row_at HW4.out.sg hj; obtain ⟨⟨s0, s1, s2⟩, fS⟩ := rS; have fS0 := fS (j * 3); have fS1 := fS (j * 3 + 1); have fS2 := fS (j * 3 + 2); obtain ⟨m0, m1, m2⟩ := HW4.out.b.sg.cells; have hset := HW4.out.setS hj s; obtain ⟨w5, hw5⟩ : ∃ w5, st3 w4 gS j s = w5 := ⟨_, rfl⟩; rw [hw5] at hset; unfold st3 at hw5; have HW5 := Lib.hid hset; clear hset fS; obtain ⟨t0, t1, t2, t3⟩ := HW5.out.b.bx.cells; have fz0 := HW5.out.b.res.frozen 0; have fz1 := HW5.out.b.res.frozen 1; have fz2 := HW5.out.b.res.frozen 2; have fz3 := HW5.out.b.res.frozen 3; obtain ⟨z0c, z1c, z2c, z3c⟩ := HW5.out.b.res.cells; have hfin := HW5.out.fin (⟨x.t.pg.set i p, x.t.sg.set j s, x.t.sl, x.t.nw⟩ : Tb) rfl rfl; obtain ⟨wf, hwf⟩ : ∃ wf, stT w5 (w.heap.size + 3) (⟨some ⟨gP, 0, none⟩, x.n, c, some ⟨gS, 0, none⟩, x.m, d, ⟨x.t.pg.set i p, x.t.sg.set j s, x.t.sl, x.t.nw⟩⟩ : TV) = wf := ⟨_, rfl⟩; rw [hwf] at hfin; unfold stT at hwf; have hwf : (((w5.setCell ⟨w.heap.size + 3, 0, none⟩ (.slice (some ⟨gP, 0, none⟩) x.n c)).setCell ⟨w.heap.size + 3, 1, none⟩ (.slice (some ⟨gS, 0, none⟩) x.m d)).setCell ⟨w.heap.size + 3, 2, none⟩ (.int .i64 x.t.sl)).setCell ⟨w.heap.size + 3, 3, none⟩ (.int .i64 x.t.nw) = wf := hwf; have Hfin := Lib.hid hfin; clear hfin))
  clear hwf fz0 fz1 fz2 fz3 z0c z1c z2c z3c t0 t1 t2 t3
  obtain ⟨q0, q1, q2, q3⟩ := Hfin.out.2.1.cells
  refine bodyPost_ret (v := .agg #[.slice (some ⟨gP, 0, none⟩) x.n c, .slice (some ⟨gS, 0, none⟩) x.m d, .int .i64 x.t.sl, .int .i64 x.t.nw]) (by simp [results, Try.results56, go_sem, q0, q1, q2, q3]) rfl ?_
  exact ⟨⟨some ⟨gP, 0, none⟩, x.n, c, some ⟨gS, 0, none⟩, x.m, d, ⟨x.t.pg.set i p, x.t.sg.set j s, x.t.sl, x.t.nw⟩⟩, rfl, Hfin.out.1, rfl, Hfin.out.2.2⟩
set_option maxRecDepth 100000 in
set_option maxHeartbeats 3200000 in
theorem rwith_p (w : World) (x : TV) (h : x.At w) (hn : x.n ≤ 1000) (hm : x.m ≤ 1000) (hn0 : 0 < x.n) (hm0 : 0 < x.m) (i : Nat) (hi : i < x.n) (p s : Tr) :
    Calls Try.prog 56 #[.agg #[.slice x.P x.n x.c, .slice x.S x.m x.d, .int .i64 x.t.sl, .int .i64 x.t.nw], .int .i64 ((i : Nat) : Int), .agg #[.int .i64 p.a, .int .i64 p.b, .int .i64 p.c], .int .i64 (-1), .agg #[.int .i64 s.a, .int .i64 s.b, .int .i64 s.c]] w fun e w' => WtAns w w' x.n x.m ⟨x.t.pg.set i p, x.t.sg, x.t.sl, x.t.nw⟩ e := by
  obtain ⟨w1, hw1⟩ : ∃ w1, (((w.alloc (.cells #[.slice x.P x.n x.c, .slice x.S x.m x.d, .int .i64 x.t.sl, .int .i64 x.t.nw] 27)).alloc (.cells #[.int .i64 p.a, .int .i64 p.b, .int .i64 p.c] 34)).alloc (.cells #[.int .i64 s.a, .int .i64 s.b, .int .i64 s.c] 45)).alloc (.cells #[.slice none 0 0, .slice none 0 0, .int .i64 0, .int .i64 0] 27) = w1 := ⟨_, rfl⟩
  have hb : Wtx w w1 x p s := by
    rw [← hw1]
    exact Wtx.new w x p s
  have HB := Lib.hid hb
  have HX := Lib.hid (h.keep hb.old)
  obtain ⟨c0, c1, c2, c3⟩ := hb.bx.cells
  have HsP := Lib.hid (HX.out.pg.src)
  have HsS : Hid (∀ V, Mod (fun _ => False) w1 V → SrcN V x.S x.m 3 (trs x.t.sg)) := fun V hV => (HX.out.keep hV).sg.src
  have Hsz := Lib.hid hb.sz
  clear hb h
  go_enter Try.func56, Try.ntmps56
  go_wp2_with (first | (at_builtin; refine wpList_appN (.const (.slice none 0 0)) (.tmp 14) plElem rfl rfl rfl rfl (OwN.nil _ w1.heap.size _ _) HsP.out (by omega) (by unfold maxLen; omega) (Nat.le_refl _) ?_; intro P c w2 h1 h2 h3; rw [Nat.zero_add] at h1 ⊢; have H1 : Hid (Ow3 w2 w1.heap.size 34 P x.n c x.t.pg) := h1; have hm12 : Mod (fun _ => False) w1 w2 := (Mod.refl (fun _ => False) w1).grown h2 (fun k e _ => by simp [blkOf] at e); have Hm12 := Lib.hid hm12; obtain ⟨d0, d1, d2, d3⟩ := (HB.out.keep hm12).bx.cells; have hss := HsS.out _ hm12; have Hss := Lib.hid hss; have hbase := hm12.size; clear h1 h2 h3 hm12 hss c0 c1 c2 c3 hw1) | (at_builtin; refine wpList_appN (.const (.slice none 0 0)) (.tmp 17) sgElem rfl rfl rfl rfl (OwN.nil _ w1.heap.size _ _) Hss.out (by omega) (by unfold maxLen; omega) hbase ?_; intro S d w3 h1 h2 h3; rw [Nat.zero_add] at h1 ⊢; have H2 : Hid (Ow3 w3 w1.heap.size 45 S x.m d x.t.sg) := h1; have hm23 : Mod (fun _ => False) w2 w3 := (Mod.refl (fun _ => False) w2).grown h2 (fun k e _ => by simp [blkOf] at e); have Hm23 := Lib.hid hm23; clear h1 h2 h3 hbase d0 d1 d2 d3; obtain ⟨gP, gS, rfl, rfl, hne, fPall, fSall⟩ := wt_rows (H1.out.keep hm23) H2.out hn0 hm0; have HW3 : Hid (Wt w w3 x p s gP gS c d x.t.pg x.t.sg) := ⟨HB.out.keep (Hm12.out.trans hm23 (fun _ _ h => h)), (H1.out.keep hm23).rebase3 (fun k hk => by have := ((H1.out).lt k hk).1; have := Hsz.out; omega), H2.out.rebase3 (fun k hk => by have := (H2.out.lt k hk).1; have := Hsz.out; omega), hne⟩; clear hm23 hne fPall fSall; have rP := row_at HW3.out.pg hi; obtain ⟨⟨p0, p1, p2⟩, fP⟩ := rP; have fP0 := fP (i * 3); have fP1 := fP (i * 3 + 1); have fP2 := fP (i * 3 + 2); obtain ⟨l0, l1, l2⟩ := HW3.out.b.pl.cells; have hset := HW3.out.setP hi p; obtain ⟨w4, hw4⟩ : ∃ w4, st3 w3 gP i p = w4 := ⟨_, rfl⟩; rw [hw4] at hset; unfold st3 at hw4; have HW4 := Lib.hid hset; clear hset fP; obtain ⟨t0, t1, t2, t3⟩ := HW4.out.b.bx.cells; have fz0 := HW4.out.b.res.frozen 0; have fz1 := HW4.out.b.res.frozen 1; have fz2 := HW4.out.b.res.frozen 2; have fz3 := HW4.out.b.res.frozen 3; obtain ⟨z0c, z1c, z2c, z3c⟩ := HW4.out.b.res.cells; have hfin := HW4.out.fin (⟨x.t.pg.set i p, x.t.sg, x.t.sl, x.t.nw⟩ : Tb) rfl rfl; obtain ⟨wf, hwf⟩ : ∃ wf, stT w4 (w.heap.size + 3) (⟨some ⟨gP, 0, none⟩, x.n, c, some ⟨gS, 0, none⟩, x.m, d, ⟨x.t.pg.set i p, x.t.sg, x.t.sl, x.t.nw⟩⟩ : TV) = wf := ⟨_, rfl⟩; rw [hwf] at hfin; unfold stT at hwf; have hwf : (((w4.setCell ⟨w.heap.size + 3, 0, none⟩ (.slice (some ⟨gP, 0, none⟩) x.n c)).setCell ⟨w.heap.size + 3, 1, none⟩ (.slice (some ⟨gS, 0, none⟩) x.m d)).setCell ⟨w.heap.size + 3, 2, none⟩ (.int .i64 x.t.sl)).setCell ⟨w.heap.size + 3, 3, none⟩ (.int .i64 x.t.nw) = wf := hwf; have Hfin := Lib.hid hfin; clear hfin))
  clear hwf fz0 fz1 fz2 fz3 z0c z1c z2c z3c t0 t1 t2 t3
  obtain ⟨q0, q1, q2, q3⟩ := Hfin.out.2.1.cells
  refine bodyPost_ret (v := .agg #[.slice (some ⟨gP, 0, none⟩) x.n c, .slice (some ⟨gS, 0, none⟩) x.m d, .int .i64 x.t.sl, .int .i64 x.t.nw]) (by simp [results, Try.results56, go_sem, q0, q1, q2, q3]) rfl ?_
  exact ⟨⟨some ⟨gP, 0, none⟩, x.n, c, some ⟨gS, 0, none⟩, x.m, d, ⟨x.t.pg.set i p, x.t.sg, x.t.sl, x.t.nw⟩⟩, rfl, Hfin.out.1, rfl, Hfin.out.2.2⟩
set_option maxRecDepth 100000 in
set_option maxHeartbeats 3200000 in
theorem rwith_s (w : World) (x : TV) (h : x.At w) (hn : x.n ≤ 1000) (hm : x.m ≤ 1000) (hn0 : 0 < x.n) (hm0 : 0 < x.m) (j : Nat) (hj : j < x.m) (p s : Tr) :
    Calls Try.prog 56 #[.agg #[.slice x.P x.n x.c, .slice x.S x.m x.d, .int .i64 x.t.sl, .int .i64 x.t.nw], .int .i64 (-1), .agg #[.int .i64 p.a, .int .i64 p.b, .int .i64 p.c], .int .i64 ((j : Nat) : Int), .agg #[.int .i64 s.a, .int .i64 s.b, .int .i64 s.c]] w fun e w' => WtAns w w' x.n x.m ⟨x.t.pg, x.t.sg.set j s, x.t.sl, x.t.nw⟩ e := by
  obtain ⟨w1, hw1⟩ : ∃ w1, (((w.alloc (.cells #[.slice x.P x.n x.c, .slice x.S x.m x.d, .int .i64 x.t.sl, .int .i64 x.t.nw] 27)).alloc (.cells #[.int .i64 p.a, .int .i64 p.b, .int .i64 p.c] 34)).alloc (.cells #[.int .i64 s.a, .int .i64 s.b, .int .i64 s.c] 45)).alloc (.cells #[.slice none 0 0, .slice none 0 0, .int .i64 0, .int .i64 0] 27) = w1 := ⟨_, rfl⟩
  have hb : Wtx w w1 x p s := by
    rw [← hw1]
    exact Wtx.new w x p s
  have HB := Lib.hid hb
  have HX := Lib.hid (h.keep hb.old)
  obtain ⟨c0, c1, c2, c3⟩ := hb.bx.cells
  have HsP := Lib.hid (HX.out.pg.src)
  have HsS : Hid (∀ V, Mod (fun _ => False) w1 V → SrcN V x.S x.m 3 (trs x.t.sg)) := fun V hV => (HX.out.keep hV).sg.src
  have Hsz := Lib.hid hb.sz
  clear hb h
  go_enter Try.func56, Try.ntmps56
  go_wp2_with (first | (at_builtin; refine wpList_appN (.const (.slice none 0 0)) (.tmp 14) plElem rfl rfl rfl rfl (OwN.nil _ w1.heap.size _ _) HsP.out (by omega) (by unfold maxLen; omega) (Nat.le_refl _) ?_; intro P c w2 h1 h2 h3; rw [Nat.zero_add] at h1 ⊢; have H1 : Hid (Ow3 w2 w1.heap.size 34 P x.n c x.t.pg) := h1; have hm12 : Mod (fun _ => False) w1 w2 := (Mod.refl (fun _ => False) w1).grown h2 (fun k e _ => by simp [blkOf] at e); have Hm12 := Lib.hid hm12; obtain ⟨d0, d1, d2, d3⟩ := (HB.out.keep hm12).bx.cells; have hss := HsS.out _ hm12; have Hss := Lib.hid hss; have hbase := hm12.size; clear h1 h2 h3 hm12 hss c0 c1 c2 c3 hw1) | (at_builtin; refine wpList_appN (.const (.slice none 0 0)) (.tmp 17) sgElem rfl rfl rfl rfl (OwN.nil _ w1.heap.size _ _) Hss.out (by omega) (by unfold maxLen; omega) hbase ?_; intro S d w3 h1 h2 h3; rw [Nat.zero_add] at h1 ⊢; have H2 : Hid (Ow3 w3 w1.heap.size 45 S x.m d x.t.sg) := h1; have hm23 : Mod (fun _ => False) w2 w3 := (Mod.refl (fun _ => False) w2).grown h2 (fun k e _ => by simp [blkOf] at e); have Hm23 := Lib.hid hm23; clear h1 h2 h3 hbase d0 d1 d2 d3; obtain ⟨gP, gS, rfl, rfl, hne, fPall, fSall⟩ := wt_rows (H1.out.keep hm23) H2.out hn0 hm0; have HW3 : Hid (Wt w w3 x p s gP gS c d x.t.pg x.t.sg) := ⟨HB.out.keep (Hm12.out.trans hm23 (fun _ _ h => h)), (H1.out.keep hm23).rebase3 (fun k hk => by have := ((H1.out).lt k hk).1; have := Hsz.out; omega), H2.out.rebase3 (fun k hk => by have := (H2.out.lt k hk).1; have := Hsz.out; omega), hne⟩; clear hm23 hne fPall fSall; have rS := row_at HW3.out.sg hj; obtain ⟨⟨s0, s1, s2⟩, fS⟩ := rS; have fS0 := fS (j * 3); have fS1 := fS (j * 3 + 1); have fS2 := fS (j * 3 + 2); obtain ⟨m0, m1, m2⟩ := HW3.out.b.sg.cells; have hset := HW3.out.setS hj s; obtain ⟨w5, hw5⟩ : ∃ w5, st3 w3 gS j s = w5 := ⟨_, rfl⟩; rw [hw5] at hset; unfold st3 at hw5; have HW5 := Lib.hid hset; clear hset fS; obtain ⟨t0, t1, t2, t3⟩ := HW5.out.b.bx.cells; have fz0 := HW5.out.b.res.frozen 0; have fz1 := HW5.out.b.res.frozen 1; have fz2 := HW5.out.b.res.frozen 2; have fz3 := HW5.out.b.res.frozen 3; obtain ⟨z0c, z1c, z2c, z3c⟩ := HW5.out.b.res.cells; have hfin := HW5.out.fin (⟨x.t.pg, x.t.sg.set j s, x.t.sl, x.t.nw⟩ : Tb) rfl rfl; obtain ⟨wf, hwf⟩ : ∃ wf, stT w5 (w.heap.size + 3) (⟨some ⟨gP, 0, none⟩, x.n, c, some ⟨gS, 0, none⟩, x.m, d, ⟨x.t.pg, x.t.sg.set j s, x.t.sl, x.t.nw⟩⟩ : TV) = wf := ⟨_, rfl⟩; rw [hwf] at hfin; unfold stT at hwf; have hwf : (((w5.setCell ⟨w.heap.size + 3, 0, none⟩ (.slice (some ⟨gP, 0, none⟩) x.n c)).setCell ⟨w.heap.size + 3, 1, none⟩ (.slice (some ⟨gS, 0, none⟩) x.m d)).setCell ⟨w.heap.size + 3, 2, none⟩ (.int .i64 x.t.sl)).setCell ⟨w.heap.size + 3, 3, none⟩ (.int .i64 x.t.nw) = wf := hwf; have Hfin := Lib.hid hfin; clear hfin))
  clear hwf fz0 fz1 fz2 fz3 z0c z1c z2c z3c t0 t1 t2 t3
  obtain ⟨q0, q1, q2, q3⟩ := Hfin.out.2.1.cells
  refine bodyPost_ret (v := .agg #[.slice (some ⟨gP, 0, none⟩) x.n c, .slice (some ⟨gS, 0, none⟩) x.m d, .int .i64 x.t.sl, .int .i64 x.t.nw]) (by simp [results, Try.results56, go_sem, q0, q1, q2, q3]) rfl ?_
  exact ⟨⟨some ⟨gP, 0, none⟩, x.n, c, some ⟨gS, 0, none⟩, x.m, d, ⟨x.t.pg, x.t.sg.set j s, x.t.sl, x.t.nw⟩⟩, rfl, Hfin.out.1, rfl, Hfin.out.2.2⟩
end Go.Proofs.Ythbcgbbcoanbdaa
