/-
  Package table: slices.Clone of both kinds, copied.
-/
import Derived.Test.YthbcgbbcoanbdaaTP1
namespace Go.Proofs.Ythbcgbbcoanbdaa
open Go Go.RowKit

theorem plElem : ElemN Try.prog 24 34 (.agg #[.int .i64 0, .int .i64 0, .int .i64 0]) 3 24 := ElemN.mk_ Try.underlying24 rfl (by decide) (by kernel_rfl)
theorem sgElem : ElemN Try.prog 25 45 (.agg #[.int .i64 0, .int .i64 0, .int .i64 0]) 3 24 := ElemN.mk_ Try.underlying25 rfl (by decide) (by kernel_rfl)

theorem nil_plElem (w : World) (a : Option Addr) (n c : Nat) : (binOp .eql 24 (.slice a n c) (.slice none 0 0)).run Try.prog w = .ok (.bool a.isNone) w :=
  Lib.run_eql_slice_nil w _ _ a n c 0 0 Try.underlying24
set_option maxRecDepth 100000 in
theorem clone_plElem (w : World) (A : Option Addr) (n c : Nat) (l : List Tr) (h : Tl w A n c l) (hn : n ≤ 1000) :
    Calls Try.prog 62 #[.slice A n c] w fun e w' => ∃ A' c', e = .returned (.slice A' n c') ∧ Ow3 w' w.heap.size 34 A' n c' l ∧ Mod (fun _ => False) w w' := by
  have heq := nil_plElem
  cases A with
  | none =>
    obtain rfl : n = 0 := by
      rcases Nat.eq_zero_or_pos n with e | e
      · exact e
      · obtain ⟨b, o, e, _⟩ := h.2.2 e; cases e
    obtain rfl : l = [] := List.eq_nil_of_length_eq_zero h.len
    clear h
    go_enter Try.func62, Try.ntmps62
    go_wp2
    go_ret
    exact ⟨none, 0, rfl, OwN.nil _ _ _ _, Mod.refl _ _⟩
  | some ad =>
    have Hm : Hid (Mod (fun _ => False) w (w.alloc (.cells #[] 34))) := (Mod.refl _ w).alloc _
    have Hs := Lib.hid (h.keep Hm.out).src
    have Hown : Hid (OwN (w.alloc (.cells #[] 34)) w.heap.size 34 3 (some ⟨w.heap.size, 0, none⟩) 0 0 []) :=
      OwN.mk_ (cur := []) (Nat.le_refl _) (heap_alloc_new w _) (Nat.le_refl _) (Nat.zero_le _) rfl rfl rfl
    clear h
    go_enter Try.func62, Try.ntmps62
    go_wp2_with (at_builtin; refine wpList_appN (.tmp 5) (.tmp 6) plElem rfl rfl rfl rfl Hown.out Hs.out (by omega) (by unfold maxLen; omega) (by rw [World.size_alloc]; omega) ?_; intro A' c' w' h1 h2 h3; rw [Nat.zero_add] at h1 ⊢; have H1 := Lib.hid h1; have H2 := Lib.hid h2; clear h1 h2 h3)
    go_ret
    refine ⟨A', c', rfl, H1.out, ?_⟩
    refine Mod.mono (F := fun k => w.heap.size ≤ k) ((Hm.out.mono (fun _ _ h => h.elim)).grown H2.out (fun k e hk => ?_)) (fun k hk e => by omega)
    simp [blkOf] at e
    omega

theorem nil_sgElem (w : World) (a : Option Addr) (n c : Nat) : (binOp .eql 25 (.slice a n c) (.slice none 0 0)).run Try.prog w = .ok (.bool a.isNone) w :=
  Lib.run_eql_slice_nil w _ _ a n c 0 0 Try.underlying25
set_option maxRecDepth 100000 in
theorem clone_sgElem (w : World) (A : Option Addr) (n c : Nat) (l : List Tr) (h : Tl w A n c l) (hn : n ≤ 1000) :
    Calls Try.prog 63 #[.slice A n c] w fun e w' => ∃ A' c', e = .returned (.slice A' n c') ∧ Ow3 w' w.heap.size 45 A' n c' l ∧ Mod (fun _ => False) w w' := by
  have heq := nil_sgElem
  cases A with
  | none =>
    obtain rfl : n = 0 := by
      rcases Nat.eq_zero_or_pos n with e | e
      · exact e
      · obtain ⟨b, o, e, _⟩ := h.2.2 e; cases e
    obtain rfl : l = [] := List.eq_nil_of_length_eq_zero h.len
    clear h
    go_enter Try.func63, Try.ntmps63
    go_wp2
    go_ret
    exact ⟨none, 0, rfl, OwN.nil _ _ _ _, Mod.refl _ _⟩
  | some ad =>
    have Hm : Hid (Mod (fun _ => False) w (w.alloc (.cells #[] 45))) := (Mod.refl _ w).alloc _
    have Hs := Lib.hid (h.keep Hm.out).src
    have Hown : Hid (OwN (w.alloc (.cells #[] 45)) w.heap.size 45 3 (some ⟨w.heap.size, 0, none⟩) 0 0 []) :=
      OwN.mk_ (cur := []) (Nat.le_refl _) (heap_alloc_new w _) (Nat.le_refl _) (Nat.zero_le _) rfl rfl rfl
    clear h
    go_enter Try.func63, Try.ntmps63
    go_wp2_with (at_builtin; refine wpList_appN (.tmp 5) (.tmp 6) sgElem rfl rfl rfl rfl Hown.out Hs.out (by omega) (by unfold maxLen; omega) (by rw [World.size_alloc]; omega) ?_; intro A' c' w' h1 h2 h3; rw [Nat.zero_add] at h1 ⊢; have H1 := Lib.hid h1; have H2 := Lib.hid h2; clear h1 h2 h3)
    go_ret
    refine ⟨A', c', rfl, H1.out, ?_⟩
    refine Mod.mono (F := fun k => w.heap.size ≤ k) ((Hm.out.mono (fun _ _ h => h.elim)).grown H2.out (fun k e hk => ?_)) (fun k hk e => by omega)
    simp [blkOf] at e
    omega

theorem Ow3.rebase3 {w : World} {base base' : Nat} {e : TypeId} {A : Option Addr} {n c : Nat} {l : List Tr} (h : Ow3 w base e A n c l) (hb : ∀ k, blkOf A = some k → base' ≤ k) : Ow3 w base' e A n c l := by
  refine ⟨h.1, ?_⟩
  rcases h.2 with hn | ⟨g, cap, cur, hv, hbg, rest⟩
  · exact .inl hn
  · refine .inr ⟨g, cap, cur, hv, ?_, rest⟩
    injection hv with hA
    subst hA
    exact hb g rfl
/-- A table whose rows are the call's own. -/
structure TV.Own (x : TV) (w : World) (base : Nat) : Prop where
  pg : Ow3 w base 34 x.P x.n x.c x.t.pg
  sg : Ow3 w base 45 x.S x.m x.d x.t.sg
theorem TV.Own.at_ {x : TV} {w : World} {base : Nat} (h : x.Own w base) : x.At w := ⟨h.pg.tl, h.sg.tl⟩
theorem TV.Own.keep {x : TV} {w w' : World} {base : Nat} (h : x.Own w base) (hm : Mod (fun _ => False) w w') : x.Own w' base := ⟨h.pg.keep hm, h.sg.keep hm⟩
/-- What copied tells. -/
def CpAns (w w' : World) (x : TV) (e : Ending) : Prop :=
  ∃ P' c' S' d', e = .returned (.agg #[.slice P' x.n c', .slice S' x.m d', .int .i64 x.t.sl, .int .i64 x.t.nw]) ∧ (⟨P', x.n, c', S', x.m, d', x.t⟩ : TV).Own w' w.heap.size ∧ Mod (fun _ => False) w w'
set_option maxRecDepth 100000 in
set_option maxHeartbeats 3200000 in
theorem copied_ok (w : World) (x : TV) (h : x.At w) (hn : x.n ≤ 1000) (hm : x.m ≤ 1000) :
    Calls Try.prog 46 #[.agg #[.slice x.P x.n x.c, .slice x.S x.m x.d, .int .i64 x.t.sl, .int .i64 x.t.nw]] w fun e w' => CpAns w w' x e := by
  have hm1 : Mod (fun _ => False) w ((w.alloc (.cells #[.slice x.P x.n x.c, .slice x.S x.m x.d, .int .i64 x.t.sl, .int .i64 x.t.nw] 27)).alloc (.cells #[.slice none 0 0, .slice none 0 0, .int .i64 0, .int .i64 0] 27)) := ((Mod.refl _ w).alloc _).alloc _
  have hbx : TBx ((w.alloc (.cells #[.slice x.P x.n x.c, .slice x.S x.m x.d, .int .i64 x.t.sl, .int .i64 x.t.nw] 27)).alloc (.cells #[.slice none 0 0, .slice none 0 0, .int .i64 0, .int .i64 0] 27)) w.heap.size x := (TBx.new w x).keep ((Mod.refl _ _).alloc _)
  have hrx : TBx ((w.alloc (.cells #[.slice x.P x.n x.c, .slice x.S x.m x.d, .int .i64 x.t.sl, .int .i64 x.t.nw] 27)).alloc (.cells #[.slice none 0 0, .slice none 0 0, .int .i64 0, .int .i64 0] 27)) (w.heap.size + 1) ⟨none, 0, 0, none, 0, 0, noTb⟩ := by
    have := TBx.new (w.alloc (.cells #[.slice x.P x.n x.c, .slice x.S x.m x.d, .int .i64 x.t.sl, .int .i64 x.t.nw] 27)) ⟨none, 0, 0, none, 0, 0, noTb⟩
    rw [World.size_alloc] at this
    exact this
  obtain ⟨w1, hw1⟩ : ∃ w1, (w.alloc (.cells #[.slice x.P x.n x.c, .slice x.S x.m x.d, .int .i64 x.t.sl, .int .i64 x.t.nw] 27)).alloc (.cells #[.slice none 0 0, .slice none 0 0, .int .i64 0, .int .i64 0] 27) = w1 := ⟨_, rfl⟩
  rw [hw1] at hm1 hbx hrx
  have HM := Lib.hid hm1
  have HB := Lib.hid hbx
  have HR := Lib.hid hrx
  have HX := Lib.hid (h.keep hm1)
  have hsz : w.heap.size + 2 ≤ w1.heap.size := by rw [← hw1]; simp
  have Hlt : Hid (∀ k, blkOf x.S = some k → 0 < x.m → k < w.heap.size) := fun k hk hp => by
    obtain ⟨b, o, hA, hlt⟩ := h.sg.lt hp
    rw [hA] at hk
    simp [blkOf] at hk
    omega
  obtain ⟨c0, c1, c2, c3⟩ := hbx.cells
  have HC := Lib.hid (clone_plElem w1 x.P x.n x.c x.t.pg HX.out.pg hn)
  clear hm1 hbx hrx h
  go_enter Try.func46, Try.ntmps46
  go_wp2_with fail
  refine HC.out.mono ?_
  rintro e w2 ⟨P', c', rfl, hP, hm2⟩
  have hb2 := HB.out.keep hm2
  have hr2 := HR.out.keep hm2
  have hz2 := hm2.size
  have Hz2 := Lib.hid hm2.size
  obtain ⟨d0, d1, d2, d3⟩ := hb2.cells
  have f0 := hb2.frozen 0
  -- the first store
  have hb3 : TBx (w2.setCell ⟨w.heap.size, 0, none⟩ (.slice P' x.n c')) w.heap.size ⟨P', x.n, c', x.S, x.m, x.d, x.t⟩ := heap_set hb2 0 (.slice P' x.n c')
  have hms3 : Mod (fun k => k = w.heap.size ∨ k = w.heap.size + 1) w2 (w2.setCell ⟨w.heap.size, 0, none⟩ (.slice P' x.n c')) := (Mod.refl (fun k => k = w.heap.size ∨ k = w.heap.size + 1) w2).one (fun _ => .inl rfl) 0 _
  obtain ⟨w3, hw3⟩ : ∃ w3, w2.setCell ⟨w.heap.size, 0, none⟩ (.slice P' x.n c') = w3 := ⟨_, rfl⟩
  rw [hw3] at hb3 hms3
  have hX3 : Tl w3 x.S x.m x.d x.t.sg := (HX.out.sg.keep hm2).mod hms3 (fun k hk hp e => by have := Hlt.out k hk hp; omega)
  have hr3 : TBx w3 (w.heap.size + 1) ⟨none, 0, 0, none, 0, 0, noTb⟩ := by
    rw [← hw3]
    refine hr2.mod ((Mod.refl (fun k => k = w.heap.size) w2).one (fun _ => rfl) 0 _) (fun e => by omega)
  have hz3 := hms3.size
  have Hms3 := Lib.hid hms3
  have HC2 := Lib.hid (clone_sgElem w3 x.S x.m x.d x.t.sg hX3 hm)
  have HB3 := Lib.hid hb3
  have HR3 := Lib.hid hr3
  have HP := Lib.hid hP
  have HM2 := Lib.hid (HM.out.trans hm2 (fun _ _ h => h))
  obtain ⟨b0, b1, b2, b3⟩ := hb3.cells
  clear hms3 hX3 hb3 hr3 hP hb2 hr2 hm2 HC HX HB HR hw1 c0 c1 c2 c3
  go_wp2_with fail
  clear hw3 d0 d1 d2 d3 f0
  refine HC2.out.mono ?_
  rintro e w4 ⟨S', d', rfl, hS, hm4⟩
  have hz4 := hm4.size
  have hb4 := HB3.out.keep hm4
  have hr4 := HR3.out.keep hm4
  have f1 := hb4.frozen 1
  obtain ⟨d0, d1, d2, d3⟩ := hb4.cells
  have hb5 : TBx (w4.setCell ⟨w.heap.size, 1, none⟩ (.slice S' x.m d')) w.heap.size ⟨P', x.n, c', S', x.m, d', x.t⟩ := heap_set hb4 1 (.slice S' x.m d')
  have hr5 : TBx (w4.setCell ⟨w.heap.size, 1, none⟩ (.slice S' x.m d')) (w.heap.size + 1) ⟨none, 0, 0, none, 0, 0, noTb⟩ :=
    hr4.mod ((Mod.refl (fun k => k = w.heap.size) w4).one (fun _ => rfl) 1 _) (fun e => by omega)
  have hms5 : Mod (fun k => k = w.heap.size ∨ k = w.heap.size + 1) w4 (w4.setCell ⟨w.heap.size, 1, none⟩ (.slice S' x.m d')) := (Mod.refl (fun k => k = w.heap.size ∨ k = w.heap.size + 1) w4).one (fun _ => .inl rfl) 1 _
  obtain ⟨w5, hw5⟩ : ∃ w5, w4.setCell ⟨w.heap.size, 1, none⟩ (.slice S' x.m d') = w5 := ⟨_, rfl⟩
  rw [hw5] at hb5 hr5 hms5
  have g0 := hr5.frozen 0
  have g1 := hr5.frozen 1
  have g2 := hr5.frozen 2
  have g3 := hr5.frozen 3
  obtain ⟨q0, q1, q2, q3⟩ := hb5.cells
  obtain ⟨r0, r1, r2, r3⟩ := hr5.cells
  have hr6 := hr5.set ⟨P', x.n, c', S', x.m, d', x.t⟩
  have hms6 : Mod (fun k => k = w.heap.size ∨ k = w.heap.size + 1) w5 ((((w5.setCell ⟨w.heap.size + 1, 0, none⟩ (.slice P' x.n c')).setCell ⟨w.heap.size + 1, 1, none⟩ (.slice S' x.m d')).setCell ⟨w.heap.size + 1, 2, none⟩ (.int .i64 x.t.sl)).setCell ⟨w.heap.size + 1, 3, none⟩ (.int .i64 x.t.nw)) :=
    ((((Mod.refl (fun k => k = w.heap.size ∨ k = w.heap.size + 1) w5).one (fun _ => .inr rfl) 0 _).one (fun _ => .inr rfl) 1 _).one (fun _ => .inr rfl) 2 _).one (fun _ => .inr rfl) 3 _
  obtain ⟨w6, hw6⟩ : ∃ w6, ((((w5.setCell ⟨w.heap.size + 1, 0, none⟩ (.slice P' x.n c')).setCell ⟨w.heap.size + 1, 1, none⟩ (.slice S' x.m d')).setCell ⟨w.heap.size + 1, 2, none⟩ (.int .i64 x.t.sl)).setCell ⟨w.heap.size + 1, 3, none⟩ (.int .i64 x.t.nw)) = w6 := ⟨_, rfl⟩
  rw [hw6] at hr6 hms6
  have HR6 := Lib.hid hr6
  have HS := Lib.hid hS
  have H56 := Lib.hid (hms5.trans hms6 (fun _ _ h => h))
  have Hm4 := Lib.hid hm4
  have Hw6 := Lib.hid hw6
  clear hr6 hS hms5 hms6 hm4 hb4 hr4 hb5 hr5 b0 b1 b2 b3 HC2 hw6
  go_wp2
  clear hw5 d0 d1 d2 d3 f1 q0 q1 q2 q3
  rw [Hw6.out]
  obtain ⟨q0, q1, q2, q3⟩ := HR6.out.cells
  refine bodyPost_ret (v := .agg #[.slice P' x.n c', .slice S' x.m d', .int .i64 x.t.sl, .int .i64 x.t.nw]) (by simp [results, Try.results46, go_sem, q0, q1, q2, q3]) rfl ?_
  have hP3 : Ow3 w4 w1.heap.size 34 P' x.n c' x.t.pg := (HP.out.mod Hms3.out (fun k hk e => by have := (HP.out.lt k hk).1; omega)).keep Hm4.out
  refine ⟨P', c', S', d', rfl, ⟨?_, ?_⟩, ?_⟩
  · exact (hP3.mod H56.out (fun k hk e => by have := (hP3.lt k hk).1; omega)).rebase3 (fun k hk => by have := (hP3.lt k hk).1; omega)
  · exact (HS.out.mod H56.out (fun k hk e => by have := (HS.out.lt k hk).1; omega)).rebase3 (fun k hk => by have := (HS.out.lt k hk).1; omega)
  · have h1 : Mod (fun k => k = w.heap.size ∨ k = w.heap.size + 1) w w6 := ((HM2.out.mono (fun _ _ h => h.elim)).trans Hms3.out (fun _ _ h => h)).trans ((Hm4.out.mono (fun _ _ h => h.elim)).trans H56.out (fun _ _ h => h)) (fun _ _ h => h)
    exact h1.mono (fun k hk e => by omega)
end Go.Proofs.Ythbcgbbcoanbdaa
