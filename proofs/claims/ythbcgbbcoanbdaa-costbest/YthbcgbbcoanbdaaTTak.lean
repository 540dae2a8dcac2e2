/-
  Package table: maySegs, taken.
-/
import Derived.Test.YthbcgbbcoanbdaaTFind
namespace Go.Proofs.Ythbcgbbcoanbdaa
open Go Go.RowKit

theorem wrongs {t : Tb} : cnt (fun i => !sgF t i) t.sg.length = 0 ↔ allN (sgF t) t.sg.length = true := by
  rw [cnt_none, allN_iff]
  exact ⟨fun h i hi => by have := h i hi; simpa using this, fun h i hi => by rw [h i hi]; rfl⟩

/-- find with the condition on a state, from whatever world on. -/
theorem findSt_ok (w : World) (x : TV) (h : x.At w) (hm : x.m ≤ 1000) (g : Nat) (st : Int) (hg : w.cell? ⟨g, 0, none⟩ = some (.int .i64 st)) :
    Calls Try.prog 48 #[.agg #[.slice x.P x.n x.c, .slice x.S x.m x.d, .int .i64 x.t.sl, .int .i64 x.t.nw], .func (.func 64) #[] #[.pointer (some ⟨g, 0, none⟩)]] w fun e w' => FdAns w w' (stF st x.t) x.m e :=
  find_inState w x h hm g (stF st x.t) (fun W hW _ _ => inState1_ok W _ st g ((World.cell?_of_block (hW.block g (World.block_lt_of_cell? w _ hg) id)).trans hg))

set_option maxRecDepth 100000 in
set_option maxHeartbeats 3200000 in
theorem tmaySegs_ok (w : World) (x : TV) (h : x.At w) (hm : x.m ≤ 1000) (k1 : 1 ≤ x.t.sl) (k2 : x.t.sl ≤ 16) :
    Calls Try.prog 41 #[.agg #[.slice x.P x.n x.c, .slice x.S x.m x.d, .int .i64 x.t.sl, .int .i64 x.t.nw]] w fun e w' =>
      e = .returned (.bool (sgsB x.t)) ∧ Mod (fun _ => False) w w' := by
  obtain ⟨w1, hw1⟩ : ∃ w1, w.alloc (.cells #[.slice x.P x.n x.c, .slice x.S x.m x.d, .int .i64 x.t.sl, .int .i64 x.t.nw] 27) = w1 := ⟨_, rfl⟩
  have hm1 : Mod (fun _ => False) w w1 := by rw [← hw1]; exact (Mod.refl _ w).alloc _
  have hbx : TBx w1 w.heap.size x := by rw [← hw1]; exact TBx.new w x
  obtain ⟨c0, c1, c2, c3⟩ := hbx.cells
  have HB := Lib.hid hbx
  have HM := Lib.hid hm1
  have HX := Lib.hid (h.keep hm1)
  have Hsl : Hid (x.t.sg.length = x.m) := h.sg.len
  have HF1 := Lib.hid (find_maySegs w1 x (h.keep hm1) hm w.heap.size (fun i => !sgF x.t i) (fun W hW i _ => maySegs1_ok W _ x _ (hbx.keep hW) k1 k2))
  clear hbx hm1
  have hgo : sgsB x.t = (decide (cnt (fun i => !sgF x.t i) x.m = 0) && decide (cnt (stF 1 x.t) x.m ≤ 1)) := by
    unfold sgsB
    rw [← Hsl.out]
    congr 1
    rw [Bool.eq_iff_iff, decide_eq_true_eq, wrongs]
  rw [hgo]
  clear hgo
  have hcb := cnt_le (fun i => !sgF x.t i) x.m
  have hcb2 := cnt_le (stF 1 x.t) x.m
  have HST := Lib.hid (fun W (hW : Mod (fun _ => False) w W) g (hg : W.cell? ⟨g, 0, none⟩ = some (.int .i64 1)) => findSt_ok W x (h.keep hW) hm g 1 hg)
  unfold FdAns at HF1 HST
  clear h
  generalize cnt (fun i => !sgF x.t i) x.m = q at *
  generalize cnt (stF 1 x.t) x.m = r at *
  go_enter Try.func41, Try.ntmps41
  go_wp2_with fail
  refine HF1.out.mono ?_
  rintro e w2 ⟨A, c, rfl, hO, hm2⟩
  have HM2 := Lib.hid (HM.out.trans hm2 (fun _ _ h => h))
  have HB2 := Lib.hid (HB.out.keep hm2)
  clear hO hm2 c0 c1 c2 c3 hw1 HF1 HB HX HM
  go_wp2_with fail
  by_cases hq : q = 0
  · have hd : decide (q = 0) = true := by simpa using hq
    have hd2 : (((q : Nat) : Int) == 0) = true := by rw [hq]; rfl
    have Hd := Lib.hid hd
    clear hd hq
    have M0 : Hid (Mod (fun _ => False) w2 w2.drew) := (Mod.refl _ w2).drew
    have HIN : Hid (∀ W, Mod (fun _ => False) w2 W → Calls Try.prog 49 #[.int .i64 1] W fun e w' => ∃ g, e = .returned (.func (.func 64) #[] #[.pointer (some ⟨g, 0, none⟩)]) ∧ (∀ W', Mod (fun _ => False) w' W' → W'.cell? ⟨g, 0, none⟩ = some (.int .i64 1)) ∧ Mod (fun _ => False) w2 w') := fun W hW => by
      refine (inState_ok W 1).mono ?_
      rintro e w' ⟨rfl, rfl⟩
      refine ⟨W.heap.size, rfl, fun W' hW' => ?_, hW.alloc _⟩
      exact (World.cell?_of_block (hW'.block _ (by simp) id)).trans (cell_one_new W (.int .i64 1) _ 0 _ rfl)
    have HFD : Hid (∀ W g, Mod (fun _ => False) w2 W → (∀ W', Mod (fun _ => False) W W' → W'.cell? ⟨g, 0, none⟩ = some (.int .i64 1)) → Calls Try.prog 48 #[.agg #[.slice x.P x.n x.c, .slice x.S x.m x.d, .int .i64 x.t.sl, .int .i64 x.t.nw], .func (.func 64) #[] #[.pointer (some ⟨g, 0, none⟩)]] W fun e w' => ∃ A c, e = .returned (.slice A r c) ∧ Mod (fun _ => False) w2 w') := fun W g hW hg => by
      refine (HST.out W (HM2.out.trans hW (fun _ _ h => h)) g (hg W (Mod.refl _ _))).mono ?_
      rintro e w' ⟨A, c, rfl, _, hm'⟩
      exact ⟨A, c, rfl, hW.trans hm' (fun _ _ h => h)⟩
    go_region_held3 (fun w' => w'.cell? ⟨w.heap.size, 0, none⟩ = some (.slice x.P x.n x.c) ∧ w'.cell? ⟨w.heap.size, 1, none⟩ = some (.slice x.S x.m x.d) ∧ w'.cell? ⟨w.heap.size, 2, none⟩ = some (.int .i64 x.t.sl) ∧ w'.cell? ⟨w.heap.size, 3, none⟩ = some (.int .i64 x.t.nw)) (first | exact (HB2.out.keep M0.out).cells | exact (HB2.out.keep hm3).cells | exact (HB2.out.keep hm4).cells) (first | (go_at_call 49; refine (HIN.out _ M0.out).mono ?_; rintro e w3 ⟨g, rfl, hg, hm3⟩) | (go_at_call 48; refine (HFD.out _ _ hm3 (by first | exact hg | exact fun W' hW' => hg W' (((Mod.refl _ _).drew).trans hW' (fun _ _ h => h)))).mono ?_; rintro e w4 ⟨A4, c4, rfl, hm4⟩))
    all_goals
      have HM4 := Lib.hid (HM2.out.trans hm4 (fun _ _ h => h))
      clear hm3 hm4 hg
      go_wp2
      go_ret
      have hri : decide (((r : Nat) : Int) ≤ 1) = decide (r ≤ 1) := by rw [decide_eq_decide]; omega
      exact ⟨by show Ending.returned (.bool (decide (((r : Nat) : Int) ≤ 1))) = _; rw [hri, Hd.out]; rfl, HM4.out⟩
  · have hd : decide (q = 0) = false := by simpa using hq
    have hd2 : (((q : Nat) : Int) == 0) = false := by simpa using hq
    have Hd := Lib.hid hd
    clear hd hq
    go_quiet (fail)
    go_wp2
    go_ret
    exact ⟨by rw [Hd.out]; rfl, HM2.out.drewN _⟩

theorem slB_eq (q p : Tr) : eqT ⟨q.a, q.b, 0⟩ ⟨p.a, p.b, 0⟩ = slB q p := by simp [eqT, slB]

set_option maxRecDepth 100000 in
set_option maxHeartbeats 3200000 in
theorem taken_ok (w : World) (x : TV) (h : x.At w) (hn : x.n ≤ 1000) (i : Int) (p : Tr) :
    Calls Try.prog 52 #[.agg #[.slice x.P x.n x.c, .slice x.S x.m x.d, .int .i64 x.t.sl, .int .i64 x.t.nw], .int .i64 i, .agg #[.int .i64 p.a, .int .i64 p.b, .int .i64 p.c]] w fun e w' =>
      e = .returned (.bool (takB x.t.pg i p)) ∧ Mod (fun _ => False) w w' := by
  obtain ⟨w1, hw1⟩ : ∃ w1, (w.alloc (.cells #[.slice x.P x.n x.c, .slice x.S x.m x.d, .int .i64 x.t.sl, .int .i64 x.t.nw] 27)).alloc (.cells #[.int .i64 p.a, .int .i64 p.b, .int .i64 p.c] 34) = w1 := ⟨_, rfl⟩
  have hm1 : Mod (fun _ => False) w w1 := by rw [← hw1]; exact ((Mod.refl _ w).alloc _).alloc _
  have hbx : TBx w1 w.heap.size x := by rw [← hw1]; exact (TBx.new w x).keep ((Mod.refl _ _).alloc _)
  have hrx : RBx w1 (w.heap.size + 1) 34 p := by
    rw [← hw1]
    have := RBx.new (w.alloc (.cells #[.slice x.P x.n x.c, .slice x.S x.m x.d, .int .i64 x.t.sl, .int .i64 x.t.nw] 27)) 34 p
    rw [World.size_alloc] at this
    exact this
  have c0 := hbx.cells.1
  have HR := Lib.hid hrx
  have HM := Lib.hid hm1
  have HX := Lib.hid (h.keep hm1)
  have Hsl : Hid (x.t.pg.length = x.n) := h.pg.len
  clear hbx hm1 h hrx
  go_enter Try.func52, Try.ntmps52
  go_wp2
  go_loopw [12] (fun k wr => ∃ j : Nat, j ≤ x.n ∧ k = .int .i64 j ∧ (∀ q, q < j → takF x.t.pg i p q = false) ∧ Mod (fun _ => False) w1 wr) (fun k _ => x.n - (intOf k).toNat)
  case atStart => exact ⟨0, Nat.zero_le _, rfl, fun q hq => absurd hq (by omega), Mod.refl _ _⟩
  case round =>
    obtain ⟨j, hj, rfl, hno, hmr⟩ := hrel
    have Hno := Lib.hid hno
    have Hmr := Lib.hid hmr
    clear hno hmr hw1 c0
    by_cases hlt : j < x.n
    · obtain ⟨b, o, hP, hc⟩ := (HX.out.keep Hmr.out).pg.cells (by omega)
      rw [hP]
      obtain ⟨s0, s1, s2⟩ := hc j hlt
      have Hf : Hid (takF x.t.pg i p j = (!decide ((j : Int) = i) && slB (atS x.t.pg j) p)) := rfl
      generalize hT : atS x.t.pg j = s at *
      clear hT hc hP
      obtain ⟨w2, hw2⟩ : ∃ w2, wr.alloc (.cells #[.int .i64 s.a, .int .i64 s.b, .int .i64 s.c] 34) = w2 := ⟨_, rfl⟩
      have hm2 : Mod (fun _ => False) wr w2 := by rw [← hw2]; exact (Mod.refl _ wr).alloc _
      have hr2 : RBx w2 wr.heap.size 34 s := by rw [← hw2]; exact RBx.new wr _ s
      have HM2 := Lib.hid (Hmr.out.trans hm2 (fun _ _ h => h))
      have HS2 := Lib.hid hr2
      have HR2 := Lib.hid ((HR.out.keep Hmr.out).keep hm2)
      clear hm2 hr2
      by_cases hi : (j : Int) = i
      · have hd : ((j : Int) != i) = false := by simpa using hi
        have Hf2 : Hid (takF x.t.pg i p j = false) := by rw [Hf.out, decide_eq_true hi]; rfl
        clear hi Hf
        go_wp2_with fail
        clear hw2 s0 s1 s2
        go_quiet (fail)
        go_wp2
        go_roundw
        case rel => exact ⟨j + 1, by omega, by go_num, fun q hq => (by rcases Nat.lt_succ_iff_lt_or_eq.1 hq with h | h; exact Hno.out q h; rw [h]; exact Hf2.out), HM2.out.drewN _⟩
        case measure => simp [intOf]; omega
      · have hd : ((j : Int) != i) = true := by simpa using hi
        have Hf2 : Hid (takF x.t.pg i p j = slB s p) := by rw [Hf.out, decide_eq_false hi]; rfl
        have heq : ∀ w, (Op.equalIn 10000 34 (.agg #[.int .i64 s.a, .int .i64 s.b, .int .i64 0]) (.agg #[.int .i64 p.a, .int .i64 p.b, .int .i64 0])).run Try.prog w = .ok (slB s p) w := fun w => by rw [← slB_eq]; exact eq_pl ⟨s.a, s.b, 0⟩ ⟨p.a, p.b, 0⟩ w
        have hji : ¬ (j : Int) = i := hi
        clear hi Hf
        have M0 : Hid (Mod (fun _ => False) w2 w2.drew) := (Mod.refl _ w2).drew
        have HSO : Hid (∀ W (q : Tr), Mod (fun _ => False) w2 W → Calls Try.prog 67 #[.agg #[.int .i64 q.a, .int .i64 q.b, .int .i64 q.c]] W fun e w' => e = .returned (.agg #[.int .i64 q.a, .int .i64 q.b, .int .i64 0]) ∧ Mod (fun _ => False) w2 w') := fun W q hW => (slotOf_ok W q).mono (fun e w' h => ⟨h.1, hW.trans h.2 (fun _ _ h => h)⟩)
        generalize hbb : slB s p = bb at *
        have Hbb := Lib.hid hbb
        clear hbb
        rcases bb with _ | _
        · go_wp2_with fail
          clear hw2 s0 s1 s2
          go_region_held3 (fun w' => w'.cell? ⟨wr.heap.size, 0, none⟩ = some (.int .i64 s.a) ∧ w'.cell? ⟨wr.heap.size, 1, none⟩ = some (.int .i64 s.b) ∧ w'.cell? ⟨wr.heap.size, 2, none⟩ = some (.int .i64 s.c) ∧ w'.cell? ⟨w.heap.size + 1, 0, none⟩ = some (.int .i64 p.a) ∧ w'.cell? ⟨w.heap.size + 1, 1, none⟩ = some (.int .i64 p.b) ∧ w'.cell? ⟨w.heap.size + 1, 2, none⟩ = some (.int .i64 p.c)) (first | (refine ⟨(HS2.out.keep M0.out).cells.1, (HS2.out.keep M0.out).cells.2.1, (HS2.out.keep M0.out).cells.2.2, (HR2.out.keep M0.out).cells⟩; done) | (refine ⟨(HS2.out.keep hm3).cells.1, (HS2.out.keep hm3).cells.2.1, (HS2.out.keep hm3).cells.2.2, (HR2.out.keep hm3).cells⟩; done) | (refine ⟨(HS2.out.keep hm4).cells.1, (HS2.out.keep hm4).cells.2.1, (HS2.out.keep hm4).cells.2.2, (HR2.out.keep hm4).cells⟩; done)) (first | (go_at_call 67; refine (HSO.out _ s (by first | exact hm3 | exact M0.out)).mono ?_; rintro e w4 ⟨rfl, hm4⟩) | (go_at_call 67; refine (HSO.out _ p (by first | exact hm4 | exact M0.out)).mono ?_; rintro e w3 ⟨rfl, hm3⟩))
          all_goals
            have Hm4 := Lib.hid (HM2.out.trans hm4 (fun _ _ h => h))
            have Hm3 := Lib.hid (HM2.out.trans hm3 (fun _ _ h => h))
            clear hm3 hm4
            go_wp2
            go_roundw
            case rel => exact ⟨j + 1, by omega, by go_num, fun q hq => (by rcases Nat.lt_succ_iff_lt_or_eq.1 hq with h | h; exact Hno.out q h; rw [h]; exact Hf2.out), by first | exact Hm4.out | exact Hm3.out⟩
            case measure => simp [intOf]; omega
        · go_wp2_with fail
          clear hw2 s0 s1 s2
          go_region_held3 (fun w' => w'.cell? ⟨wr.heap.size, 0, none⟩ = some (.int .i64 s.a) ∧ w'.cell? ⟨wr.heap.size, 1, none⟩ = some (.int .i64 s.b) ∧ w'.cell? ⟨wr.heap.size, 2, none⟩ = some (.int .i64 s.c) ∧ w'.cell? ⟨w.heap.size + 1, 0, none⟩ = some (.int .i64 p.a) ∧ w'.cell? ⟨w.heap.size + 1, 1, none⟩ = some (.int .i64 p.b) ∧ w'.cell? ⟨w.heap.size + 1, 2, none⟩ = some (.int .i64 p.c)) (first | (refine ⟨(HS2.out.keep M0.out).cells.1, (HS2.out.keep M0.out).cells.2.1, (HS2.out.keep M0.out).cells.2.2, (HR2.out.keep M0.out).cells⟩; done) | (refine ⟨(HS2.out.keep hm3).cells.1, (HS2.out.keep hm3).cells.2.1, (HS2.out.keep hm3).cells.2.2, (HR2.out.keep hm3).cells⟩; done) | (refine ⟨(HS2.out.keep hm4).cells.1, (HS2.out.keep hm4).cells.2.1, (HS2.out.keep hm4).cells.2.2, (HR2.out.keep hm4).cells⟩; done)) (first | (go_at_call 67; refine (HSO.out _ s (by first | exact hm3 | exact M0.out)).mono ?_; rintro e w4 ⟨rfl, hm4⟩) | (go_at_call 67; refine (HSO.out _ p (by first | exact hm4 | exact M0.out)).mono ?_; rintro e w3 ⟨rfl, hm3⟩))
          all_goals
            have Hm4 := Lib.hid (HM2.out.trans hm4 (fun _ _ h => h))
            have Hm3 := Lib.hid (HM2.out.trans hm3 (fun _ _ h => h))
            clear hm3 hm4
            go_wp2
            go_ret
            exact ⟨by
              have e : takB x.t.pg i p = true := by unfold takB; rw [allN_no (i := j) (by rw [Hsl.out]; exact hlt) (by rw [Hf2.out]; rfl)]; rfl
              rw [e]; first | done | rfl, by first | exact HM.out.trans Hm4.out (fun _ _ h => h) | exact HM.out.trans Hm3.out (fun _ _ h => h)⟩
    · obtain rfl : j = x.n := by omega
      go_wp2
      go_ret
      exact ⟨by
        have e : takB x.t.pg i p = false := by unfold takB; rw [allN_iff.2 (fun q hq => by rw [Hno.out q (by rw [← Hsl.out]; exact hq)]; rfl)]; rfl
        rw [e]; first | done | rfl, HM.out.trans Hmr.out (fun _ _ h => h)⟩
end Go.Proofs.Ythbcgbbcoanbdaa
