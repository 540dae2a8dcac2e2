/-
  Package cost: Victim, greatest.
-/
import Derived.Test.YthbcgbbcoanbdaaCGain
import Derived.StillTailTactics
namespace Go.Proofs.Ythbcgbbcoanbdaa
open Go Go.RowKit

/-- A fraction in a box. -/
def FBx (W : World) (b : Nat) (n d : Int) : Prop := W.heap[b]? = some (.cells #[.int .i64 n, .int .i64 d] 59 (0, 0))
section
variable {w w' : World} {b : Nat} {n d : Int}
theorem FBx.cells (h : FBx w b n d) : w.cell? ⟨b, 0, none⟩ = some (.int .i64 n) ∧ w.cell? ⟨b, 1, none⟩ = some (.int .i64 d) :=
  ⟨by rw [cell_of_row _ _ _ _ _ _ h]; rfl, by rw [cell_of_row _ _ _ _ _ _ h]; rfl⟩
theorem FBx.lt (h : FBx w b n d) : b < w.heap.size := (Array.getElem?_eq_some_iff.1 h).1
theorem FBx.keep (h : FBx w b n d) (hm : Mod (fun _ => False) w w') : FBx w' b n d := (hm.block b h.lt id).trans h
theorem FBx.frozen (h : FBx w b n d) (j : Nat) : w.frozen? ⟨b, j, none⟩ = false := frozen_of_block h j
end
/-- The greatest gain so far, in a box of the call's own. -/
structure Mst (w W : World) (b : Nat) (n d : Int) : Prop where
  bx : FBx W b n d
  old : Mod (fun _ => False) w W
  lo : w.heap.size ≤ b
section
variable {w W W' : World} {b : Nat} {n d : Int}
theorem Mst.keep (h : Mst w W b n d) (hm : Mod (fun _ => False) W W') : Mst w W' b n d := ⟨h.bx.keep hm, h.old.trans hm (fun _ _ h => h), h.lo⟩
theorem Mst.set (h : Mst w W b n d) (n' d' : Int) : Mst w ((W.setCell ⟨b, 0, none⟩ (.int .i64 n')).setCell ⟨b, 1, none⟩ (.int .i64 d')) b n' d' :=
  ⟨heap_set (heap_set h.bx 0 _) 1 _, (((h.old.mono (G := fun k => k = b) (fun _ _ h => h.elim)).one (fun _ => rfl) 0 _).one (fun _ => rfl) 1 _).mono (fun k hk e => by have := h.lo; omega), h.lo⟩
end

set_option maxRecDepth 100000 in
set_option maxHeartbeats 1600000 in
theorem exceeds_ok (w : World) (a b c d : Int) (ha : 0 ≤ a ∧ a ≤ 17592186044432) (hb : 0 ≤ b ∧ b ≤ 32) (hc : 0 ≤ c ∧ c ≤ 17592186044432) (hd : 0 ≤ d ∧ d ≤ 32) :
    Calls Try.prog 39 #[.agg #[.int .i64 a, .int .i64 b], .agg #[.int .i64 c, .int .i64 d]] w fun e w' => e = .returned (.bool (decide (c * b < a * d))) ∧ Mod (fun _ => False) w w' := by
  have h1 := wrap_mul ha hd
  have h2 := wrap_mul hc hb
  have HM : Hid (Mod (fun _ => False) w ((w.alloc (.cells #[.int .i64 a, .int .i64 b] 59)).alloc (.cells #[.int .i64 c, .int .i64 d] 59))) := ((Mod.refl _ w).alloc _).alloc _
  clear ha hb hc hd
  go_enter Try.func39, Try.ntmps39
  go_wp2
  go_ret
  exact ⟨rfl, HM.out⟩

set_option maxRecDepth 100000 in
set_option maxHeartbeats 6400000 in
theorem greatest_ok (w : World) (x : TV) (h : x.At w) (hn : x.n ≤ 1000) (hm : x.m ≤ 1000) :
    Calls Try.prog 38 #[.agg #[.slice x.P x.n x.c, .slice x.S x.m x.d, .int .i64 x.t.sl, .int .i64 x.t.nw], .func (.func 39) #[] #[]] w fun e w' => e = .returned (.tuple #[.int .i64 (vcT x.t).v, .bool (vcT x.t).f]) ∧ Mod (fun _ => False) w w' := by
  obtain ⟨w1, hw1⟩ : ∃ w1, w.alloc (.cells #[.slice x.P x.n x.c, .slice x.S x.m x.d, .int .i64 x.t.sl, .int .i64 x.t.nw] 27) = w1 := ⟨_, rfl⟩
  have hm1 : Mod (fun _ => False) w w1 := by rw [← hw1]; exact (Mod.refl _ w).alloc _
  have hbx : TBx w1 w.heap.size x := by rw [← hw1]; exact TBx.new w x
  obtain ⟨c0, c1, c2, c3⟩ := hbx.cells
  have HM := Lib.hid hm1
  have HB := Lib.hid hbx
  have HX := Lib.hid (h.keep hm1)
  have Hsl : Hid (x.t.sg.length = x.m) := h.sg.len
  have HT : Hid (vcT x.t = vc x.t x.m) := by unfold vcT; rw [Hsl.out]; exact Lib.hid rfl
  rw [HT.out]
  have HG0 : Hid (∀ (g : Int) (V : World), x.At V → Calls Try.prog 16 #[.agg #[.slice x.P x.n x.c, .slice x.S x.m x.d, .int .i64 x.t.sl, .int .i64 x.t.nw], .int .i64 g] V fun e w' => e = .returned (.tuple #[.int .i64 (gaN x.t g), .int .i64 (gaD x.t g), .bool (gnB x.t g)]) ∧ Mod (fun _ => False) V w') := fun g V hV => gain_ok V x hV hn hm g
  obtain ⟨wa, hwa⟩ : ∃ wa, w1.alloc (.cells #[.int .i64 0, .int .i64 0] 59) = wa := ⟨_, rfl⟩
  have hma : Mod (fun _ => False) w1 wa := by rw [← hwa]; exact (Mod.refl _ w1).alloc _
  obtain ⟨d0, d1, d2, d3⟩ := (hbx.keep hma).cells
  have HM1 : Hid (Mst w1 wa w1.heap.size 0 0) := by rw [← hwa]; exact ⟨heap_alloc_new w1 _, (Mod.refl _ w1).alloc _, Nat.le_refl _⟩
  clear hbx hm1 hma h HT
  go_enter Try.func38, Try.ntmps38
  go_wp2
  clear hw1 hwa d0 d1 d2 d3
  go_loopw [6, 7, 17] (fun v f i wr => ∃ j : Nat, j ≤ x.m ∧ i = .int .i64 j ∧ v = .int .i64 (vc x.t j).v ∧ f = .bool (vc x.t j).f ∧ Mst w1 wr w1.heap.size (vc x.t j).n (vc x.t j).d) (fun _ _ i _ => x.m - (intOf i).toNat)
  case atStart => exact ⟨0, Nat.zero_le _, rfl, rfl, rfl, HM1.out⟩
  clear c0 c1 c2 c3
  case round =>
    obtain ⟨j, hj, rfl, rfl, rfl, hst⟩ := hrel
    have HMst := Lib.hid hst
    have HXr := Lib.hid (HX.out.keep hst.old)
    obtain ⟨c0, c1, c2, c3⟩ := (HB.out.keep hst.old).cells
    clear hst HM1
    by_cases hlt : j < x.m
    · have hji : (j : Int) < (x.m : Int) := by omega
      have HF := Lib.hid (found x.t j)
      have hN := gaN_in x.t j
      have hD := gaD_in x.t j
      have Hy := Lib.hid (vc_yes (t := x.t) (j := j))
      have Hn := Lib.hid (vc_no (t := x.t) (j := j))
      have hB : vcB x.t j (vc x.t j) = (gnB x.t j && (!(vc x.t j).f || decide ((vc x.t j).n * gaD x.t j < gaN x.t j * (vc x.t j).d))) := rfl
      have HBv := Lib.hid hB
      have HG := Lib.hid (HG0.out (j : Int))
      have HE := Lib.hid (fun V => exceeds_ok V (gaN x.t j) (gaD x.t j) (vc x.t j).n (vc x.t j).d hN hD HF.out.n HF.out.d)
      clear HF hN hD hB
      generalize vcB x.t j (vc x.t j) = vb at *
      generalize hvc : vc x.t (j + 1) = s' at *
      have HVC := Lib.hid hvc
      clear hvc
      generalize vc x.t j = s at *
      generalize gaN x.t j = N at *
      generalize gaD x.t j = Dn at *
      generalize hg : gnB x.t j = G at *
      clear hg
      obtain ⟨sv, sf, sn, sd⟩ := s
      simp only at HBv HE HMst Hn
      cases G with
      | false =>
        have hs' := Hn.out (by rw [HBv.out]; rfl)
        subst hs'
        clear HE Hy Hn HBv
        go_wp2_with fail
        refine (HG.out _ HXr.out).mono ?_
        rintro e w2 ⟨rfl, hm2⟩
        have hM2 := HMst.out.keep (hm2.alloc (.cells #[.int .i64 N, .int .i64 Dn] 59))
        have HM2 := Lib.hid hM2
        clear hm2 hM2 c0 c1 c2 c3 HG
        go_wp2
        go_roundw
        case rel => exact ⟨j + 1, by omega, by go_num, by rw [HVC.out], by rw [HVC.out], by rw [HVC.out]; exact HM2.out⟩
        case measure => simp [intOf]; omega
      | true =>
      cases sf with
      | false =>
        have hs' := Hy.out (by rw [HBv.out]; rfl)
        subst hs'
        clear HE Hy Hn HBv
        go_wp2_with fail
        refine (HG.out _ HXr.out).mono ?_
        rintro e w2 ⟨rfl, hm2⟩
        have hM2 := HMst.out.keep (hm2.alloc (.cells #[.int .i64 N, .int .i64 Dn] 59))
        have hbx2 : FBx (w2.alloc (.cells #[.int .i64 N, .int .i64 Dn] 59)) w2.heap.size N Dn := heap_alloc_new w2 _
        have hne : w2.heap.size ≠ w1.heap.size := by have := (HMst.out.keep hm2).bx.lt; omega
        have HMf := Lib.hid ((hM2.set N Dn).keep ((Mod.refl (fun _ => False) _).drew))
        obtain ⟨v2, hv2⟩ : ∃ v2, w2.alloc (.cells #[.int .i64 N, .int .i64 Dn] 59) = v2 := ⟨_, rfl⟩
        rw [hv2] at hM2 hbx2 HMf
        obtain ⟨m0, m1⟩ := hM2.bx.cells
        have mf0 := hM2.bx.frozen 0
        have mf1 := hM2.bx.frozen 1
        obtain ⟨g0, g1⟩ := hbx2.cells
        clear hm2 hM2 hbx2 c0 c1 c2 c3 HG
        go_wp2_with fail
        go_region
        all_goals
          go_wp2
          go_roundw
          case rel => exact ⟨j + 1, by omega, by go_num, by rw [HVC.out], by rw [HVC.out], by rw [HVC.out]; exact HMf.out⟩
          case measure => simp [intOf]; omega
      | true =>
      cases hdc : decide (sn * Dn < N * sd) with
      | false =>
        have hs' := Hn.out (by rw [HBv.out, hdc]; rfl)
        subst hs'
        rw [hdc] at HE
        clear Hy Hn HBv hdc
        go_wp2_with fail
        refine (HG.out _ HXr.out).mono ?_
        rintro e w2 ⟨rfl, hm2⟩
        have hM2 := HMst.out.keep (hm2.alloc (.cells #[.int .i64 N, .int .i64 Dn] 59))
        have hbx2 : FBx (w2.alloc (.cells #[.int .i64 N, .int .i64 Dn] 59)) w2.heap.size N Dn := heap_alloc_new w2 _
        obtain ⟨v2, hv2⟩ : ∃ v2, w2.alloc (.cells #[.int .i64 N, .int .i64 Dn] 59) = v2 := ⟨_, rfl⟩
        rw [hv2] at hM2 hbx2
        have HM2 := Lib.hid hM2
        obtain ⟨m0, m1⟩ := hM2.bx.cells
        obtain ⟨g0, g1⟩ := hbx2.cells
        clear hm2 hM2 hbx2 c0 c1 c2 c3 HG
        go_wp2_with fail
        clear hv2
        refine (HE.out _).mono ?_
        rintro e w3 ⟨rfl, hm3⟩
        have HM3 := Lib.hid (HM2.out.keep hm3)
        clear hm3 m0 m1 g0 g1
        go_wp2
        go_roundw
        case rel => exact ⟨j + 1, by omega, by go_num, by rw [HVC.out], by rw [HVC.out], by rw [HVC.out]; exact HM3.out⟩
        case measure => simp [intOf]; omega
      | true =>
        have hs' := Hy.out (by rw [HBv.out, hdc]; rfl)
        subst hs'
        rw [hdc] at HE
        clear Hy Hn HBv hdc
        go_wp2_with fail
        refine (HG.out _ HXr.out).mono ?_
        rintro e w2 ⟨rfl, hm2⟩
        have hM2 := HMst.out.keep (hm2.alloc (.cells #[.int .i64 N, .int .i64 Dn] 59))
        have hbx2 : FBx (w2.alloc (.cells #[.int .i64 N, .int .i64 Dn] 59)) w2.heap.size N Dn := heap_alloc_new w2 _
        have hne : w2.heap.size ≠ w1.heap.size := by have := (HMst.out.keep hm2).bx.lt; omega
        obtain ⟨v2, hv2⟩ : ∃ v2, w2.alloc (.cells #[.int .i64 N, .int .i64 Dn] 59) = v2 := ⟨_, rfl⟩
        rw [hv2] at hM2 hbx2
        have HM2 := Lib.hid hM2
        have HBX2 := Lib.hid hbx2
        obtain ⟨m0, m1⟩ := hM2.bx.cells
        obtain ⟨g0, g1⟩ := hbx2.cells
        clear hm2 hM2 hbx2 c0 c1 c2 c3 HG
        go_wp2_with fail
        clear hv2
        refine (HE.out _).mono ?_
        rintro e w3 ⟨rfl, hm3⟩
        have hM3 := HM2.out.keep hm3
        have HMf := Lib.hid ((hM3.set N Dn).keep ((Mod.refl (fun _ => False) _).drew))
        clear m0 m1 g0 g1
        obtain ⟨m0, m1⟩ := hM3.bx.cells
        have mf0 := hM3.bx.frozen 0
        have mf1 := hM3.bx.frozen 1
        obtain ⟨g0, g1⟩ := (HBX2.out.keep hm3).cells
        clear hm3 hM3
        go_wp2_with fail
        go_region
        all_goals
          go_wp2
          go_roundw
          case rel => exact ⟨j + 1, by omega, by go_num, by rw [HVC.out], by rw [HVC.out], by rw [HVC.out]; exact HMf.out⟩
          case measure => simp [intOf]; omega
    · obtain rfl : j = x.m := by omega
      go_wp2
      refine bodyPost_ret (v := .tuple #[.int .i64 (vc x.t x.m).v, .bool (vc x.t x.m).f]) (by simp [results, Try.results38, go_sem]) rfl ?_
      exact ⟨rfl, HM.out.trans HMst.out.old (fun _ _ h => h)⟩

set_option maxRecDepth 100000 in
set_option maxHeartbeats 1600000 in
theorem victim_ok (w : World) (x : TV) (h : x.At w) (hn : x.n ≤ 1000) (hm : x.m ≤ 1000) :
    Calls Try.prog 18 #[.agg #[.slice x.P x.n x.c, .slice x.S x.m x.d, .int .i64 x.t.sl, .int .i64 x.t.nw]] w fun e w' => e = .returned (.tuple #[.int .i64 (vcT x.t).v, .bool (vcT x.t).f]) ∧ Mod (fun _ => False) w w' := by
  obtain ⟨w1, hw1⟩ : ∃ w1, w.alloc (.cells #[.slice x.P x.n x.c, .slice x.S x.m x.d, .int .i64 x.t.sl, .int .i64 x.t.nw] 27) = w1 := ⟨_, rfl⟩
  have hm1 : Mod (fun _ => False) w w1 := by rw [← hw1]; exact (Mod.refl _ w).alloc _
  have hbx : TBx w1 w.heap.size x := by rw [← hw1]; exact TBx.new w x
  obtain ⟨c0, c1, c2, c3⟩ := hbx.cells
  have HM := Lib.hid hm1
  have HB := Lib.hid hbx
  have HX := Lib.hid (h.keep hm1)
  have Hm := Lib.hid (tmay_ok w1 x HX.out hn hm)
  clear hbx hm1 h
  cases hy : mayB x.t with
  | false =>
    have h0 : vcT x.t = ⟨0, false, 0, 0⟩ := vc_nomay hy _
    rw [h0]
    rw [hy] at Hm
    clear hy h0
    go_enter Try.func18, Try.ntmps18
    go_wp2_with fail
    refine Hm.out.mono ?_
    rintro e w2 ⟨rfl, hm2⟩
    have HM2 := Lib.hid (HM.out.trans hm2 (fun _ _ h => h))
    clear hm2
    go_wp2
    refine bodyPost_ret (v := .tuple #[.int .i64 0, .bool false]) (by simp [results, Try.results18, go_sem]) rfl ?_
    exact ⟨rfl, HM2.out⟩
  | true =>
    rw [hy] at Hm
    clear hy
    go_enter Try.func18, Try.ntmps18
    go_wp2_with fail
    refine Hm.out.mono ?_
    rintro e w2 ⟨rfl, hm2⟩
    have HM2 := Lib.hid (HM.out.trans hm2 (fun _ _ h => h))
    have HX2 := Lib.hid (HX.out.keep hm2)
    have hB2 := HB.out.keep hm2
    clear hw1 c0 c1 c2 c3 hm2
    obtain ⟨c0, c1, c2, c3⟩ := hB2.cells
    clear hB2
    go_wp2_with fail
    refine (greatest_ok w2 x HX2.out hn hm).mono ?_
    rintro e w3 ⟨rfl, hm3⟩
    have HM3 := Lib.hid (HM2.out.trans hm3 (fun _ _ h => h))
    clear hm3 c0 c1 c2 c3
    go_wp2
    refine bodyPost_ret (v := .tuple #[.int .i64 (vcT x.t).v, .bool (vcT x.t).f]) (by simp [results, Try.results18, go_sem]) rfl ?_
    exact ⟨rfl, HM3.out⟩
end Go.Proofs.Ythbcgbbcoanbdaa
