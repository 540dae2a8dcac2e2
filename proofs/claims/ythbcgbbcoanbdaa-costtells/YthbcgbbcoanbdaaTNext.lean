/-
  Package table: Next, Live, Frees.
-/
import Derived.Test.YthbcgbbcoanbdaaTMay
namespace Go.Proofs.Ythbcgbbcoanbdaa
open Go Go.RowKit

/-- The segment, the slot for the next image, and the error. -/
def nxE (t : Tb) : Int := if mayB t = true then (if 0 < cnt (stF 1 t) t.sg.length then 0 else if 0 < cnt (stF 0 t) t.sg.length then 0 else 4) else 1
def nxG (t : Tb) : Nat := if mayB t = true then (if 0 < cnt (stF 1 t) t.sg.length then fstI (stF 1 t) t.sg.length else if 0 < cnt (stF 0 t) t.sg.length then fstI (stF 0 t) t.sg.length else 0) else 0
def nxU (t : Tb) : Int := if nxE t = 0 then (atS t.sg (nxG t)).b else 0
/-- The live images of a segment, the free segments. -/
def liveI (t : Tb) (seg : Int) : Int := if mayB t = true ∧ inB seg 0 ((t.sg.length : Int) - 1) = true then ((cnt (lvF seg t) t.pg.length : Nat) : Int) else 0
def freesI (t : Tb) : Int := if mayB t = true then ((cnt (stF 0 t) t.sg.length : Nat) : Int) else 0

theorem own_fst {w : World} {base : Nat} {A : Option Addr} {c n : Nat} {f : Nat → Bool} (h : OwV w base 3 A (cnt f n) c (ixV (ixs f n))) (hp : 0 < cnt f n) : ∃ g, A = some ⟨g, 0, none⟩ ∧ w.cell? ⟨g, 0, none⟩ = some (.int .i64 ((fstI f n : Nat) : Int)) := by
  obtain ⟨g, hA, hc⟩ := h.cells hp
  refine ⟨g, hA, (hc 0 hp).trans ?_⟩
  rw [cnt] at hp
  unfold fstI ixV
  cases hl : ixs f n with
  | nil => rw [hl] at hp; simp at hp
  | cons x r => rfl

/-- inState, from whatever world on that has come from w1. -/
def InStC (w1 : World) (st : Int) : Prop := ∀ W, Mod (fun _ => False) w1 W → Calls Try.prog 49 #[.int .i64 st] W fun e w' => ∃ g, e = .returned (.func (.func 64) #[] #[.pointer (some ⟨g, 0, none⟩)]) ∧ (∀ W', Mod (fun _ => False) w' W' → W'.cell? ⟨g, 0, none⟩ = some (.int .i64 st)) ∧ Mod (fun _ => False) w1 w'
theorem inStC (w1 : World) (st : Int) : InStC w1 st := fun W hW => by
  refine (inState_ok W st).mono ?_
  rintro e w' ⟨rfl, rfl⟩
  refine ⟨W.heap.size, rfl, fun W' hW' => ?_, hW.alloc _⟩
  exact (World.cell?_of_block (hW'.block _ (by simp) id)).trans (cell_one_new W (.int .i64 st) _ 0 _ rfl)
/-- find, likewise: how many, and the first one. -/
def FdC (w1 : World) (x : TV) (st : Int) (q i : Nat) : Prop := ∀ W g, Mod (fun _ => False) w1 W → (∀ W', Mod (fun _ => False) W W' → W'.cell? ⟨g, 0, none⟩ = some (.int .i64 st)) → Calls Try.prog 48 #[.agg #[.slice x.P x.n x.c, .slice x.S x.m x.d, .int .i64 x.t.sl, .int .i64 x.t.nw], .func (.func 64) #[] #[.pointer (some ⟨g, 0, none⟩)]] W fun e w' =>
  ∃ A c, e = .returned (.slice A q c) ∧ (0 < q → ∃ g', A = some ⟨g', 0, none⟩ ∧ ∀ W', Mod (fun _ => False) w' W' → W'.cell? ⟨g', 0, none⟩ = some (.int .i64 ((i : Nat) : Int))) ∧ Mod (fun _ => False) w1 w'
theorem fdC (w1 : World) (x : TV) (h : x.At w1) (hm : x.m ≤ 1000) (st : Int) : FdC w1 x st (cnt (stF st x.t) x.m) (fstI (stF st x.t) x.m) := fun W g hW hg => by
  refine (findSt_ok W x (h.keep hW) hm g st (hg W (Mod.refl _ _))).mono ?_
  rintro e w' ⟨A, c, rfl, hO, hm'⟩
  refine ⟨A, c, rfl, fun hp => ?_, hW.trans hm' (fun _ _ h => h)⟩
  obtain ⟨g', hA, hc⟩ := own_fst hO hp
  exact ⟨g', hA, fun W' hW' => (World.cell?_of_block (hW'.block g' (World.block_lt_of_cell? _ _ hc) id)).trans hc⟩

set_option maxRecDepth 100000 in
set_option maxHeartbeats 3200000 in
theorem frees_ok (w : World) (x : TV) (h : x.At w) (hn : x.n ≤ 1000) (hm : x.m ≤ 1000) :
    Calls Try.prog 24 #[.agg #[.slice x.P x.n x.c, .slice x.S x.m x.d, .int .i64 x.t.sl, .int .i64 x.t.nw]] w fun e w' => e = .returned (.int .i64 (freesI x.t)) ∧ Mod (fun _ => False) w w' := by
  obtain ⟨w1, hw1⟩ : ∃ w1, w.alloc (.cells #[.slice x.P x.n x.c, .slice x.S x.m x.d, .int .i64 x.t.sl, .int .i64 x.t.nw] 27) = w1 := ⟨_, rfl⟩
  have hm1 : Mod (fun _ => False) w w1 := by rw [← hw1]; exact (Mod.refl _ w).alloc _
  have hbx : TBx w1 w.heap.size x := by rw [← hw1]; exact TBx.new w x
  obtain ⟨c0, c1, c2, c3⟩ := hbx.cells
  have HB := Lib.hid hbx
  have HM := Lib.hid hm1
  have HX := Lib.hid (h.keep hm1)
  have Hm := Lib.hid (tmay_ok w1 x HX.out hn hm)
  have Hsl : Hid (x.t.sg.length = x.m) := h.sg.len
  clear hbx hm1 h
  unfold freesI
  rw [Hsl.out]
  by_cases hy : mayB x.t = true
  rotate_left
  · rw [if_neg hy]
    rw [show mayB x.t = false by simpa using hy] at Hm
    clear hy
    go_enter Try.func24, Try.ntmps24
    go_wp2_with fail
    refine Hm.out.mono ?_
    rintro e w2 ⟨rfl, hm2⟩
    have HM2 := Lib.hid (HM.out.trans hm2 (fun _ _ h => h))
    clear hm2
    go_wp2
    go_ret
    exact ⟨rfl, HM2.out⟩
  rw [if_pos hy]
  rw [hy] at Hm
  have HI0 := Lib.hid (inStC w1 0)
  have HF0 := Lib.hid (fdC w1 x HX.out hm 0)
  have hcb := cnt_le (stF 0 x.t) x.m
  generalize cnt (stF 0 x.t) x.m = q at *
  generalize fstI (stF 0 x.t) x.m = q1 at *
  clear hy
  go_enter Try.func24, Try.ntmps24
  go_wp2_with fail
  refine Hm.out.mono ?_
  rintro e w2 ⟨rfl, hm2⟩
  have M1 := Lib.hid hm2
  clear hm2 c0 c1 c2 c3 hw1 Hm
  go_wp2_with fail
  have M1d : Hid (Mod (fun _ => False) w1 w2.drew) := M1.out.drew
  go_region_held3 (fun w' => w'.cell? ⟨w.heap.size, 0, none⟩ = some (.slice x.P x.n x.c) ∧ w'.cell? ⟨w.heap.size, 1, none⟩ = some (.slice x.S x.m x.d) ∧ w'.cell? ⟨w.heap.size, 2, none⟩ = some (.int .i64 x.t.sl) ∧ w'.cell? ⟨w.heap.size, 3, none⟩ = some (.int .i64 x.t.nw)) (first | exact (HB.out.keep M1d.out).cells | exact (HB.out.keep hmA1).cells | exact (HB.out.keep hmB1).cells) (first | (go_at_call 49; refine (HI0.out _ M1d.out).mono ?_; rintro e wA1 ⟨gA1, rfl, hgA1, hmA1⟩) | (go_at_call 48; refine (HF0.out _ _ hmA1 (by first | exact hgA1 | exact fun W' hW' => hgA1 W' (((Mod.refl _ _).drew).trans hW' (fun _ _ h => h)))).mono ?_; rintro e wB1 ⟨AB1, cB1, rfl, hfB1, hmB1⟩))
  all_goals
    have HM2 := Lib.hid (HM.out.trans hmB1 (fun _ _ h => h))
    clear hmA1 hmB1 hgA1 hfB1
    go_wp2
    go_ret
    exact ⟨rfl, HM2.out⟩

set_option maxRecDepth 100000 in
set_option maxHeartbeats 6400000 in
theorem next_ok (w : World) (x : TV) (h : x.At w) (hn : x.n ≤ 1000) (hm : x.m ≤ 1000) :
    Calls Try.prog 45 #[.agg #[.slice x.P x.n x.c, .slice x.S x.m x.d, .int .i64 x.t.sl, .int .i64 x.t.nw]] w fun e w' => e = .returned (.tuple #[.int .i64 ((nxG x.t : Nat) : Int), .int .i64 (nxU x.t), .int .i64 (nxE x.t)]) ∧ Mod (fun _ => False) w w' := by
  obtain ⟨w1, hw1⟩ : ∃ w1, w.alloc (.cells #[.slice x.P x.n x.c, .slice x.S x.m x.d, .int .i64 x.t.sl, .int .i64 x.t.nw] 27) = w1 := ⟨_, rfl⟩
  have hm1 : Mod (fun _ => False) w w1 := by rw [← hw1]; exact (Mod.refl _ w).alloc _
  have hbx : TBx w1 w.heap.size x := by rw [← hw1]; exact TBx.new w x
  obtain ⟨c0, c1, c2, c3⟩ := hbx.cells
  have HB := Lib.hid hbx
  have HM := Lib.hid hm1
  have HX := Lib.hid (h.keep hm1)
  have Hm := Lib.hid (tmay_ok w1 x HX.out hn hm)
  have Hsl : Hid (x.t.sg.length = x.m) := h.sg.len
  clear hbx hm1 h
  unfold nxU
  have hgE : nxE x.t = if mayB x.t = true then (if 0 < cnt (stF 1 x.t) x.m then 0 else if 0 < cnt (stF 0 x.t) x.m then 0 else 4) else 1 := by unfold nxE; rw [Hsl.out]
  have hgG : nxG x.t = if mayB x.t = true then (if 0 < cnt (stF 1 x.t) x.m then fstI (stF 1 x.t) x.m else if 0 < cnt (stF 0 x.t) x.m then fstI (stF 0 x.t) x.m else 0) else 0 := by unfold nxG; rw [Hsl.out]
  have HgE := Lib.hid hgE
  have HgG := Lib.hid hgG
  clear hgE hgG
  by_cases hy : mayB x.t = true
  rotate_left
  · rw [HgE.out, HgG.out, if_neg hy, if_neg hy, if_neg (by decide)]
    rw [show mayB x.t = false by simpa using hy] at Hm
    clear hy
    go_enter Try.func45, Try.ntmps45
    go_wp2_with fail
    refine Hm.out.mono ?_
    rintro e w2 ⟨rfl, hm2⟩
    have HM2 := Lib.hid (HM.out.trans hm2 (fun _ _ h => h))
    clear hm2
    go_wp2
    go_ret3
    exact ⟨rfl, HM2.out⟩
  rw [if_pos hy] at HgE HgG
  rw [hy] at Hm
  have HA1 := Lib.hid (fun W (hW : x.At W) => fdC W x hW hm 1)
  have HA0 := Lib.hid (fun W (hW : x.At W) => fdC W x hW hm 0)
  have Hf1 := Lib.hid (fun h => fstI_spec (f := stF 1 x.t) (n := x.m) h)
  have Hf0 := Lib.hid (fun h => fstI_spec (f := stF 0 x.t) (n := x.m) h)
  have hcb1 := cnt_le (stF 1 x.t) x.m
  have hcb0 := cnt_le (stF 0 x.t) x.m
  generalize cnt (stF 1 x.t) x.m = q1 at *
  generalize fstI (stF 1 x.t) x.m = i1 at *
  generalize cnt (stF 0 x.t) x.m = q0 at *
  generalize fstI (stF 0 x.t) x.m = i0 at *
  clear hy
  by_cases hp1 : 0 < q1
  · have hi1 := (Hf1.out hp1).1
    rw [if_pos hp1] at HgE HgG
    rw [HgE.out, HgG.out, if_pos rfl]
    have hd1 : decide ((0 : Int) < (q1 : Int)) = true := by simpa using hp1
    go_enter Try.func45, Try.ntmps45
    go_wp2_with fail
    refine Hm.out.mono ?_
    rintro e w2 ⟨rfl, hm2⟩
    obtain ⟨w3, hw3⟩ : ∃ w3, w2.alloc (.cells #[.int .i64 1, .int .i64 0] 3) = w3 := ⟨_, rfl⟩
    have hm3 : Mod (fun _ => False) w1 w3 := by rw [← hw3]; exact hm2.alloc _
    have hk : ∀ W, Mod (fun _ => False) w3 W → W.cell? ⟨w2.heap.size, 0, none⟩ = some (.int .i64 1) ∧ W.cell? ⟨w2.heap.size, 1, none⟩ = some (.int .i64 0) := fun W hW => by
      rw [← hw3] at hW
      have hb := (hW.block w2.heap.size (by simp) id).trans (heap_alloc_new w2 _)
      exact ⟨by rw [cell_of_row _ _ _ _ _ _ hb]; rfl, by rw [cell_of_row _ _ _ _ _ _ hb]; rfl⟩
    have Hk := Lib.hid hk
    obtain ⟨k0, k1⟩ := hk w3 (Mod.refl _ _)
    have HX3 := Lib.hid (HX.out.keep hm3)
    have HB3 := Lib.hid (HB.out.keep hm3)
    have HM3 := Lib.hid (HM.out.trans hm3 (fun _ _ h => h))
    have HI1 := Lib.hid (inStC w3 1)
    have HF1 := Lib.hid (HA1.out w3 HX3.out)
    have HI0 := Lib.hid (inStC w3 0)
    have HF0 := Lib.hid (HA0.out w3 HX3.out)
    have M1 : Hid (Mod (fun _ => False) w3 w3) := Mod.refl _ w3
    clear hm2 hm3 c0 c1 c2 c3 hw1 Hm hk HX HB HM HA1 HA0
    go_wp2
    refine wp_loop_rounds 3 ?_
    rw [rounds_succ]
    go_wp2_with fail
    clear hw3 k0 k1
    have M1d : Hid (Mod (fun _ => False) w3 w3.drew) := M1.out.drew
    go_region_held3 (fun w' => w'.cell? ⟨w.heap.size, 0, none⟩ = some (.slice x.P x.n x.c) ∧ w'.cell? ⟨w.heap.size, 1, none⟩ = some (.slice x.S x.m x.d) ∧ w'.cell? ⟨w.heap.size, 2, none⟩ = some (.int .i64 x.t.sl) ∧ w'.cell? ⟨w.heap.size, 3, none⟩ = some (.int .i64 x.t.nw)) (first | exact (HB3.out.keep M1d.out).cells | exact (HB3.out.keep hmA1).cells | exact (HB3.out.keep hmB1).cells) (first | (go_at_call 49; refine (HI1.out _ M1d.out).mono ?_; rintro e wA1 ⟨gA1, rfl, hgA1, hmA1⟩) | (go_at_call 48; refine (HF1.out _ _ hmA1 (by first | exact hgA1 | exact fun W' hW' => hgA1 W' (((Mod.refl _ _).drew).trans hW' (fun _ _ h => h)))).mono ?_; rintro e wB1 ⟨AB1, cB1, rfl, hfB1, hmB1⟩))
    all_goals
      obtain ⟨g2, rfl, hg2⟩ := hfB1 hp1
      have d0 := hg2 _ (Mod.refl _ _)
      have hm4 := HM3.out.trans hmB1 (fun _ _ h => h)
      obtain ⟨b, o, hS, hcs⟩ := (HX3.out.keep hmB1).sg.cells (by omega)
      obtain ⟨e0, e1, e2⟩ := hcs i1 hi1
      have b1 := (HB3.out.keep hmB1).cells.2.1
      rw [hS] at b1
      have HM4 := Lib.hid hm4
      generalize hT : atS x.t.sg i1 = s at *
      have HT := Lib.hid hT
      clear hT hfB1 hmA1 hmB1 hgA1 hg2 hcs hm4
      have hpi : (0 : Int) < (q1 : Int) := by omega
      have hii : (i1 : Int) < (x.m : Int) := by omega
      have hi0' : (0 : Int) ≤ (i1 : Int) := by omega
      go_wp2_with fail
      go_quiet (fail)
      go_wp2
      go_ret3
      exact ⟨by rw [HT.out]; first | done | rfl, HM4.out.drewN _⟩
  rw [if_neg hp1] at HgE HgG
  obtain rfl : q1 = 0 := by omega
  by_cases hp0 : 0 < q0
  · have hi0 := (Hf0.out hp0).1
    rw [if_pos hp0] at HgE HgG
    rw [HgE.out, HgG.out, if_pos rfl]
    have hd1 : decide ((0 : Int) < (q0 : Int)) = true := by simpa using hp0
    go_enter Try.func45, Try.ntmps45
    go_wp2_with fail
    refine Hm.out.mono ?_
    rintro e w2 ⟨rfl, hm2⟩
    obtain ⟨w3, hw3⟩ : ∃ w3, w2.alloc (.cells #[.int .i64 1, .int .i64 0] 3) = w3 := ⟨_, rfl⟩
    have hm3 : Mod (fun _ => False) w1 w3 := by rw [← hw3]; exact hm2.alloc _
    have hk : ∀ W, Mod (fun _ => False) w3 W → W.cell? ⟨w2.heap.size, 0, none⟩ = some (.int .i64 1) ∧ W.cell? ⟨w2.heap.size, 1, none⟩ = some (.int .i64 0) := fun W hW => by
      rw [← hw3] at hW
      have hb := (hW.block w2.heap.size (by simp) id).trans (heap_alloc_new w2 _)
      exact ⟨by rw [cell_of_row _ _ _ _ _ _ hb]; rfl, by rw [cell_of_row _ _ _ _ _ _ hb]; rfl⟩
    have Hk := Lib.hid hk
    obtain ⟨k0, k1⟩ := hk w3 (Mod.refl _ _)
    have HX3 := Lib.hid (HX.out.keep hm3)
    have HB3 := Lib.hid (HB.out.keep hm3)
    have HM3 := Lib.hid (HM.out.trans hm3 (fun _ _ h => h))
    have HI1 := Lib.hid (inStC w3 1)
    have HF1 := Lib.hid (HA1.out w3 HX3.out)
    have HI0 := Lib.hid (inStC w3 0)
    have HF0 := Lib.hid (HA0.out w3 HX3.out)
    have M1 : Hid (Mod (fun _ => False) w3 w3) := Mod.refl _ w3
    clear hm2 hm3 c0 c1 c2 c3 hw1 Hm hk HX HB HM HA1 HA0
    go_wp2
    refine wp_loop_rounds 3 ?_
    rw [rounds_succ]
    go_wp2_with fail
    clear hw3 k0 k1
    have M1d : Hid (Mod (fun _ => False) w3 w3.drew) := M1.out.drew
    go_region_held3 (fun w' => w'.cell? ⟨w.heap.size, 0, none⟩ = some (.slice x.P x.n x.c) ∧ w'.cell? ⟨w.heap.size, 1, none⟩ = some (.slice x.S x.m x.d) ∧ w'.cell? ⟨w.heap.size, 2, none⟩ = some (.int .i64 x.t.sl) ∧ w'.cell? ⟨w.heap.size, 3, none⟩ = some (.int .i64 x.t.nw)) (first | exact (HB3.out.keep M1d.out).cells | exact (HB3.out.keep hmA1).cells | exact (HB3.out.keep hmB1).cells) (first | (go_at_call 49; refine (HI1.out _ M1d.out).mono ?_; rintro e wA1 ⟨gA1, rfl, hgA1, hmA1⟩) | (go_at_call 48; refine (HF1.out _ _ hmA1 (by first | exact hgA1 | exact fun W' hW' => hgA1 W' (((Mod.refl _ _).drew).trans hW' (fun _ _ h => h)))).mono ?_; rintro e wB1 ⟨AB1, cB1, rfl, hfB1, hmB1⟩))
    all_goals
      have M2 := Lib.hid hmB1
      obtain ⟨k0, k1⟩ := Hk.out _ hmB1
      clear hfB1 hmA1 hmB1 hgA1
      go_wp2_with fail
      rw [rounds_succ]
      go_wp2_with fail
      clear k0 k1
      have M2d : Hid (Mod (fun _ => False) w3 wB1.drew) := M2.out.drew
      go_region_held3 (fun w' => w'.cell? ⟨w.heap.size, 0, none⟩ = some (.slice x.P x.n x.c) ∧ w'.cell? ⟨w.heap.size, 1, none⟩ = some (.slice x.S x.m x.d) ∧ w'.cell? ⟨w.heap.size, 2, none⟩ = some (.int .i64 x.t.sl) ∧ w'.cell? ⟨w.heap.size, 3, none⟩ = some (.int .i64 x.t.nw)) (first | exact (HB3.out.keep M2d.out).cells | exact (HB3.out.keep hmA2).cells | exact (HB3.out.keep hmB2).cells) (first | (go_at_call 49; refine (HI0.out _ M2d.out).mono ?_; rintro e wA2 ⟨gA2, rfl, hgA2, hmA2⟩) | (go_at_call 48; refine (HF0.out _ _ hmA2 (by first | exact hgA2 | exact fun W' hW' => hgA2 W' (((Mod.refl _ _).drew).trans hW' (fun _ _ h => h)))).mono ?_; rintro e wB2 ⟨AB2, cB2, rfl, hfB2, hmB2⟩))
      all_goals
        obtain ⟨g2, rfl, hg2⟩ := hfB2 hp0
        have d0 := hg2 _ (Mod.refl _ _)
        have hm4 := HM3.out.trans hmB2 (fun _ _ h => h)
        obtain ⟨b, o, hS, hcs⟩ := (HX3.out.keep hmB2).sg.cells (by omega)
        obtain ⟨e0, e1, e2⟩ := hcs i0 hi0
        have b1 := (HB3.out.keep hmB2).cells.2.1
        rw [hS] at b1
        have HM4 := Lib.hid hm4
        generalize hT : atS x.t.sg i0 = s at *
        have HT := Lib.hid hT
        clear hT hfB2 hmA2 hmB2 hgA2 hg2 hcs hm4
        have hpi : (0 : Int) < (q0 : Int) := by omega
        have hii : (i0 : Int) < (x.m : Int) := by omega
        have hi0' : (0 : Int) ≤ (i0 : Int) := by omega
        go_wp2_with fail
        go_quiet (fail)
        go_wp2
        go_ret3
        exact ⟨by rw [HT.out]; first | done | rfl, HM4.out.drewN _⟩
  · rw [if_neg hp0] at HgE HgG
    rw [HgE.out, HgG.out, if_neg (by decide)]
    obtain rfl : q0 = 0 := by omega
    go_enter Try.func45, Try.ntmps45
    go_wp2_with fail
    refine Hm.out.mono ?_
    rintro e w2 ⟨rfl, hm2⟩
    obtain ⟨w3, hw3⟩ : ∃ w3, w2.alloc (.cells #[.int .i64 1, .int .i64 0] 3) = w3 := ⟨_, rfl⟩
    have hm3 : Mod (fun _ => False) w1 w3 := by rw [← hw3]; exact hm2.alloc _
    have hk : ∀ W, Mod (fun _ => False) w3 W → W.cell? ⟨w2.heap.size, 0, none⟩ = some (.int .i64 1) ∧ W.cell? ⟨w2.heap.size, 1, none⟩ = some (.int .i64 0) := fun W hW => by
      rw [← hw3] at hW
      have hb := (hW.block w2.heap.size (by simp) id).trans (heap_alloc_new w2 _)
      exact ⟨by rw [cell_of_row _ _ _ _ _ _ hb]; rfl, by rw [cell_of_row _ _ _ _ _ _ hb]; rfl⟩
    have Hk := Lib.hid hk
    obtain ⟨k0, k1⟩ := hk w3 (Mod.refl _ _)
    have HX3 := Lib.hid (HX.out.keep hm3)
    have HB3 := Lib.hid (HB.out.keep hm3)
    have HM3 := Lib.hid (HM.out.trans hm3 (fun _ _ h => h))
    have HI1 := Lib.hid (inStC w3 1)
    have HF1 := Lib.hid (HA1.out w3 HX3.out)
    have HI0 := Lib.hid (inStC w3 0)
    have HF0 := Lib.hid (HA0.out w3 HX3.out)
    have M1 : Hid (Mod (fun _ => False) w3 w3) := Mod.refl _ w3
    clear hm2 hm3 c0 c1 c2 c3 hw1 Hm hk HX HB HM HA1 HA0
    go_wp2
    refine wp_loop_rounds 3 ?_
    rw [rounds_succ]
    go_wp2_with fail
    clear hw3 k0 k1
    have M1d : Hid (Mod (fun _ => False) w3 w3.drew) := M1.out.drew
    go_region_held3 (fun w' => w'.cell? ⟨w.heap.size, 0, none⟩ = some (.slice x.P x.n x.c) ∧ w'.cell? ⟨w.heap.size, 1, none⟩ = some (.slice x.S x.m x.d) ∧ w'.cell? ⟨w.heap.size, 2, none⟩ = some (.int .i64 x.t.sl) ∧ w'.cell? ⟨w.heap.size, 3, none⟩ = some (.int .i64 x.t.nw)) (first | exact (HB3.out.keep M1d.out).cells | exact (HB3.out.keep hmA1).cells | exact (HB3.out.keep hmB1).cells) (first | (go_at_call 49; refine (HI1.out _ M1d.out).mono ?_; rintro e wA1 ⟨gA1, rfl, hgA1, hmA1⟩) | (go_at_call 48; refine (HF1.out _ _ hmA1 (by first | exact hgA1 | exact fun W' hW' => hgA1 W' (((Mod.refl _ _).drew).trans hW' (fun _ _ h => h)))).mono ?_; rintro e wB1 ⟨AB1, cB1, rfl, hfB1, hmB1⟩))
    all_goals
      have M2 := Lib.hid hmB1
      obtain ⟨k0, k1⟩ := Hk.out _ hmB1
      clear hfB1 hmA1 hmB1 hgA1
      go_wp2_with fail
      rw [rounds_succ]
      go_wp2_with fail
      clear k0 k1
      have M2d : Hid (Mod (fun _ => False) w3 wB1.drew) := M2.out.drew
      go_region_held3 (fun w' => w'.cell? ⟨w.heap.size, 0, none⟩ = some (.slice x.P x.n x.c) ∧ w'.cell? ⟨w.heap.size, 1, none⟩ = some (.slice x.S x.m x.d) ∧ w'.cell? ⟨w.heap.size, 2, none⟩ = some (.int .i64 x.t.sl) ∧ w'.cell? ⟨w.heap.size, 3, none⟩ = some (.int .i64 x.t.nw)) (first | exact (HB3.out.keep M2d.out).cells | exact (HB3.out.keep hmA2).cells | exact (HB3.out.keep hmB2).cells) (first | (go_at_call 49; refine (HI0.out _ M2d.out).mono ?_; rintro e wA2 ⟨gA2, rfl, hgA2, hmA2⟩) | (go_at_call 48; refine (HF0.out _ _ hmA2 (by first | exact hgA2 | exact fun W' hW' => hgA2 W' (((Mod.refl _ _).drew).trans hW' (fun _ _ h => h)))).mono ?_; rintro e wB2 ⟨AB2, cB2, rfl, hfB2, hmB2⟩))
      all_goals
        obtain ⟨k0, k1⟩ := Hk.out _ hmB2
        have HM4 := Lib.hid (HM3.out.trans hmB2 (fun _ _ h => h))
        clear hfB2 hmA2 hmB2 hgA2
        go_wp2_with fail
        rw [rounds_succ]
        go_wp2
        go_ret3
        exact ⟨rfl, HM4.out⟩
end Go.Proofs.Ythbcgbbcoanbdaa
