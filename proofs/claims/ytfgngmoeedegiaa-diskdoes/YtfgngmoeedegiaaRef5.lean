/-
  The document's own answer (bobbinref03): Sync.
-/
import Derived.Test.YtfgngmoeedegiaaRef4
namespace Go.Proofs.Ytfgngmoeedegiaa
open Go Go.RowKit

abbrev rowOf (r : RV) : Array Value := #[.slice r.DA r.D.length r.dc, .slice r.WA r.W.length r.wc, .bool r.armed, .bool r.dead, .int .i64 r.left]
abbrev zrow31 : Array Value := #[.slice none 0 0, .slice none 0 0, .bool false, .bool false, .int .i64 0]

theorem Src.rows {w : World} {A : Option Addr} {D : List Sct} (h : 0 < D.length → ∃ b o, A = some ⟨b, o, none⟩ ∧ ∀ (j : Nat) (s : Sct), D[j]? = some s → w.cell? ⟨b, o + j, none⟩ = some s.v) : Src w A D.length (D.map Sct.v) := by
  refine ⟨by simp, scts_one D, fun hp => ?_⟩
  obtain ⟨b, o, rfl, hc⟩ := h hp
  refine ⟨_, rfl, fun j u hu => ?_⟩
  have hadd : (⟨b, o, none⟩ : Addr).add j = ⟨b, o + j, none⟩ := by unfold Addr.add; split <;> simp_all
  rw [hadd]
  rw [List.getElem?_map] at hu
  cases hs : D[j]? with
  | none => rw [hs] at hu; cases hu
  | some s => rw [hs] at hu; rw [hc j s hs]; exact hu
theorem OwV.rows {w : World} {base : Nat} {e : TypeId} {A : Option Addr} {n c : Nat} {D : List Sct} (h : OwV w base e A n c (D.map Sct.v)) (hn : 0 < n) :
    ∃ g, A = some ⟨g, 0, none⟩ ∧ base ≤ g ∧ ∀ (j : Nat) (s : Sct), D[j]? = some s → w.cell? ⟨g, 0 + j, none⟩ = some s.v := by
  have hl : D.length = n := by have := h.len; simpa using this
  obtain ⟨g, rfl, hc⟩ := h.cells hn
  refine ⟨g, rfl, (h.lt g rfl).1, fun j s hs => ?_⟩
  have hj : j < D.length := (List.getElem?_eq_some_iff.1 hs).1
  rw [Nat.zero_add, hc j (by omega), List.getElem?_map, hs]
  rfl

theorem Alike.sync {d : Dk} {r : RV} (h : Alike d r.dk) (hd : d.dead = false) (he : d.stepE = 0) (A : Option Addr) (c : Nat) :
    Alike d.sync ({ r.step with DA := A, dc := c, D := lay r.D r.W, WA := none, wc := 0, W := [] } : RV).dk := by
  have hst := h.step
  have e2 : d.sync = { d.stepD with dur := d.now, pend := [] } := by unfold Dk.sync; rw [if_neg (by rw [hd]; decide), if_pos he]
  rw [e2]
  refine ⟨?_, rfl, hst.2.armed, hst.2.dead, hst.2.left⟩
  show d.now = (lay r.D r.W).map Sct.xs
  rw [← h.now]
  exact (lay_map _ _ _).symm

set_option maxRecDepth 100000 in
set_option maxHeartbeats 4000000 in
theorem refSync_ok (w : World) (M : Nat → Prop) (hM : ∀ k, M k → k < w.heap.size) (d : Dk) (r : RV) (h : r.At w M) (hd : Alike d r.dk) (hW : r.W.length ≤ 1000) (hpos : 0 < r.D.length) :
    Calls Try.prog 16 #[r.v] w fun e w' => ∃ r' : RV, e = .returned (.tuple #[r'.v, .int .i64 d.syncE]) ∧ r'.At w' M ∧ Alike d.sync r'.dk ∧ Mod (fun _ => False) w w' := by
  cases hdead : r.dead with
  | true =>
    have hdd : d.dead = true := by rw [hd.dead]; exact hdead
    have e1 : d.syncE = 30 := by unfold Dk.syncE; rw [if_pos hdd]
    have e2 : d.sync = d := by unfold Dk.sync; rw [if_pos hdd]
    rw [e1, e2, RV.v_eq, hdead]
    have Hd := Lib.hid hd
    have H := Lib.hid h
    have Hdead := Lib.hid hdead
    clear e1 e2 hdd hd h hdead hM
    go_enter Try.func16, Try.ntmps16
    go_wp2
    refine bodyPost_ret (v := .tuple #[.agg #[.slice r.DA r.D.length r.dc, .slice r.WA r.W.length r.wc, .bool r.armed, .bool true, .int .i64 r.left], .int .i64 30]) (by simp [results, Try.results16, go_sem]) rfl ⟨r, by rw [RV.v_eq, Hdead.out], ?_, Hd.out, ?_⟩
    · exact H.out.keep (((Mod.refl _ w).alloc _).alloc _)
    · exact ((Mod.refl _ w).alloc _).alloc _
  | false =>
    have hdd : d.dead = false := by rw [hd.dead]; exact hdead
    obtain ⟨hlv, hal⟩ := hd.step
    have hst := fun w => refStep_ok w r
    by_cases hs0 : d.stepE = 0
    · have e1 : d.syncE = 0 := by unfold Dk.syncE; rw [if_neg (by rw [hdd]; decide), hs0]
      have hlv' : r.lives = true := by rw [hlv, hs0]; rfl
      have Hal := Lib.hid (hd.sync hdd hs0)
      rw [e1, RV.v_eq, hdead]
      simp only [RV.v_eq r, hdead, hlv', RV.v_eq r.step] at hst
      have Hst := Lib.hid hst
      have HM := Lib.hid hM
      obtain ⟨sD, sDA, sdc, sW, sWA, swc⟩ := r.step_D
      have Hat := Lib.hid h.step
      obtain ⟨rs, hrs⟩ : ∃ rs, rs = r.step := ⟨_, rfl⟩
      rw [← hrs] at sD sDA sdc sW sWA swc
      have hsz : rs.W.length ≤ 1000 := by rw [sW]; exact hW
      have hps : 0 < rs.D.length := by rw [sD]; exact hpos
      rw [← sW, ← sD, ← hrs] at Hal
      rw [← hrs] at Hst Hat
      have hfew := Hat.out.few
      clear e1 hdd hd h hdead hM hlv hlv' hal hs0 hst sD sDA sdc sW sWA swc hrs hpos hW
      go_enter Try.func16, Try.ntmps16
      go_wp2_with fail
      refine (Hst.out _).mono ?_
      rintro e w2 ⟨rfl, hm2⟩
      have Hm2 : Hid (Mod (fun _ => False) w w2) := (((Mod.refl _ w).alloc _).alloc _).trans hm2 (fun _ _ h => h)
      have hres2 : w2.heap[w.heap.size + 1]? = some (.cells zrow31 31 (0, 0)) := (hm2.block (w.heap.size + 1) (by simp) id).trans (by
        have := heap_alloc_new (w.alloc (.cells #[.slice r.DA r.D.length r.dc, .slice r.WA r.W.length r.wc, .bool r.armed, .bool false, .int .i64 r.left] 31)) (.cells #[.slice none 0 0, .slice none 0 0, .bool false, .bool false, .int .i64 0] 31)
        rw [World.size_alloc] at this
        exact this)
      have Hres2 := Lib.hid hres2
      obtain ⟨w3, hw3⟩ : ∃ w3, w3 = w2.alloc (.cells #[.slice rs.DA rs.D.length rs.dc, .slice rs.WA rs.W.length rs.wc, .bool rs.armed, .bool rs.dead, .int .i64 rs.left] 31) := ⟨_, rfl⟩
      have hm3 : Mod (fun _ => False) w2 w3 := by rw [hw3]; exact (Mod.refl _ _).alloc _
      have hx3 : w3.heap[w2.heap.size]? = some (.cells (rowOf rs) 31 (0, 0)) := by rw [hw3]; exact heap_alloc_new w2 _
      have c30 : w3.cell? ⟨w2.heap.size, 0, none⟩ = some (.slice rs.DA rs.D.length rs.dc) := by rw [cell_of_row _ _ _ _ _ _ hx3]; rfl
      have Hm03 := Lib.hid (Hm2.out.trans hm3 (fun _ _ h => h))
      have Hat3 := Lib.hid (Hat.out.keep Hm03.out)
      have hownA : OwV w3 w.heap.size 39 none 0 0 [] := OwV.nil _ _ _
      have hsrcA := Src.rows (fun hp => by obtain ⟨b, o, e, _, hc⟩ := Hat3.out.d hp; exact ⟨b, o, e, hc⟩)
      have hbbA : (0 + rs.D.length) * 24 ≤ 140737488355328 := by omega
      have hmlA : 0 + rs.D.length ≤ maxLen := by unfold maxLen; omega
      have hbaseA : w.heap.size ≤ w3.heap.size := Hm03.out.size
      have Hw3 := Lib.hid hw3
      have Hx3 := Lib.hid hx3
      have Hm3 := Lib.hid hm3
      rw [hw3] at hownA hsrcA hbaseA c30
      clear hw3 hm3 hx3 hm2 hres2 Hst
      go_wp2_with (at_builtin; refine wpList_app (.const (.slice none 0 0)) (.tmp 20) rowElem rfl rfl rfl rfl hownA hsrcA hbbA hmlA hbaseA ?_)
      intro A4 c4 w4 ho4 hg4 hb4
      have hm4 : Mod (fun _ => False) w3 w4 := by rw [Hw3.out]; exact (Mod.refl _ _).grown hg4 (fun k e => by cases e)
      have ho4' : OwV w4 w.heap.size 39 A4 rs.D.length c4 (rs.D.map Sct.v) := by simpa using ho4
      obtain ⟨g4, hA4, hg4b, _⟩ := ho4'.rows hps
      subst hA4
      have h32 : w3.heap.size = w2.heap.size + 1 := by rw [Hw3.out, World.size_alloc]
      have hg4s : w3.heap.size ≤ g4 := by
        rcases hb4 with e | e
        · cases e
        · simp [blkOf] at e; rw [h32]; omega
      have Hx4 := Lib.hid ((hm4.block _ (Array.getElem?_eq_some_iff.1 Hx3.out).1 id).trans Hx3.out)
      have Hm24 := Lib.hid (Hm3.out.trans hm4 (fun _ _ h => h))
      have Hm04 := Lib.hid (Hm03.out.trans hm4 (fun _ _ h => h))
      have Hres4 := Lib.hid ((Hm24.out.block _ (Array.getElem?_eq_some_iff.1 Hres2.out).1 id).trans Hres2.out)
      have hlt0 : w.heap.size + 1 < w2.heap.size := (Array.getElem?_eq_some_iff.1 Hres2.out).1
      have Ho4 := Lib.hid ho4'
      have Hg4s := Lib.hid hg4s
      have H32 := Lib.hid h32
      have Hlt0 := Lib.hid hlt0
      clear hm4 ho4 ho4' hg4 hb4 hownA hsrcA hbbA hmlA hbaseA c30 hg4b hg4s h32 hlt0
      go_wp2_with fail
      obtain ⟨B1, hB1⟩ : ∃ B1, B1 = w.heap.size := ⟨_, rfl⟩
      obtain ⟨B2, hB2⟩ : ∃ B2, B2 = w2.heap.size := ⟨_, rfl⟩
      rw [← hB1, ← hB2]
      have HB1 := Lib.hid hB1
      have HB2 := Lib.hid hB2
      clear hB1 hB2
      go_loopw [7] (fun i wr => ∃ j : Nat, j ≤ rs.W.length ∧ i = .int .i64 j ∧ Mod (fun k => k = g4) w4 wr ∧ OwV wr w.heap.size 39 (some ⟨g4, 0, none⟩) rs.D.length c4 ((lay rs.D (rs.W.take j)).map Sct.v)) (fun i _ => rs.W.length - (intOf i).toNat)
      case atStart => exact ⟨0, by omega, rfl, Mod.refl _ _, Ho4.out⟩
      case round =>
        obtain ⟨j, hj, rfl, hm, hown⟩ := hrel
        have hg4s := Hg4s.out
        have h32 := H32.out
        have hlt0 := Hlt0.out
        have hb1 := HB1.out
        have hb2 := HB2.out
        have hxr : wr.heap[B2]? = some (.cells (rowOf rs) 31 (0, 0)) := by rw [hb2]; exact (hm.block _ (Array.getElem?_eq_some_iff.1 Hx4.out).1 (by omega)).trans Hx4.out
        have hrr : wr.heap[B1 + 1]? = some (.cells zrow31 31 (0, 0)) := by rw [hb1]; exact (hm.block _ (Array.getElem?_eq_some_iff.1 Hres4.out).1 (by omega)).trans Hres4.out
        have hm0r : Mod (fun _ => False) w wr := Hm04.out.trans hm (fun k hk e => by omega)
        have c1 : wr.cell? ⟨B2, 1, none⟩ = some (.slice rs.WA rs.W.length rs.wc) := by rw [cell_of_row _ _ _ _ _ _ hxr]; rfl
        by_cases hlt : j < rs.W.length
        · obtain ⟨y, hy⟩ : ∃ y, rs.W[j]? = some y := ⟨_, List.getElem?_eq_getElem hlt⟩
          have hatr := Hat.out.keep hm0r
          obtain ⟨bW, oW, hWA, _, hWc⟩ := hatr.wt (by omega)
          obtain ⟨cy0, cy1⟩ := hWc j y hy
          have cy1' : wr.cell? ⟨bW, oW + j * 2 + 1, none⟩ = some (.slice y.2.A 256 y.2.c) := cy1
          have hyl := (hatr.wsecs y (List.mem_of_getElem? hy)).1
          have hlay := lay_take rs.D rs.W j y hy
          obtain ⟨⟨u, cu, _⟩, fu⟩ := hown.spot y.1 hyl
          have hset := OwV.set (w := wr.drew) hown y.1 (.slice y.2.A 256 y.2.c)
          have Hset : Hid (OwV (wr.drew.setCell ⟨g4, y.1, none⟩ (.slice y.2.A 256 y.2.c)) w.heap.size 39 (some ⟨g4, 0, none⟩) rs.D.length c4 ((lay rs.D (rs.W.take (j + 1))).map Sct.v)) := by
            rw [hlay, ← map_set_v]; exact hset
          have Hmset : Hid (Mod (fun k => k = g4) w4 (wr.drew.setCell ⟨g4, y.1, none⟩ (.slice y.2.A 256 y.2.c))) := hm.drew.one _ _
          rw [hWA] at c1
          have HWA := Lib.hid hWA
          clear hatr hWc cy1 hlay hset hown hxr hrr hm0r hm hy hg4s h32 hlt0 hb1 hb2 hWA
          go_wp2_with fail
          go_still_tail 13, (by kernel_rfl)
          change wpList _ _ _ _ _ wr.drew
          have cu' : wr.drew.cell? ⟨g4, y.1, none⟩ = some u := cu
          have fu' : wr.drew.frozen? ⟨g4, y.1, none⟩ = false := fu
          clear cy0 cy1' cu fu c1
          generalize wr.drew = W2 at *
          go_wp2_with fail
          go_roundw
          case rel => exact ⟨j + 1, by omega, by go_num, Hmset.out, Hset.out⟩
          case measure => simp [intOf]; omega
        · obtain rfl : j = rs.W.length := by omega
          rw [List.take_length] at hown
          have HF : Hid (∀ wf, Mod (fun k => k = B2 ∨ k = B1 + 1) wr wf → ∃ r' : RV, Value.tuple #[.agg #[.slice (some ⟨g4, 0, none⟩) rs.D.length c4, .slice none 0 0, .bool rs.armed, .bool rs.dead, .int .i64 rs.left], .int .i64 0] = .tuple #[r'.v, .int .i64 0] ∧ r'.At wf M ∧ Alike d.sync r'.dk ∧ Mod (fun _ => False) w wf) := by
            intro wf hwf
            have hmf : Mod (fun _ => False) w wf := hm0r.trans hwf (fun k hk e => by rcases e with e | e <;> omega)
            have hatf := Hat.out.keep hmf
            have hof := hown.mod hwf (fun k hk e => by simp [blkOf] at hk; rcases e with e | e <;> omega)
            obtain ⟨g, e, hgb, hc⟩ := hof.rows hps
            injection e with e; injection e with e; subst e
            refine ⟨{ rs with DA := some ⟨g4, 0, none⟩, dc := c4, D := lay rs.D rs.W, WA := none, wc := 0, W := [] }, ?_, ⟨fun _ => ⟨g4, 0, rfl, fun q => by have := HM.out _ q; omega, hc⟩, fun hp => absurd hp (by simp), fun s hs => ?_, by simp, ?_, ?_, Nat.le_refl _⟩, Hal.out _ _, hmf⟩
            · rw [RV.v_eq]; dsimp only; rw [lay_len]; rfl
            · rcases mem_lay rs.W rs.D s hs with h1 | ⟨y, hy, e⟩
              · exact hatf.secs s h1
              · rw [← e]; exact (hatf.wsecs y hy).2
            · show (lay rs.D rs.W).length ≤ 4096; rw [lay_len]; exact hfew
            · show (lay rs.D rs.W).length ≤ c4; rw [lay_len]; exact hof.cap
          have f20 := frozen_of_block hxr
          have c20 : wr.cell? ⟨B2, 0, none⟩ = some (.slice rs.DA rs.D.length rs.dc) := by rw [cell_of_row _ _ _ _ _ _ hxr]; rfl
          have c22 : wr.cell? ⟨B2, 2, none⟩ = some (.bool rs.armed) := by rw [cell_of_row _ _ _ _ _ _ hxr]; rfl
          have c23 : wr.cell? ⟨B2, 3, none⟩ = some (.bool rs.dead) := by rw [cell_of_row _ _ _ _ _ _ hxr]; rfl
          have c24 : wr.cell? ⟨B2, 4, none⟩ = some (.int .i64 rs.left) := by rw [cell_of_row _ _ _ _ _ _ hxr]; rfl
          have g0 : wr.cell? ⟨B1 + 1, 0, none⟩ = some (.slice none 0 0) := by rw [cell_of_row _ _ _ _ _ _ hrr]; rfl
          have g1 : wr.cell? ⟨B1 + 1, 1, none⟩ = some (.slice none 0 0) := by rw [cell_of_row _ _ _ _ _ _ hrr]; rfl
          have g2 : wr.cell? ⟨B1 + 1, 2, none⟩ = some (.bool false) := by rw [cell_of_row _ _ _ _ _ _ hrr]; rfl
          have g3 : wr.cell? ⟨B1 + 1, 3, none⟩ = some (.bool false) := by rw [cell_of_row _ _ _ _ _ _ hrr]; rfl
          have g4' : wr.cell? ⟨B1 + 1, 4, none⟩ = some (.int .i64 0) := by rw [cell_of_row _ _ _ _ _ _ hrr]; rfl
          have gf := frozen_of_block hrr
          have hne : ¬ B2 = B1 + 1 := by omega
          clear hxr hrr hown hm hm0r hg4s h32 hlt0 hb1 hb2
          go_wp2
          refine bodyPost_ret (v := .tuple #[.agg #[.slice (some ⟨g4, 0, none⟩) rs.D.length c4, .slice none 0 0, .bool rs.armed, .bool rs.dead, .int .i64 rs.left], .int .i64 0]) (by simp [results, Try.results16, go_sem, g0, g1, g2, g3, g4']) rfl ?_
          obtain ⟨r', e, h1, h2, h3⟩ := HF.out _ (Mod.setCell (p := ⟨B1 + 1, 4, none⟩) (Mod.setCell (p := ⟨B1 + 1, 3, none⟩) (Mod.setCell (p := ⟨B1 + 1, 2, none⟩) (Mod.setCell (p := ⟨B1 + 1, 1, none⟩) (Mod.setCell (p := ⟨B1 + 1, 0, none⟩) (Mod.setCell (p := ⟨B2, 1, none⟩) (Mod.setCell (p := ⟨B2, 0, none⟩) (Mod.refl _ wr) (fun _ => .inl rfl) (.slice (some ⟨g4, 0, none⟩) rs.D.length c4)) (fun _ => .inl rfl) (.slice none 0 0)) (fun _ => .inr rfl) (.slice (some ⟨g4, 0, none⟩) rs.D.length c4)) (fun _ => .inr rfl) (.slice none 0 0)) (fun _ => .inr rfl) (.bool rs.armed)) (fun _ => .inr rfl) (.bool rs.dead)) (fun _ => .inr rfl) (.int .i64 rs.left))
          exact ⟨r', by rw [e], h1, h2, h3⟩
    · have hE : d.stepE = 30 := by
        unfold Dk.stepE at hs0 ⊢
        split at hs0
        · rename_i q; rw [if_pos q]
        · exact absurd rfl hs0
      have e1 : d.syncE = 30 := by unfold Dk.syncE; rw [if_neg (by rw [hdd]; decide), hE]
      have e2 : d.sync = d.stepD := by unfold Dk.sync; rw [if_neg (by rw [hdd]; decide), if_neg hs0]
      have hlv' : r.lives = false := by rw [hlv, hE]; rfl
      rw [e1, e2, RV.v_eq, hdead]
      simp only [RV.v_eq r, hdead, hlv', RV.v_eq r.step] at hst
      have Hst := Lib.hid hst
      have Hat := Lib.hid h.step
      have Hal := Lib.hid hal
      obtain ⟨rs, hrs⟩ : ∃ rs, rs = r.step := ⟨_, rfl⟩
      rw [← hrs] at Hst Hat Hal
      clear e1 e2 hdd hd h hdead hM hlv hlv' hal hs0 hE hst hrs
      go_enter Try.func16, Try.ntmps16
      go_wp2_with fail
      refine (Hst.out _).mono ?_
      rintro e w2 ⟨rfl, hm2⟩
      have Hm2 : Hid (Mod (fun _ => False) w w2) := (((Mod.refl _ w).alloc _).alloc _).trans hm2 (fun _ _ h => h)
      have hres2 : w2.heap[w.heap.size + 1]? = some (.cells #[.slice none 0 0, .slice none 0 0, .bool false, .bool false, .int .i64 0] 31 (0, 0)) := (hm2.block (w.heap.size + 1) (by simp) id).trans (by
        have := heap_alloc_new (w.alloc (.cells #[.slice r.DA r.D.length r.dc, .slice r.WA r.W.length r.wc, .bool r.armed, .bool false, .int .i64 r.left] 31)) (.cells #[.slice none 0 0, .slice none 0 0, .bool false, .bool false, .int .i64 0] 31)
        rw [World.size_alloc] at this
        exact this)
      have hlt0 : w.heap.size + 1 < w2.heap.size := (Array.getElem?_eq_some_iff.1 hres2).1
      have q0 : w2.cell? ⟨w.heap.size + 1, 0, none⟩ = some (.slice none 0 0) := by rw [cell_of_row _ _ _ _ _ _ hres2]; rfl
      have q1 : w2.cell? ⟨w.heap.size + 1, 1, none⟩ = some (.slice none 0 0) := by rw [cell_of_row _ _ _ _ _ _ hres2]; rfl
      have q2 : w2.cell? ⟨w.heap.size + 1, 2, none⟩ = some (.bool false) := by rw [cell_of_row _ _ _ _ _ _ hres2]; rfl
      have q3 : w2.cell? ⟨w.heap.size + 1, 3, none⟩ = some (.bool false) := by rw [cell_of_row _ _ _ _ _ _ hres2]; rfl
      have q4 : w2.cell? ⟨w.heap.size + 1, 4, none⟩ = some (.int .i64 0) := by rw [cell_of_row _ _ _ _ _ _ hres2]; rfl
      have hca : ∀ (W : World) (o : Obj) (j : Nat), W.heap.size = w2.heap.size → (W.alloc o).cell? ⟨w.heap.size + 1, j, none⟩ = W.cell? ⟨w.heap.size + 1, j, none⟩ := fun W o j e => World.cell?_of_block (Below.heap_alloc W o _ (by rw [e]; exact hlt0))
      have gf2 : ∀ j, w2.frozen? ⟨w.heap.size + 1, j, none⟩ = false := fun j => frozen_of_block hres2 j
      clear hm2 hres2 Hst
      go_wp2
      refine bodyPost_ret (v := .tuple #[.agg #[.slice rs.DA rs.D.length rs.dc, .slice rs.WA rs.W.length rs.wc, .bool rs.armed, .bool rs.dead, .int .i64 rs.left], .int .i64 30]) (by simp [results, Try.results16, go_sem, hca, q0, q1, q2, q3, q4]) rfl ?_
      have hno : w.heap.size + 1 < w.heap.size → False := fun q => absurd q (by omega)
      have hmf := (Mod.setCell (p := ⟨w.heap.size + 1, 4, none⟩) (Mod.setCell (p := ⟨w.heap.size + 1, 3, none⟩) (Mod.setCell (p := ⟨w.heap.size + 1, 2, none⟩) (Mod.setCell (p := ⟨w.heap.size + 1, 1, none⟩) (Mod.setCell (p := ⟨w.heap.size + 1, 0, none⟩) Hm2.out hno (.slice rs.DA rs.D.length rs.dc)) hno (.slice rs.WA rs.W.length rs.wc)) hno (.bool rs.armed)) hno (.bool rs.dead)) hno (.int .i64 rs.left)).alloc (.cells #[.slice rs.DA rs.D.length rs.dc, .slice rs.WA rs.W.length rs.wc, .bool rs.armed, .bool rs.dead, .int .i64 rs.left] 31)
      exact ⟨rs, rfl, Hat.out.keep hmf, Hal.out, hmf⟩
end Go.Proofs.Ytfgngmoeedegiaa
