/-
  The document's own answer (bobbinref03): Write.
-/
import Derived.Test.YtfgngmoeedegiaaRef3
namespace Go.Proofs.Ytfgngmoeedegiaa
open Go Go.RowKit

set_option maxRecDepth 100000 in
set_option maxHeartbeats 4000000 in
theorem refWrite_ok (w : World) (M : Nat → Prop) (hM : ∀ k, M k → k < w.heap.size) (d : Dk) (r : RV) (h : r.At w M) (hd : Alike d r.dk) (hW : r.W.length ≤ 1000) (i : Int) (A : Option Addr) (n c : Nat) (ys : List UInt8) (hy : Sl w A n c ys) (hn : n ≤ 1000) :
    Calls Try.prog 14 #[r.v, .int .i64 i, .slice A n c] w fun e w' => ∃ r' : RV, e = .returned (.tuple #[r'.v, .int .i64 (d.writeE i n)]) ∧ r'.At w' M ∧ Alike (d.write i ys) r'.dk ∧ Mod (fun _ => False) w w' := by
  have hreach := hd.reach i
  have hlen : r.D.length = d.dur.length := by rw [hd.dur, r.dk_len]
  cases hdead : r.dead with
  | true =>
    have hdd : d.dead = true := by rw [hd.dead]; exact hdead
    have hr : d.reach i = 30 := by unfold Dk.reach; rw [if_pos hdd]
    have e1 : d.writeE i n = 30 := by unfold Dk.writeE; rw [if_neg (by rw [hr]; decide), hr]
    have e2 : d.write i ys = d := by unfold Dk.write; rw [if_neg (fun q => by rw [hr] at q; cases q.1)]
    rw [e1, e2, RV.v_eq, hdead]
    have Hd := Lib.hid hd
    have H := Lib.hid h
    have Hdead := Lib.hid hdead
    clear e1 e2 hr hdd hreach hlen hd h hdead hy hM
    go_enter Try.func14, Try.ntmps14
    go_wp2
    refine bodyPost_ret (v := .tuple #[.agg #[.slice r.DA r.D.length r.dc, .slice r.WA r.W.length r.wc, .bool r.armed, .bool true, .int .i64 r.left], .int .i64 30]) (by simp [results, Try.results14, go_sem]) rfl ⟨r, by rw [RV.v_eq, Hdead.out], ?_, Hd.out, ?_⟩
    · exact H.out.keep (((Mod.refl _ w).alloc _).alloc _)
    · exact ((Mod.refl _ w).alloc _).alloc _
  | false =>
    have hdd : d.dead = false := by rw [hd.dead]; exact hdead
    by_cases hin : 0 ≤ i ∧ i < r.D.length
    · have hr : d.reach i = 0 := by unfold Dk.reach; rw [if_neg (by rw [hdd]; decide), if_pos (by rw [← hlen]; exact hin)]
      have hd0 : decide (i < 0) = false := by simp; omega
      have hd1 : decide ((r.D.length : Int) ≤ i) = false := by simp; omega
      by_cases h256 : n = 256
      · subst h256
        obtain ⟨hlv, hal⟩ := hd.step
        by_cases hs0 : d.stepE = 0
        · have e1 : d.writeE i 256 = 0 := by unfold Dk.writeE; rw [if_pos hr, if_pos rfl, hs0]
          rw [hs0] at hlv
          have hlv' : r.lives = true := by rw [hlv]; rfl
          have Hal := Lib.hid (fun (s : Sct) (hs : s.xs = ys) (A : Option Addr) (c : Nat) => hd.write i ys hr hy.len hs0 s hs A c)
          rw [e1, RV.v_eq, hdead]
          have H := Lib.hid h
          have HM := Lib.hid hM
          have Hy := Lib.hid hy
          have Hin := Lib.hid hin
          have hst := fun w => refStep_ok w r
          simp only [RV.v_eq r, hdead, hlv', RV.v_eq r.step] at hst
          have Hst := Lib.hid hst
          obtain ⟨sD, sDA, sdc, sW, sWA, swc⟩ := r.step_D
          have Hat := Lib.hid h.step
          obtain ⟨rs, hrs⟩ : ∃ rs, rs = r.step := ⟨_, rfl⟩
          rw [← hrs] at sD sDA sdc sW sWA swc
          have hsz : rs.W.length ≤ 1000 := by rw [sW]; exact hW
          have hDl : rs.D.length = r.D.length := by rw [sD]
          rw [← sW] at Hal
          rw [← hrs] at Hst Hat Hal
          have HDl := Lib.hid hDl
          clear e1 hr hdd hreach hlen hd h hdead hy hM hlv hlv' hal hs0 hin hst sD sDA sdc sW sWA swc hrs hDl
          go_enter Try.func14, Try.ntmps14
          go_wp2_with fail
          refine (Hst.out _).mono ?_
          rintro e w2 ⟨rfl, hm2⟩
          have Hm2 : Hid (Mod (fun _ => False) w w2) := (((Mod.refl _ w).alloc _).alloc _).trans hm2 (fun _ _ h => h)
          have hres2 : w2.heap[w.heap.size + 1]? = some (.cells #[.slice none 0 0, .slice none 0 0, .bool false, .bool false, .int .i64 0] 31 (0, 0)) := (hm2.block (w.heap.size + 1) (by simp) id).trans (by
            have := heap_alloc_new (w.alloc (.cells #[.slice r.DA r.D.length r.dc, .slice r.WA r.W.length r.wc, .bool r.armed, .bool false, .int .i64 r.left] 31)) (.cells #[.slice none 0 0, .slice none 0 0, .bool false, .bool false, .int .i64 0] 31)
            rw [World.size_alloc] at this
            exact this)
          have Hres2 := Lib.hid hres2
          clear hm2 hres2 Hst
          -- the device, one field turned below
          obtain ⟨w3, hw3⟩ : ∃ w3, w3 = w2.alloc (.cells #[.slice rs.DA rs.D.length rs.dc, .slice rs.WA rs.W.length rs.wc, .bool rs.armed, .bool rs.dead, .int .i64 rs.left] 31) := ⟨_, rfl⟩
          have hm3 : Mod (fun _ => False) w2 w3 := by rw [hw3]; exact (Mod.refl _ _).alloc _
          have hx3 : w3.heap[w2.heap.size]? = some (.cells #[.slice rs.DA rs.D.length rs.dc, .slice rs.WA rs.W.length rs.wc, .bool rs.armed, .bool rs.dead, .int .i64 rs.left] 31 (0, 0)) := by rw [hw3]; exact heap_alloc_new w2 _
          have c31 : w3.cell? ⟨w2.heap.size, 1, none⟩ = some (.slice rs.WA rs.W.length rs.wc) := by rw [cell_of_row _ _ _ _ _ _ hx3]; rfl
          have Hat3 := Lib.hid (Hat.out.keep (Hm2.out.trans hm3 (fun _ _ h => h)))
          have hownA : OwN w3 w.heap.size 75 2 none 0 0 (pcells []) := OwN.nil _ _ _ _
          have hsrcA := SrcN.waits (fun hp => by obtain ⟨b, o, e, _, hc⟩ := Hat3.out.wt hp; exact ⟨b, o, e, hc⟩)
          have hbbA : (0 + rs.W.length) * 32 ≤ 140737488355328 := by omega
          have hmlA : 0 + rs.W.length ≤ maxLen := by unfold maxLen; omega
          have hbaseA : w.heap.size ≤ w3.heap.size := Nat.le_trans Hm2.out.size hm3.size
          have Hw3 := Lib.hid hw3
          have Hm3 := Lib.hid hm3
          have Hx3 := Lib.hid hx3
          clear hw3 hm3 hx3
          rw [Hw3.out] at hownA hsrcA hbaseA c31
          go_wp2_with (at_builtin; refine wpList_appN (.const (.slice none 0 0)) (.tmp 37) waitElem rfl rfl rfl rfl hownA hsrcA hbbA hmlA hbaseA ?_)
          intro A4 c4 w4 ho4 hg4 hb4
          have hm4 : Mod (fun _ => False) w3 w4 := by rw [Hw3.out]; exact (Mod.refl _ _).grown hg4 (fun k e => by cases e)
          have ho4' : OwN w4 w.heap.size 75 2 A4 rs.W.length c4 (pcells rs.W) := by
            have : pcells [] ++ pcells rs.W = pcells rs.W := rfl
            rw [this] at ho4
            simpa using ho4
          have hblk4 : ∀ k, blkOf A4 = some k → w3.heap.size ≤ k := by
            intro k hk
            rcases hb4 with e | e
            · rw [hk] at e; cases e
            · rw [hk] at e; injection e with e; subst e; rw [Hw3.out, World.size_alloc]; exact Nat.le_refl _
          have Hx4 := Lib.hid ((hm4.block _ (Array.getElem?_eq_some_iff.1 Hx3.out).1 id).trans Hx3.out)
          have Hm24 := Lib.hid (Hm3.out.trans hm4 (fun _ _ h => h))
          have Hm04 := Lib.hid (Hm2.out.trans Hm24.out (fun _ _ h => h))
          have hsl4 := Hy.out.mod Hm04.out (fun _ _ _ => id)
          have hownB : OwV w4 w.heap.size 5 none 0 0 [] := OwV.nil _ _ _
          have hsrcB := hsl4.src
          have hmlB : 0 + 256 ≤ maxLen := by unfold maxLen; omega
          have hbaseB : w.heap.size ≤ w4.heap.size := Hm04.out.size
          have Ho4 := Lib.hid ho4'
          have Hblk4 := Lib.hid hblk4
          clear hm4 ho4 ho4' hg4 hb4 hblk4 hsl4 hownA hsrcA hbbA hmlA hbaseA c31
          go_wp2_with (at_builtin; refine wpList_app (.const (.slice none 0 0)) (.tmp 41) byteElem rfl rfl rfl rfl hownB hsrcB (by omega) hmlB hbaseB ?_)
          intro A5 c5 w5 ho5 hg5 hb5
          have hm5 : Mod (fun _ => False) w4 w5 := (Mod.refl _ _).grown hg5 (fun k e => by cases e)
          have hs5 : (⟨A5, c5, ys⟩ : Sct).At w5 M := by
            have ho5' : OwV w5 w.heap.size 5 A5 256 c5 (ys.map bv) := by simpa using ho5
            refine ⟨ho5'.sl, fun k hk hMk => ?_⟩
            have := (ho5'.lt k hk).1
            have := HM.out k hMk
            omega
          have Hs5 := Lib.hid hs5
          have Hblk5 : Hid (∀ k, blkOf A5 = some k → k = w4.heap.size) := by
            intro k hk
            rcases hb5 with e | e
            · rw [hk] at e; cases e
            · rw [hk] at e; injection e
          have H4lt : Hid (∀ k, blkOf A4 = some k → k < w4.heap.size) := fun k hk => (Ho4.out.lt k hk).2
          have H54 : Hid (w4.heap.size ≤ w5.heap.size) := hm5.size
          have H34 : Hid (w3.heap.size ≤ w4.heap.size) := by show _ ≤ _; have := Hm24.out; exact Nat.le_trans (by rw [Hw3.out, World.size_alloc]; exact Nat.succ_le_of_lt (Array.getElem?_eq_some_iff.1 Hx4.out).1) (Nat.le_refl _)
          have Hx5 := Lib.hid ((hm5.block _ (Array.getElem?_eq_some_iff.1 Hx4.out).1 id).trans Hx4.out)
          have Hm25 := Lib.hid (Hm24.out.trans hm5 (fun _ _ h => h))
          have Hm05 := Lib.hid (Hm04.out.trans hm5 (fun _ _ h => h))
          have Hres5 := Lib.hid ((Hm25.out.block _ (Array.getElem?_eq_some_iff.1 Hres2.out).1 id).trans Hres2.out)
          have hownC : OwN (w5.alloc (.cells #[.int .i64 i, .slice A5 256 c5] 75)) w.heap.size 75 2 A4 rs.W.length c4 (pcells rs.W) := (Ho4.out.mod hm5 (fun _ _ => id)).alloc _
          have hsrcC : SrcN (w5.alloc (.cells #[.int .i64 i, .slice A5 256 c5] 75)) (some ⟨w5.heap.size, 0, none⟩) 1 2 [.int .i64 i, .slice A5 256 c5] := SrcN.lit w5 [.int .i64 i, .slice A5 256 c5] 75 (by simp [Value.oneCell'])
          have hbbC : (rs.W.length + 1) * 32 ≤ 140737488355328 := by omega
          have hmlC : rs.W.length + 1 ≤ maxLen := by unfold maxLen; omega
          have hbaseC : w.heap.size ≤ (w5.alloc (.cells #[.int .i64 i, .slice A5 256 c5] 75)).heap.size := by rw [World.size_alloc]; have := Hm05.out.size; omega
          have hblkx : ∀ w6, (w5.alloc (.cells #[.int .i64 i, .slice A5 256 c5] 75)).grownBy w6 (blkOf A4) → w6.heap[w2.heap.size]? = some (.cells #[.slice rs.DA rs.D.length rs.dc, .slice rs.WA rs.W.length rs.wc, .bool rs.armed, .bool rs.dead, .int .i64 rs.left] 31 (0, 0)) ∧
              w6.heap[w.heap.size + 1]? = some (.cells #[.slice none 0 0, .slice none 0 0, .bool false, .bool false, .int .i64 0] 31 (0, 0)) := by
            intro w6 hg6
            have hlt2 : w2.heap.size < w5.heap.size := (Array.getElem?_eq_some_iff.1 Hx5.out).1
            have hlt1 : w.heap.size + 1 < w5.heap.size := (Array.getElem?_eq_some_iff.1 Hres5.out).1
            have hlt0 : w.heap.size + 1 < w2.heap.size := (Array.getElem?_eq_some_iff.1 Hres2.out).1
            have h3 : w3.heap.size = w2.heap.size + 1 := by rw [Hw3.out, World.size_alloc]
            refine ⟨?_, ?_⟩
            · exact (hg6.block _ (by rw [World.size_alloc]; omega) (fun e => by have := Hblk4.out _ e.symm; omega)).trans ((Below.heap_alloc w5 _ _ hlt2).trans Hx5.out)
            · exact (hg6.block _ (by rw [World.size_alloc]; omega) (fun e => by have := Hblk4.out _ e.symm; omega)).trans ((Below.heap_alloc w5 _ _ hlt1).trans Hres5.out)
          have Hblkx := Lib.hid hblkx
          clear hm5 ho5 hg5 hb5 hs5 hownB hsrcB hmlB hbaseB hblkx
          go_wp2_with (at_builtin; refine wpList_appN (.tmp 39) (.tmp 44) waitElem rfl rfl rfl rfl hownC hsrcC hbbC hmlC hbaseC ?_)
          intro A6 c6 w6 ho6 hg6 hb6
          obtain ⟨hx6, hres6⟩ := Hblkx.out w6 hg6
          have h32 : w3.heap.size = w2.heap.size + 1 := by rw [Hw3.out, World.size_alloc]
          have hsz2 := Hm2.out.size
          have hm6 : Mod (fun _ => False) w w6 := (Hm05.out.alloc _).grown hg6 (fun k e hk => by have := Hblk4.out k e; omega)
          have hii : ((i.toNat : Nat) : Int) = i := by have := Hin.out; omega
          have ho6' : OwN w6 w.heap.size 75 2 A6 (rs.W ++ [(i.toNat, (⟨A5, c5, ys⟩ : Sct))]).length c6 (pcells (rs.W ++ [(i.toNat, (⟨A5, c5, ys⟩ : Sct))])) := by
            rw [pcells_snoc, List.length_append, List.length_singleton]
            show OwN w6 w.heap.size 75 2 A6 (rs.W.length + 1) c6 (pcells rs.W ++ [.int .i64 (i.toNat : Int), .slice A5 256 c5])
            rw [hii]
            exact ho6
          have f61 : w6.frozen? ⟨w2.heap.size, 1, none⟩ = false := frozen_of_block hx6 1
          have c60 : w6.cell? ⟨w2.heap.size, 0, none⟩ = some (.slice rs.DA rs.D.length rs.dc) := by rw [cell_of_row _ _ _ _ _ _ hx6]; rfl
          have c61 : w6.cell? ⟨w2.heap.size, 1, none⟩ = some (.slice rs.WA rs.W.length rs.wc) := by rw [cell_of_row _ _ _ _ _ _ hx6]; rfl
          have c62 : w6.cell? ⟨w2.heap.size, 2, none⟩ = some (.bool rs.armed) := by rw [cell_of_row _ _ _ _ _ _ hx6]; rfl
          have c63 : w6.cell? ⟨w2.heap.size, 3, none⟩ = some (.bool rs.dead) := by rw [cell_of_row _ _ _ _ _ _ hx6]; rfl
          have c64 : w6.cell? ⟨w2.heap.size, 4, none⟩ = some (.int .i64 rs.left) := by rw [cell_of_row _ _ _ _ _ _ hx6]; rfl
          have g60 : w6.cell? ⟨w.heap.size + 1, 0, none⟩ = some (.slice none 0 0) := by rw [cell_of_row _ _ _ _ _ _ hres6]; rfl
          have g61 : w6.cell? ⟨w.heap.size + 1, 1, none⟩ = some (.slice none 0 0) := by rw [cell_of_row _ _ _ _ _ _ hres6]; rfl
          have g62 : w6.cell? ⟨w.heap.size + 1, 2, none⟩ = some (.bool false) := by rw [cell_of_row _ _ _ _ _ _ hres6]; rfl
          have g63 : w6.cell? ⟨w.heap.size + 1, 3, none⟩ = some (.bool false) := by rw [cell_of_row _ _ _ _ _ _ hres6]; rfl
          have g64 : w6.cell? ⟨w.heap.size + 1, 4, none⟩ = some (.int .i64 0) := by rw [cell_of_row _ _ _ _ _ _ hres6]; rfl
          have gf : ∀ j, w6.frozen? ⟨w.heap.size + 1, j, none⟩ = false := fun j => frozen_of_block hres6 j
          have hne : ¬ w2.heap.size = w.heap.size + 1 := by have := (Array.getElem?_eq_some_iff.1 Hres2.out).1; omega
          have HF : Hid (∀ wf, Mod (fun k => k = w2.heap.size ∨ k = w.heap.size + 1) w6 wf → ∃ r' : RV, Value.tuple #[.agg #[.slice rs.DA rs.D.length rs.dc, .slice A6 (rs.W.length + 1) c6, .bool rs.armed, .bool rs.dead, .int .i64 rs.left], .int .i64 0] = .tuple #[r'.v, .int .i64 0] ∧ r'.At wf M ∧ Alike (d.write i ys) r'.dk ∧ Mod (fun _ => False) w wf) := by
            intro wf hwf
            have hmf : Mod (fun _ => False) w wf := hm6.trans hwf (fun k hk e => by rcases e with e | e <;> omega)
            have hatf := Hat.out.keep hmf
            have hlt0 := (Array.getElem?_eq_some_iff.1 Hres2.out).1
            have h34 := H34.out
            have h54 := H54.out
            have hA6 : ∀ k, blkOf A6 = some k → w3.heap.size ≤ k := by
              intro k hk
              rcases hb6 with e | e
              · exact Hblk4.out k (by rw [← e]; exact hk)
              · rw [hk] at e; injection e with e; omega
            have hof := ho6'.mod hwf (fun k hk e => by have := hA6 k hk; rcases e with e | e <;> omega)
            have hsf : (⟨A5, c5, ys⟩ : Sct).At wf M := by
              refine ⟨((Hs5.out.1.alloc (.cells #[.int .i64 i, .slice A5 256 c5] 75)).mod (Mod.grown (Mod.refl (fun k => blkOf A4 = some k) _) hg6 (fun k e _ => e)) (fun k hk _ e => ?_)).mod hwf (fun k hk _ e => ?_), Hs5.out.2⟩
              · have h1 := Hblk5.out k hk
                have h2 := H4lt.out k e
                omega
              · have h1 := Hblk5.out k hk
                rcases e with e | e <;> omega
            refine ⟨{ rs with WA := A6, wc := c6, W := rs.W ++ [(i.toNat, ⟨A5, c5, ys⟩)] }, ?_, ⟨hatf.d, fun hp => ?_, hatf.secs, fun y hy => ?_, hatf.few, hatf.caps.1, hof.cap⟩, Hal.out ⟨A5, c5, ys⟩ rfl A6 c6, hmf⟩
            · rw [RV.v_eq]
              dsimp only
              rw [List.length_append, List.length_singleton]
            · obtain ⟨b, o, e, hb, hc⟩ := hof.waits hp
              exact ⟨b, o, e, fun q => by have := HM.out b q; omega, hc⟩
            · rcases List.mem_append.1 hy with q | q
              · exact hatf.wsecs y q
              · simp at q
                subst q
                refine ⟨?_, hsf⟩
                have h1 := HDl.out
                have h2 := Hin.out
                show i.toNat < rs.D.length
                omega
          clear hx6 hres6 ho6 hg6 hb6 ho6' hm6 hii hownC hsrcC hbbC hmlC hbaseC Hat Hat3 Hs5 Hblk5 H4lt H54 H34 h32 hsz2
          go_wp2
          refine bodyPost_ret (v := .tuple #[.agg #[.slice rs.DA rs.D.length rs.dc, .slice A6 (rs.W.length + 1) c6, .bool rs.armed, .bool rs.dead, .int .i64 rs.left], .int .i64 0]) (by simp [results, Try.results14, go_sem, g60, g61, g62, g63, g64]) rfl ?_
          obtain ⟨r', e, h1, h2, h3⟩ := HF.out _ (Mod.setCell (p := ⟨w.heap.size + 1, 4, none⟩) (Mod.setCell (p := ⟨w.heap.size + 1, 3, none⟩) (Mod.setCell (p := ⟨w.heap.size + 1, 2, none⟩) (Mod.setCell (p := ⟨w.heap.size + 1, 1, none⟩) (Mod.setCell (p := ⟨w.heap.size + 1, 0, none⟩) (Mod.setCell (p := ⟨w2.heap.size, 1, none⟩) (Mod.refl _ w6) (fun _ => .inl rfl) (.slice A6 (rs.W.length + 1) c6)) (fun _ => .inr rfl) (.slice rs.DA rs.D.length rs.dc)) (fun _ => .inr rfl) (.slice A6 (rs.W.length + 1) c6)) (fun _ => .inr rfl) (.bool rs.armed)) (fun _ => .inr rfl) (.bool rs.dead)) (fun _ => .inr rfl) (.int .i64 rs.left))
          exact ⟨r', by rw [e], h1, h2, h3⟩
        · have hE : d.stepE = 30 := by
            unfold Dk.stepE at hs0 ⊢
            split at hs0
            · rename_i q; rw [if_pos q]
            · exact absurd rfl hs0
          have e1 : d.writeE i 256 = 30 := by unfold Dk.writeE; rw [if_pos hr, if_pos rfl, hE]
          have e2 : d.write i ys = d.stepD := by unfold Dk.write; rw [if_pos ⟨hr, hy.len⟩, if_neg hs0]
          have hlv' : r.lives = false := by rw [hlv, hE]; rfl
          rw [e1, e2, RV.v_eq, hdead]
          have hst := fun w => refStep_ok w r
          simp only [RV.v_eq r, hdead, hlv', RV.v_eq r.step] at hst
          have Hst := Lib.hid hst
          have Hat := Lib.hid h.step
          have Hal := Lib.hid hal
          obtain ⟨rs, hrs⟩ : ∃ rs, rs = r.step := ⟨_, rfl⟩
          rw [← hrs] at Hst Hat Hal
          clear e1 e2 hr hdd hreach hlen hd h hdead hy hM hlv hlv' hal hs0 hE hin hst hrs
          go_enter Try.func14, Try.ntmps14
          go_wp2_with fail
          refine (Hst.out _).mono ?_
          rintro e w2 ⟨rfl, hm2⟩
          have Hm2 : Hid (Mod (fun _ => False) w w2) := (((Mod.refl _ w).alloc _).alloc _).trans hm2 (fun _ _ h => h)
          have hres2 : w2.heap[w.heap.size + 1]? = some (.cells #[.slice none 0 0, .slice none 0 0, .bool false, .bool false, .int .i64 0] 31 (0, 0)) := (hm2.block (w.heap.size + 1) (by simp) id).trans (by
            have := heap_alloc_new (w.alloc (.cells #[.slice r.DA r.D.length r.dc, .slice r.WA r.W.length r.wc, .bool r.armed, .bool false, .int .i64 r.left] 31)) (.cells #[.slice none 0 0, .slice none 0 0, .bool false, .bool false, .int .i64 0] 31)
            rw [World.size_alloc] at this
            exact this)
          have hlt0 : w.heap.size + 1 < w2.heap.size := (Array.getElem?_eq_some_iff.1 hres2).1
          have q0 : w2.cell? ⟨w.heap.size + 1, 0, none⟩ = some (.slice none 0 0) := by rw [cell_of_row _ _ _ _ _ _ hres2]; rfl
          have q1 : w2.cell? ⟨w.heap.size + 1, 1, none⟩ = some (.slice none 0 0) := by rw [cell_of_row _ _ _ _ _ _ hres2]; rfl
          have q2 : w2.cell? ⟨w.heap.size + 1, 2, none⟩ = some (.bool false) := by rw [cell_of_row _ _ _ _ _ _ hres2]; rfl
          have q3 : w2.cell? ⟨w.heap.size + 1, 3, none⟩ = some (.bool false) := by rw [cell_of_row _ _ _ _ _ _ hres2]; rfl
          have q4 : w2.cell? ⟨w.heap.size + 1, 4, none⟩ = some (.int .i64 0) := by rw [cell_of_row _ _ _ _ _ _ hres2]; rfl
          have hca : ∀ (W : World) (o : Obj) (j : Nat), W.heap.size = w2.heap.size → (W.alloc o).cell? ⟨w.heap.size + 1, j, none⟩ = W.cell? ⟨w.heap.size + 1, j, none⟩ := fun W o j e => World.cell?_of_block (Below.heap_alloc W o _ (by rw [e]; exact hlt0))
          have gf2 : ∀ j, w2.frozen? ⟨w.heap.size + 1, j, none⟩ = false := fun j => frozen_of_block hres2 j
          clear hm2 hres2 Hst
          go_wp2
          refine bodyPost_ret (v := .tuple #[.agg #[.slice rs.DA rs.D.length rs.dc, .slice rs.WA rs.W.length rs.wc, .bool rs.armed, .bool rs.dead, .int .i64 rs.left], .int .i64 30]) (by simp [results, Try.results14, go_sem, hca, q0, q1, q2, q3, q4]) rfl ?_
          have hno : w.heap.size + 1 < w.heap.size → False := fun q => absurd q (by omega)
          have hmf := (Mod.setCell (p := ⟨w.heap.size + 1, 4, none⟩) (Mod.setCell (p := ⟨w.heap.size + 1, 3, none⟩) (Mod.setCell (p := ⟨w.heap.size + 1, 2, none⟩) (Mod.setCell (p := ⟨w.heap.size + 1, 1, none⟩) (Mod.setCell (p := ⟨w.heap.size + 1, 0, none⟩) Hm2.out hno (.slice rs.DA rs.D.length rs.dc)) hno (.slice rs.WA rs.W.length rs.wc)) hno (.bool rs.armed)) hno (.bool rs.dead)) hno (.int .i64 rs.left)).alloc (.cells #[.slice rs.DA rs.D.length rs.dc, .slice rs.WA rs.W.length rs.wc, .bool rs.armed, .bool rs.dead, .int .i64 rs.left] 31)
          exact ⟨rs, rfl, Hat.out.keep hmf, Hal.out, hmf⟩
      · have e1 : d.writeE i n = 1 := by unfold Dk.writeE; rw [if_pos hr, if_neg h256]
        have e2 : d.write i ys = d := by unfold Dk.write; rw [if_neg (fun q => h256 (by rw [← hy.len]; exact q.2))]
        have hne : ((n : Int) != 256) = true := by rw [bne_iff_ne]; omega
        rw [e1, e2, RV.v_eq, hdead]
        have Hd := Lib.hid hd
        have H := Lib.hid h
        have Hdead := Lib.hid hdead
        clear e1 e2 hr hdd hreach hlen hd h hdead hy hM h256 hin
        go_enter Try.func14, Try.ntmps14
        go_wp2
        refine bodyPost_ret (v := .tuple #[.agg #[.slice r.DA r.D.length r.dc, .slice r.WA r.W.length r.wc, .bool r.armed, .bool false, .int .i64 r.left], .int .i64 1]) (by simp [results, Try.results14, go_sem]) rfl ⟨r, by rw [RV.v_eq, Hdead.out], ?_, Hd.out, ?_⟩
        · exact H.out.keep (((Mod.refl _ w).alloc _).alloc _)
        · exact ((Mod.refl _ w).alloc _).alloc _
    · have hr : d.reach i = 3 := by unfold Dk.reach; rw [if_neg (by rw [hdd]; decide), if_neg (by rw [← hlen]; exact hin)]
      have e1 : d.writeE i n = 3 := by unfold Dk.writeE; rw [if_neg (by rw [hr]; decide), hr]
      have e2 : d.write i ys = d := by unfold Dk.write; rw [if_neg (fun q => by rw [hr] at q; cases q.1)]
      rw [e1, e2, RV.v_eq, hdead]
      have Hd := Lib.hid hd
      have H := Lib.hid h
      have Hdead := Lib.hid hdead
      by_cases h0 : i < 0
      · have hd0 : decide (i < 0) = true := by simpa using h0
        clear e1 e2 hr hdd hreach hlen hd h hdead hy hM hin h0
        go_enter Try.func14, Try.ntmps14
        go_wp2
        refine bodyPost_ret (v := .tuple #[.agg #[.slice r.DA r.D.length r.dc, .slice r.WA r.W.length r.wc, .bool r.armed, .bool false, .int .i64 r.left], .int .i64 3]) (by simp [results, Try.results14, go_sem]) rfl ⟨r, by rw [RV.v_eq, Hdead.out], ?_, Hd.out, ?_⟩
        · exact H.out.keep (((Mod.refl _ w).alloc _).alloc _)
        · exact ((Mod.refl _ w).alloc _).alloc _
      · have hd0 : decide (i < 0) = false := by simpa using h0
        have hd1 : decide ((r.D.length : Int) ≤ i) = true := by simp; omega
        clear e1 e2 hr hdd hreach hlen hd h hdead hy hM hin h0
        go_enter Try.func14, Try.ntmps14
        go_wp2
        refine bodyPost_ret (v := .tuple #[.agg #[.slice r.DA r.D.length r.dc, .slice r.WA r.W.length r.wc, .bool r.armed, .bool false, .int .i64 r.left], .int .i64 3]) (by simp [results, Try.results14, go_sem]) rfl ⟨r, by rw [RV.v_eq, Hdead.out], ?_, Hd.out, ?_⟩
        · exact H.out.keep (((Mod.refl _ w).alloc _).alloc _)
        · exact ((Mod.refl _ w).alloc _).alloc _
end Go.Proofs.Ytfgngmoeedegiaa
