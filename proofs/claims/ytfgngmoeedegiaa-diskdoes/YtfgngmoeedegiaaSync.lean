/-
  The contract of Disk.Sync.
-/
import Derived.Test.YtfgngmoeedegiaaWrite
namespace Go.Proofs.Ytfgngmoeedegiaa
open Go Go.RowKit

theorem lay_take {α : Type} (D : List α) (W : List (Nat × α)) (j : Nat) (y : Nat × α) (h : W[j]? = some y) : lay D (W.take (j + 1)) = (lay D (W.take j)).set y.1 y.2 := by
  obtain ⟨hj, e⟩ := List.getElem?_eq_some_iff.1 h
  rw [List.take_succ_eq_append_getElem hj, e, lay_snoc]

/-- A pending write's cells. -/
theorem DV.At.pendAt {w : World} {base : Nat} {x : DV} (h : x.At w base) (j : Nat) (y : Nat × Sct) (hy : x.W[j]? = some y) :
    ∃ g, x.pA = some ⟨g, 0, none⟩ ∧ w.cell? ⟨g, j * 2, none⟩ = some (.int .i64 y.1) ∧ w.cell? ⟨g, j * 2 + 1, none⟩ = some y.2.v := by
  have hj : j < x.W.length := (List.getElem?_eq_some_iff.1 hy).1
  obtain ⟨g, hg, hc⟩ := h.pend.cells (by omega)
  obtain ⟨p0, p1⟩ := pcells_get x.W j y hy
  exact ⟨g, hg, (hc _ (by omega)).trans p0, (hc _ (by omega)).trans p1⟩

theorem sync_done {w w1 : World} {base : Nat} {x : DV} (h : x.At w base) (hm : Mod (fun k => k = x.bd) w w1) (hd : OwV w1 base 61 (some ⟨x.bd, 0, none⟩) x.D.length x.cd ((lay x.D x.W).map Sct.v)) :
    ∃ x', Left w (w1.setCell ⟨x.p, 2, none⟩ (.slice none 0 0)) base x x' { x.dk with dur := x.dk.now, pend := [] } := by
  have hm2 : Mod (fun k => k = x.p) w1 (w1.setCell ⟨x.p, 2, none⟩ (.slice none 0 0)) := (Mod.refl _ w1).one _ _
  have hmod : Mod x.M w (w1.setCell ⟨x.p, 2, none⟩ (.slice none 0 0)) := (hm.mono (fun _ _ e => .inr (.inl e))).trans hm2 (fun _ _ e => .inl e)
  have ho1 : w1.heap[x.p]? = some (.cells x.obj 71 (0, 0)) := (hm.block _ (h.M_lt (.inl rfl)).2 h.d1).trans h.obj
  have hM : ∀ k, ({ x with D := lay x.D x.W, W := [], pA := none, cp := 0 } : DV).M k → x.M k := by
    rintro k (e | e | e | e)
    · exact .inl e
    · exact .inr (.inl e)
    · exact .inr (.inr (.inl e))
    · simp [blkOf] at e
  have hsec : ∀ t : Sct, t.At w x.M → t.At (w1.setCell ⟨x.p, 2, none⟩ (.slice none 0 0)) ({ x with D := lay x.D x.W, W := [], pA := none, cp := 0 } : DV).M := fun t ht => (ht.mod hmod).avoid (fun k _ hk => hM k hk)
  refine ⟨{ x with D := lay x.D x.W, W := [], pA := none, cp := 0 }, ⟨?_, ?_, ?_, OwN.nil _ _ _ _, ?_, by simp, h.pb, h.d1, h.d2, h.d3, by simp [blkOf], ?_, ?_, h.lft⟩, ?_, rfl, hmod, fun k hk => .inl (hM k hk), fun N _ hx => ⟨fun s hs => ?_, by simp⟩⟩
  · have := heap_set ho1 2 (.slice none 0 0)
    rw [this]
    simp [DV.obj, lay_len]
  · have := hd.mod hm2 (fun k hk e => by simp [blkOf] at hk; exact h.d1 (by omega))
    simpa [lay_len] using this
  · have := (h.now.mod hm (fun k hk e => by simp [blkOf] at hk; exact h.d3 (by omega))).mod hm2 (fun k hk e => by simp [blkOf] at hk; exact h.d2 (by omega))
    show OwV _ _ _ _ (lay x.D x.W).length x.cn ((lay x.D x.W).map Sct.v)
    rw [lay_len]
    exact this
  · intro s hs
    rcases mem_lay x.W x.D s hs with h1 | ⟨y, hy, e⟩
    · exact hsec s (h.secs s h1)
    · rw [← e]; exact hsec _ (h.wsecs y hy).2
  · show 0 < (lay x.D x.W).length; rw [lay_len]; exact h.pos
  · show (lay x.D x.W).length ≤ 4096; rw [lay_len]; exact h.few
  · rw [x.dk_now]; rfl
  · rcases mem_lay x.W x.D s hs with h1 | ⟨y, hy, e⟩
    · exact hx.1 s h1
    · rw [← e]; exact hx.2 y hy

set_option maxRecDepth 100000 in
set_option maxHeartbeats 1600000 in
theorem sync_ok (w : World) (base : Nat) (x : DV) (h : x.At w base) (hW : x.W.length ≤ 1000) :
    Calls Try.prog 15 #[.pointer (some ⟨x.p, 0, none⟩)] w fun e w' => e = .returned (.int .i64 x.dk.syncE) ∧ ∃ x', Left w w' base x x' x.dk.sync := by
  cases hd : x.dead with
  | true =>
    have e1 : x.dk.syncE = 30 := by simp [Dk.syncE, DV.dk, hd]
    have e2 : x.dk.sync = x.dk := by simp [Dk.sync, DV.dk, hd]
    rw [e1, e2]
    have HD := Lib.hid (dead_ok w base x h)
    rw [hd] at HD
    have HL := Lib.hid (Left.stay h)
    clear h e1 e2 hd
    go_enter Try.func15, Try.ntmps15
    go_wp2_with fail
    refine HD.out.mono ?_
    rintro e w' ⟨rfl, rfl⟩
    go_wp2
    go_ret
    exact ⟨rfl, x, HL.out⟩
  | false =>
    by_cases hs : x.dk.stepE = 0
    · have e1 : x.dk.syncE = 0 := by
        unfold Dk.syncE; rw [if_neg (by simp [DV.dk, hd]), hs]
      have e2 : x.dk.sync = { x.dk.stepD with dur := x.dk.now, pend := [] } := by
        unfold Dk.sync; rw [if_neg (by simp [DV.dk, hd]), if_pos hs]
      rw [e1, e2]
      have HD := Lib.hid (dead_ok w base x h)
      rw [hd] at HD
      have Hs := Lib.hid (step_ok w base x h)
      rw [hs] at Hs
      clear h e1 e2 hd hs
      go_enter Try.func15, Try.ntmps15
      go_wp2_with fail
      refine HD.out.mono ?_
      rintro e w' ⟨rfl, rfl⟩
      go_wp2_with fail
      refine Hs.out.mono ?_
      rintro e w1 ⟨rfl, x1, hL⟩
      have hW1 : x1.W.length = x.W.length := DV.dk_W (by rw [hL.dk, Dk.stepD_pend])
      have hp1 := hL.p
      rw [← hp1]
      have hW1' : x1.W.length ≤ 1000 := by omega
      obtain ⟨c0, c1, c2, c3, c4, c5⟩ := hL.at_.cells
      have HL := Lib.hid hL
      clear hL hW1 hp1 HD Hs hW c0 c1 c3 c4 c5
      go_wp2_with fail
      go_loopw [18] (fun i wr => ∃ j : Nat, j ≤ x1.W.length ∧ i = .int .i64 j ∧ Mod (fun k => k = x1.bd) w1 wr ∧ OwV wr base 61 (some ⟨x1.bd, 0, none⟩) x1.D.length x1.cd ((lay x1.D (x1.W.take j)).map Sct.v)) (fun i _ => x1.W.length - (intOf i).toNat)
      case atStart => exact ⟨0, by omega, rfl, Mod.refl _ _, HL.out.at_.dur⟩
      case round =>
        obtain ⟨j, hj, rfl, hm, hown⟩ := hrel
        have ho1 : wr.heap[x1.p]? = some (.cells x1.obj 71 (0, 0)) := (hm.block _ (HL.out.at_.M_lt (.inl rfl)).2 HL.out.at_.d1).trans HL.out.at_.obj
        by_cases hlt : j < x1.W.length
        · obtain ⟨y, hy⟩ : ∃ y, x1.W[j]? = some y := ⟨_, List.getElem?_eq_getElem hlt⟩
          obtain ⟨g, hg, hc0, hc1⟩ := HL.out.at_.pendAt j y hy
          have hgb : g < w1.heap.size ∧ g ≠ x1.bd := ⟨(HL.out.at_.M_lt (.inr (.inr (.inr (by rw [hg]; rfl))))).2, fun e => HL.out.at_.d4.2.1 (by rw [hg, ← e]; rfl)⟩
          have hc0' : wr.cell? ⟨g, j * 2, none⟩ = some (.int .i64 y.1) := (World.cell?_of_block (hm.block g hgb.1 hgb.2)).trans hc0
          have hc1' : wr.cell? ⟨g, j * 2 + 1, none⟩ = some (.slice y.2.A 256 y.2.c) := (World.cell?_of_block (hm.block g hgb.1 hgb.2)).trans hc1
          have hyl := (HL.out.at_.wsecs y (List.mem_of_getElem? hy)).1
          have hlay := lay_take x1.D x1.W j y hy
          rw [hg]
          have Hm := Lib.hid hm
          have Hown := Lib.hid hown
          have Ho1 := Lib.hid ho1
          have Hlay := Lib.hid hlay
          clear hc0 hc1 hgb hm hown ho1 hlay hy hg
          go_wp2_with fail
          obtain ⟨w2, hw2⟩ : ∃ w2, w2 = wr.alloc (.cells #[.int .i64 y.1, .slice y.2.A 256 y.2.c] 68) := ⟨_, rfl⟩
          rw [← hw2]
          have hm2 : Mod (fun _ => False) wr w2.drew := by rw [hw2]; exact ((Mod.refl _ _).alloc _).drew
          have hb2 : w2.heap[wr.heap.size]? = some (.cells #[.int .i64 y.1, .slice y.2.A 256 y.2.c] 68 (0, 0)) := by rw [hw2]; exact heap_alloc_new wr _
          have c20 : w2.cell? ⟨wr.heap.size, 0, none⟩ = some (.int .i64 y.1) := by rw [cell_of_row _ _ _ _ _ _ hb2]; rfl
          have c21 : w2.cell? ⟨wr.heap.size, 1, none⟩ = some (.slice y.2.A 256 y.2.c) := by rw [cell_of_row _ _ _ _ _ _ hb2]; rfl
          have ho2 : w2.drew.heap[x1.p]? = some (.cells x1.obj 71 (0, 0)) := (hm2.block _ (Array.getElem?_eq_some_iff.1 Ho1.out).1 id).trans Ho1.out
          have c2p : w2.cell? ⟨x1.p, 0, none⟩ = some (.slice (some ⟨x1.bd, 0, none⟩) x1.D.length x1.cd) := by
            show w2.drew.cell? _ = _
            rw [cell_of_row _ _ _ _ _ _ ho2]; rfl
          have hown2 : OwV w2.drew base 61 (some ⟨x1.bd, 0, none⟩) x1.D.length x1.cd ((lay x1.D (x1.W.take j)).map Sct.v) := Hown.out.mod hm2 (fun _ _ => id)
          obtain ⟨⟨u, cu, _⟩, fu⟩ := hown2.spot y.1 hyl
          have hset := hown2.set y.1 (.slice y.2.A 256 y.2.c)
          have hset' : Hid (OwV (w2.drew.setCell ⟨x1.bd, y.1, none⟩ (.slice y.2.A 256 y.2.c)) base 61 (some ⟨x1.bd, 0, none⟩) x1.D.length x1.cd ((lay x1.D (x1.W.take (j + 1))).map Sct.v)) := by
            rw [Hlay.out, ← map_set_v]; exact hset
          have hmset : Hid (Mod (fun k => k = x1.bd) w1 (w2.drew.setCell ⟨x1.bd, y.1, none⟩ (.slice y.2.A 256 y.2.c))) :=
            (Hm.out.trans hm2 (fun _ _ h => h.elim)).one _ _
          clear hw2 hm2 hb2 ho2 hown2 hset Hown Hlay Hm hc0' hc1'
          go_still_tail 8, (by kernel_rfl)
          change wpList _ _ _ _ _ w2.drew
          have cu' : w2.drew.cell? ⟨x1.bd, y.1, none⟩ = some u := cu
          have fu' : w2.drew.frozen? ⟨x1.bd, y.1, none⟩ = false := fu
          clear c20 c21 c2p cu fu
          generalize w2.drew = W2 at *
          go_wp2_with fail
          go_roundw
          case rel => exact ⟨j + 1, by omega, by go_num, hmset.out, hset'.out⟩
          case measure => simp [intOf]; omega
        · obtain rfl : j = x1.W.length := by omega
          rw [List.take_length] at hown
          have f1 := frozen_of_block ho1 2
          have c1 : wr.cell? ⟨x1.p, 2, none⟩ = some (.slice x1.pA x1.W.length x1.cp) := by rw [cell_of_row _ _ _ _ _ _ ho1]; rfl
          have HF := Lib.hid (sync_done HL.out.at_ hm hown)
          clear hm hown ho1
          go_wp2
          go_ret
          refine ⟨rfl, ?_⟩
          obtain ⟨x', hL'⟩ := HF.out
          have hfin := HL.out.trans hL'
          rw [HL.out.dk] at hfin
          have hn : x.dk.stepD.now = x.dk.now := by unfold Dk.now; rw [Dk.stepD_dur, Dk.stepD_pend]
          rw [hn] at hfin
          exact ⟨x', hfin⟩
    · have hE : x.dk.stepE = 30 := by
        unfold Dk.stepE at hs ⊢
        split at hs
        · rename_i h1; rw [if_pos h1]
        · exact absurd rfl hs
      have e1 : x.dk.syncE = 30 := by
        unfold Dk.syncE; rw [if_neg (by simp [DV.dk, hd]), hE]
      have e2 : x.dk.sync = x.dk.stepD := by
        unfold Dk.sync; rw [if_neg (by simp [DV.dk, hd]), if_neg hs]
      rw [e1, e2]
      have HD := Lib.hid (dead_ok w base x h)
      rw [hd] at HD
      have Hs := Lib.hid (step_ok w base x h)
      rw [hE] at Hs
      clear h e1 e2 hd hs hE
      go_enter Try.func15, Try.ntmps15
      go_wp2_with fail
      refine HD.out.mono ?_
      rintro e w' ⟨rfl, rfl⟩
      go_wp2_with fail
      refine Hs.out.mono ?_
      rintro e w1 ⟨rfl, x1, hL⟩
      have HL := Lib.hid hL
      clear hL
      go_wp2
      go_ret
      exact ⟨rfl, x1, HL.out⟩
end Go.Proofs.Ytfgngmoeedegiaa
