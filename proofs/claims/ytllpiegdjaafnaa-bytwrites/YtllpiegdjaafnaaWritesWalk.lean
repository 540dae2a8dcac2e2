/-
  What a call of the statement BytWrites does: it answers true, and turns nothing that was there.
-/
import Derived.Test.YtllpiegdjaafnaaAny
namespace Go.Proofs.Ytllpiegdjaafnaa
open Go Go.RowKit

set_option maxRecDepth 100000 in
set_option maxHeartbeats 1600000 in
theorem writes_walk (A : Option Addr) (n c : Nat) (l : List OpD) (w : World) (h : OpsAt w w.heap.size A n c l) :
    Calls Try.prog 3 #[.slice A n c] w fun e w' => e = .returned (.bool true) ∧ Below w.heap.size w w' := by
  go_enter Try.func3, Try.ntmps3
  go_wp2_with fail
  refine (awake_ok _).mono ?_
  rintro e w1 ⟨rfl, hm1⟩
  have h1 := h.mod (Nat.le_refl _) hm1 (fun _ _ => id)
  have hM1 : Mod (fun k => w.heap.size ≤ k) w w1 := hm1.mono (fun _ _ h => h.elim)
  have hs1 := hM1.size
  clear hm1
  go_wp2_with fail
  refine (few_ok _ _ _ _ _ _ h1).mono ?_
  rintro e w2 ⟨rfl, rfl⟩
  by_cases hf : fewB l = false
  · rw [hf]
    go_wp2
    go_ret
    exact ⟨rfl, hM1.below (Nat.le_refl _) (fun _ h => by omega)⟩
  · have hf' : fewB l = true := by simpa using hf
    rw [hf']
    have hn : n ≤ 60 := by
      simp only [fewB, Bool.and_eq_true, decide_eq_true_eq] at hf'
      have := h1.1; omega
    clear hf hf' h
    go_wp2
    have hw0 := Wr.new w1 w.heap.size hs1
    have hM2 : Mod (fun k => w.heap.size ≤ k) w1 (w1.alloc (.cells #[.slice none 0 0] 28)) := (Mod.refl _ w1).alloc _
    have hgs := Nat.le_refl w1.heap.size
    generalize hg : w1.heap.size = g at hw0 hgs ⊢
    have Hg := Lib.hid hg
    clear hg
    go_loopw [6, 7] (fun want i wr => ∃ (j : Nat) (A1 A2 : Option Addr) (c1 c2 : Nat), j ≤ n ∧ i = .int .i64 j ∧ want = .slice A2 (opsBytes (l.take j)).length c2 ∧
      Wr wr w.heap.size g A1 (opsBytes (l.take j)).length c1 (opsBytes (l.take j)) ∧ OwV wr w.heap.size 5 A2 (opsBytes (l.take j)).length c2 ((opsBytes (l.take j)).map bv) ∧
      (∀ k, blkOf A2 = some k → ¬ WF g A1 k) ∧ Mod (fun k => w.heap.size ≤ k) w1 wr) (fun _ i _ => n - (intOf i).toNat)
    case atStart => exact ⟨0, none, none, 0, 0, by omega, rfl, rfl, hw0, OwV.nil _ _ _, by simp [blkOf], hM2⟩
    case round =>
      obtain ⟨j, A1, A2, c1, c2, hj, rfl, rfl, hw, ho, hsep, hM⟩ := hrel
      by_cases hlt : j < n
      · obtain ⟨b, o, rfl, hbB, hcells⟩ := h1.2.2.1 (by omega)
        have hjl : j < l.length := by rw [h1.1]; exact hlt
        have hx := hcells j l[j] (List.getElem?_eq_getElem hjl)
        obtain ⟨q0, q1, q2, q3⟩ := hx
        have hbel : Below w.heap.size w1 wr := hM.below hs1 (fun _ h => by omega)
        have r0 := (hbel.cell (p := ⟨b, o + j * 4, none⟩) hbB).trans q0
        have r1 := (hbel.cell (p := ⟨b, o + j * 4 + 1, none⟩) hbB).trans q1
        have r2 := (hbel.cell (p := ⟨b, o + j * 4 + 2, none⟩) hbB).trans q2
        have r3 := (hbel.cell (p := ⟨b, o + j * 4 + 3, none⟩) hbB).trans q3
        clear hcells q0 q1 q2 q3
        have hxA := (h1.2.2.2 l[j] (List.getElem_mem hjl)).below hbel
        have Hsn := Lib.hid (opsBytes_snoc l j hjl)
        have hbl : (opsBytes (l.take j)).length ≤ 256 * 60 := by
          have := opsBytes_len (l.take j) (fun y hy => (h1.2.2.2 y (List.mem_of_mem_take hy)).1.1)
          have h3 : (l.take j).length ≤ j := List.length_take_le _ _
          omega
        obtain ⟨x, hxe⟩ : ∃ x, l[j] = x := ⟨_, rfl⟩
        rw [hxe] at r0 r1 r2 r3 hxA
        obtain ⟨hxw, hxB⟩ := hxA
        have hbx : x.bytes.length ≤ 256 := OpD.bytes_len hxw.1
        by_cases hlay : x.lay = true
        · have hbx2 : (layBytes x.m x.xs).length ≤ 256 := by simpa [OpD.bytes, hlay] using hbx
          rw [hlay] at r0
          go_wp2_with fail
          have hw1 : Wr (wr.alloc (.cells #[.bool true, .int .i64 x.n, .int .i64 x.width, .slice x.A x.m x.d] 30)) _ _ _ _ _ _ := hw.alloc _
          refine (lay_any _ _ _ _ _ _ _ hw1 (by omega) _ _ _ _ (hxw.alloc _) (fun k e hp hF => absurd hF (hw.wf (hxB k e hp)))).mono ?_
          rintro e w3 ⟨rfl, A3, c3, hw3, hm3, hh3⟩
          have hnew : ∀ i, w3.cell? ⟨wr.heap.size, i, none⟩ = (wr.alloc (.cells #[.bool true, .int .i64 x.n, .int .i64 x.width, .slice x.A x.m x.d] 30)).cell? ⟨wr.heap.size, i, none⟩ := fun i =>
            World.cell?_of_block (hm3.block wr.heap.size (by simp) (fun hF => by
              rcases hF with hF | hF
              · have := hw.lt; omega
              · have := (hw.2.2.lt _ hF).2; omega))
          have n3 : w3.cell? ⟨wr.heap.size, 3, none⟩ = some (.slice x.A x.m x.d) := by rw [hnew]; simp [cell_of_row _ _ _ _ _ _ (heap_alloc_new wr _)]
          have hx3 : Sl w3 x.A x.m x.d x.xs := (hxw.alloc _).mod hm3 (fun k e hp hF => absurd hF (hw.wf (hxB k e hp)))
          have hM3 : Mod (fun k => w.heap.size ≤ k) w1 w3 := hw1.step (hM.alloc _) hm3
          have ho3 : OwV w3 w.heap.size 5 A2 (opsBytes (l.take j)).length c2 ((opsBytes (l.take j)).map bv) := (ho.alloc _).mod hm3 hsep
          have hsep3 : ∀ k, blkOf A2 = some k → ¬ WF g A3 k := fun k e hF => by
            have hk := (ho.lt k e).2
            exact hsep k e (hh3.wf k (by simp; omega) hF)
          clear hnew hm3 hw1 r0 r1 r2 r3
          go_wp2_with fail
          refine (refLay_any _ _ _ _ _ hx3).mono ?_
          rintro e w4 ⟨A4, c4, rfl, hf4, hm4⟩
          have hM4 : Mod (fun k => w.heap.size ≤ k) w1 w4 := hM3.trans hm4 (fun _ _ h => h.elim)
          have ho4 := ho3.mod hm4 (fun _ _ => id)
          have hw4 := hw3.mod hm4 id (fun _ _ => id)
          have hs4 := hf4.sl.src
          have hml : (opsBytes (l.take j)).length + (layBytes x.m x.xs).length ≤ maxLen := by unfold maxLen; omega
          have hbs : ((opsBytes (l.take j)).length + (layBytes x.m x.xs).length) * 1 ≤ 140737488355328 := by omega
          have hbase : w.heap.size ≤ w4.heap.size := Nat.le_trans hs1 hM4.size
          go_wp2_with (at_builtin; refine wpList_app (.tmp 49) (.tmp 50) byteElem rfl rfl rfl rfl ho4 hs4 hbs hml hbase ?_)
          intro A5 c5 w5 ho5 hg5 hat5
          have hM5 : Mod (fun k => w.heap.size ≤ k) w1 w5 := hM4.grown hg5 (fun k e _ => (ho4.lt k e).1)
          have hw5 : Wr w5 w.heap.size g A3 _ c3 _ := hw4.mod ((Mod.refl (fun k => blkOf A2 = some k) w4).grown hg5 (fun k e _ => e)) (fun e => hsep3 g e (.inl rfl)) (fun k e e2 => hsep3 k e2 (.inr e))
          have hsep5 : ∀ k, blkOf A5 = some k → ¬ WF g A3 k := fun k e hF => by
            rcases hat5 with e5 | e5
            · exact hsep3 k (e5.symm.trans e) hF
            · rw [e5] at e; injection e with e
              rcases hF with hF | hF
              · have := hw4.lt; omega
              · have := (hw4.2.2.lt _ hF).2; omega
          have e1 : opsBytes (l.take (j + 1)) = opsBytes (l.take j) ++ layBytes x.m x.xs := by rw [Hsn.out, hxe]; simp [OpD.bytes, hlay]
          have HE := Lib.hid e1
          clear e1 hat5 hg5 ho4 ho3 hw3 hw4 hs4 hf4 hm4 hlay hsep hsep3
          go_wp2
          go_roundw
          case rel =>
            refine ⟨j + 1, A3, A5, c3, c5, by omega, by go_num, ?_, ?_, ?_, hsep5, hM5⟩
            · rw [HE.out, List.length_append]
            · rw [HE.out, List.length_append]; exact hw5
            · rw [HE.out, List.length_append, List.map_append]; exact ho5
          case measure => simp [intOf]; omega
        · have hlay : x.lay = false := by simpa using hlay
          have hbx2 : (putBytes x.n x.width).length ≤ 256 := by simpa [OpD.bytes, hlay] using hbx
          rw [hlay] at r0
          go_wp2_with fail
          have hw1 : Wr (wr.alloc (.cells #[.bool false, .int .i64 x.n, .int .i64 x.width, .slice x.A x.m x.d] 30)) _ _ _ _ _ _ := hw.alloc _
          refine (put_any _ _ _ _ _ _ _ hw1 (by omega) _ _).mono ?_
          rintro e w3 ⟨rfl, A3, c3, hw3, hm3, hh3⟩
          have hnew : ∀ i, w3.cell? ⟨wr.heap.size, i, none⟩ = (wr.alloc (.cells #[.bool false, .int .i64 x.n, .int .i64 x.width, .slice x.A x.m x.d] 30)).cell? ⟨wr.heap.size, i, none⟩ := fun i =>
            World.cell?_of_block (hm3.block wr.heap.size (by simp) (fun hF => by
              rcases hF with hF | hF
              · have := hw.lt; omega
              · have := (hw.2.2.lt _ hF).2; omega))
          have n1 : w3.cell? ⟨wr.heap.size, 1, none⟩ = some (.int .i64 x.n) := by rw [hnew]; simp [cell_of_row _ _ _ _ _ _ (heap_alloc_new wr _)]
          have n2 : w3.cell? ⟨wr.heap.size, 2, none⟩ = some (.int .i64 x.width) := by rw [hnew]; simp [cell_of_row _ _ _ _ _ _ (heap_alloc_new wr _)]
          have hM3 : Mod (fun k => w.heap.size ≤ k) w1 w3 := hw1.step (hM.alloc _) hm3
          have ho3 : OwV w3 w.heap.size 5 A2 (opsBytes (l.take j)).length c2 ((opsBytes (l.take j)).map bv) := (ho.alloc _).mod hm3 hsep
          have hsep3 : ∀ k, blkOf A2 = some k → ¬ WF g A3 k := fun k e hF => by
            have hk := (ho.lt k e).2
            exact hsep k e (hh3.wf k (by simp; omega) hF)
          clear hnew hm3 hw1 r0 r1 r2 r3
          go_wp2_with fail
          refine (refPut_any _ _ _).mono ?_
          rintro e w4 ⟨A4, c4, rfl, hf4, hm4⟩
          have hM4 : Mod (fun k => w.heap.size ≤ k) w1 w4 := hM3.trans hm4 (fun _ _ h => h.elim)
          have ho4 := ho3.mod hm4 (fun _ _ => id)
          have hw4 := hw3.mod hm4 id (fun _ _ => id)
          have hs4 := hf4.sl.src
          have hml : (opsBytes (l.take j)).length + (putBytes x.n x.width).length ≤ maxLen := by unfold maxLen; omega
          have hbs : ((opsBytes (l.take j)).length + (putBytes x.n x.width).length) * 1 ≤ 140737488355328 := by omega
          have hbase : w.heap.size ≤ w4.heap.size := Nat.le_trans hs1 hM4.size
          go_wp2_with (at_builtin; refine wpList_app (.tmp 69) (.tmp 70) byteElem rfl rfl rfl rfl ho4 hs4 hbs hml hbase ?_)
          intro A5 c5 w5 ho5 hg5 hat5
          have hM5 : Mod (fun k => w.heap.size ≤ k) w1 w5 := hM4.grown hg5 (fun k e _ => (ho4.lt k e).1)
          have hw5 : Wr w5 w.heap.size g A3 _ c3 _ := hw4.mod ((Mod.refl (fun k => blkOf A2 = some k) w4).grown hg5 (fun k e _ => e)) (fun e => hsep3 g e (.inl rfl)) (fun k e e2 => hsep3 k e2 (.inr e))
          have hsep5 : ∀ k, blkOf A5 = some k → ¬ WF g A3 k := fun k e hF => by
            rcases hat5 with e5 | e5
            · exact hsep3 k (e5.symm.trans e) hF
            · rw [e5] at e; injection e with e
              rcases hF with hF | hF
              · have := hw4.lt; omega
              · have := (hw4.2.2.lt _ hF).2; omega
          have e1 : opsBytes (l.take (j + 1)) = opsBytes (l.take j) ++ putBytes x.n x.width := by rw [Hsn.out, hxe]; simp [OpD.bytes, hlay]
          have HE := Lib.hid e1
          clear e1 hat5 hg5 ho4 ho3 hw3 hw4 hs4 hf4 hm4 hlay hsep hsep3
          go_wp2
          go_roundw
          case rel =>
            refine ⟨j + 1, A3, A5, c3, c5, by omega, by go_num, ?_, ?_, ?_, hsep5, hM5⟩
            · rw [HE.out, List.length_append]
            · rw [HE.out, List.length_append]; exact hw5
            · rw [HE.out, List.length_append, List.map_append]; exact ho5
          case measure => simp [intOf]; omega
      · have hbl : (opsBytes (l.take j)).length ≤ 256 * 60 := by
          have := opsBytes_len (l.take j) (fun y hy => (h1.2.2.2 y (List.mem_of_mem_take hy)).1.1)
          have h3 : (l.take j).length ≤ j := List.length_take_le _ _
          omega
        generalize opsBytes (l.take j) = ys at *
        go_wp2_with fail
        refine (bytes_ok _ _ _ _ _ _ _ hw (by omega)).mono ?_
        rintro e w3 ⟨rfl, hf3⟩
        have hs3 := hf3.sl rfl
        have hm3 := hf3.2.2
        have ho3 := (ho.mod hm3 (fun _ _ => id)).sl
        have hM3 : Mod (fun k => w.heap.size ≤ k) w1 w3 := hM.trans hm3 (fun _ _ h => h.elim)
        clear hf3 hm3
        go_wp2_with fail
        refine (same_ok _ _ _ _ _ _ _ _ _ hs3 ho3 (by omega) (by omega)).mono ?_
        rintro e w4 ⟨rfl, q, rfl⟩
        rw [eqB_self]
        go_wp2
        go_ret
        exact ⟨rfl, (hM1.trans (hM3.drewN q) (fun _ _ h => h)).below (Nat.le_refl _) (fun _ h => by omega)⟩
end Go.Proofs.Ytllpiegdjaafnaa
