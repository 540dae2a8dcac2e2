/-
  PageDoes: any calls of any page answer, and make the page, that the document says.
-/
import Derived.Test.YtgeodpflaebbgaaSameW
namespace Go.Proofs.Ytgeodpflaebbgaa
open Go Go.RowKit

/-- Both pages: the program's, the document's, and the box of the latter. -/
structure Both (w W : World) (q bR : Nat) (A : Option Addr) (n c : Nat) (g : Pg) : Prop where
  lv : Lv w W q g
  rf : Rf w W A n c g
  box : W.heap[bR]? = some (.cells #[.int .i64 g.id, .int .i64 g.lsn, .slice A n c] 31 (0, 0))
  lo : w.heap.size ≤ bR
section
variable {w W W' : World} {q bR : Nat} {A : Option Addr} {n c : Nat} {g : Pg}
theorem Both.keep (h : Both w W q bR A n c g) (hm : Mod (fun _ => False) W W') : Both w W' q bR A n c g :=
  ⟨h.lv.keep hm, h.rf.keep hm, (hm.block _ (Array.getElem?_eq_some_iff.1 h.box).1 id).trans h.box, h.lo⟩
theorem Both.cells (h : Both w W q bR A n c g) : W.cell? ⟨bR, 0, none⟩ = some (.int .i64 g.id) ∧ W.cell? ⟨bR, 1, none⟩ = some (.int .i64 g.lsn) ∧ W.cell? ⟨bR, 2, none⟩ = some (.slice A n c) :=
  ⟨by rw [cell_of_row _ _ _ _ _ _ h.box]; rfl, by rw [cell_of_row _ _ _ _ _ _ h.box]; rfl, by rw [cell_of_row _ _ _ _ _ _ h.box]; rfl⟩
theorem Both.frozen (h : Both w W q bR A n c g) (i : Nat) : W.frozen? ⟨bR, i, none⟩ = false := frozen_of_block h.box i
/-- A page's block is no box of a Page. -/
theorem Lv.nobox {b : Nat} {cs : Array Value} {fr : Nat × Nat} (h : Lv w W q g) (hb : W.heap[b]? = some (.cells cs 31 fr)) : q ≠ b := fun e => by
  have h1 := h.at_.blk
  rw [e, hb] at h1
  injection h1 with h1
  injection h1 with _ h1
  exact absurd h1 (by decide)
/-- Another box of a Page is turned. -/
theorem Both.other {b : Nat} {cs : Array Value} {fr : Nat × Nat} (h : Both w W q bR A n c g) (hm : Mod (fun j => j = b) W W') (hb : W.heap[b]? = some (.cells cs 31 fr)) (hlo : w.heap.size ≤ b) (hne : bR ≠ b) : Both w W' q bR A n c g :=
  ⟨h.lv.mod hm (h.lv.nobox hb) (fun k hk e => by omega), h.rf.page hm hb hlo, (hm.block _ (Array.getElem?_eq_some_iff.1 h.box).1 hne).trans h.box, h.lo⟩
end

set_option maxRecDepth 100000 in
set_option maxHeartbeats 8000000 in
theorem does_walk (d0 : Int) (A : Option Addr) (n c : Nat) (l : List OpD) (w : World) (hl : OpsAt w A n c l) (k : Int) :
    Calls Try.prog 3 #[.int .i64 d0, .slice A n c, .int .i64 k] w fun e w' => e = .returned (.bool true) ∧ Below w.heap.size w w' := by
  have Hops := Lib.hid hl
  have hll := hl.len
  have Hfew := Lib.hid (fun W hm => few_ok W A n c l (hl.keep (w' := W) hm))
  clear hl
  go_enter Try.func3, Try.ntmps3
  go_wp2_with fail
  refine (awake_ok _).mono ?_
  rintro e w1 ⟨rfl, hm1⟩
  have Hm1 := Lib.hid hm1
  clear hm1
  go_wp2_with fail
  refine (Hfew.out _ Hm1.out).mono ?_
  rintro e w2 ⟨rfl, rfl⟩
  have Hend := Lib.hid (Hm1.out.below (Nat.le_refl _) (fun _ _ => id))
  cases hfew : fewB l with
  | false =>
    clear hfew
    go_wp2
    go_ret
    exact ⟨rfl, Hend.out⟩
  | true =>
    have hn60 : n ≤ 60 := by
      unfold fewB at hfew
      simp at hfew
      omega
    clear hfew Hend
    by_cases hr : d0 < 0 ∨ 65535 < d0
    · have Hnew := Lib.hid (new_bad w2 d0 hr)
      have Hend := Lib.hid ((Hm1.out.alloc (.cells #[.int .i64 d0, .int .i64 0, .slice none 0 0] 31)).below (Nat.le_refl _) (fun _ _ => id))
      by_cases h0 : d0 < 0
      · have hd : decide (d0 < 0) = true := by simpa using h0
        clear hr
        go_wp2_with fail
        refine Hnew.out.mono ?_
        rintro e w3 ⟨rfl, rfl⟩
        go_wp2
        go_ret
        exact ⟨rfl, Hend.out⟩
      · have hd : decide (d0 < 0) = false := by simpa using h0
        have hd1 : decide (65535 < d0) = true := by simpa using hr.resolve_left h0
        clear hr
        go_wp2_with fail
        refine Hnew.out.mono ?_
        rintro e w3 ⟨rfl, rfl⟩
        go_wp2
        go_ret
        exact ⟨rfl, Hend.out⟩
    · have hd : decide (d0 < 0) = false := by rw [decide_eq_false_iff_not]; omega
      have hd1 : decide (65535 < d0) = false := by rw [decide_eq_false_iff_not]; omega
      have Hnew := Lib.hid (lv_new w w2 Hm1.out d0 (by omega) (by omega))
      clear hr
      go_wp2_with fail
      refine Hnew.out.mono ?_
      rintro e w3 ⟨q0, rfl, h0, _⟩
      have hB0 : Both w (w3.alloc (.cells #[.int .i64 d0, .int .i64 0, .slice none 0 0] 31)) q0 w3.heap.size none 0 0 ⟨d0, 0, []⟩ := by
        have hma : Mod (fun _ => False) w3 (w3.alloc (.cells #[.int .i64 d0, .int .i64 0, .slice none 0 0] 31)) := (Mod.refl _ w3).alloc _
        exact ⟨h0.keep hma, ⟨⟨[], OwN.nil _ _ _ _, trivial⟩, h0.old.trans hma (fun _ _ h => h)⟩, heap_alloc_new w3 _, h0.old.size⟩
      have HB0 := Lib.hid hB0
      clear h0 hB0 Hnew
      go_wp2_with fail
      generalize w3.alloc (.cells #[.int .i64 d0, .int .i64 0, .slice none 0 0] 31) = w3b at *
      generalize w3.heap.size = bR at *
      go_loopw [9, 12] (fun p i wr => ∃ (j q : Nat) (g : Pg) (A' : Option Addr) (n' c' : Nat), j ≤ n ∧ i = .int .i64 j ∧ p = .slice (some ⟨q, 0, none⟩) 248 248 ∧ Both w wr q bR A' n' c' g) (fun _ i _ => n - (intOf i).toNat)
      case atStart => exact ⟨0, q0, _, none, 0, 0, by omega, rfl, rfl, HB0.out⟩
      case round =>
        obtain ⟨j, q, g, A', n', c', hj, rfl, rfl, hB⟩ := hrel
        have HB := Lib.hid hB
        by_cases hlt : j < n
        · obtain ⟨y, hy⟩ : ∃ y, l[j]? = some y := ⟨_, List.getElem?_eq_getElem (by omega)⟩
          have Hcs : Hid (∀ W, Mod (fun _ => False) w W → ∃ b o, A = some ⟨b, o, none⟩ ∧ y.Cells W b (o + j * 4)) := fun W hm => by
            obtain ⟨b, o, e, hc⟩ := (Hops.out.keep hm).cells (by omega)
            exact ⟨b, o, e, hc j y hy⟩
          have Hyv : Hid (Sl w y.val.B y.val.m y.val.d y.val.vs) := Hops.out.vals y (List.mem_of_getElem? hy)
          obtain ⟨b, o, rfl, c0, c1, c2, c3⟩ := Hcs.out wr hB.lv.old
          have Hdo := Lib.hid (does_ok w wr q g hB.lv y (Hyv.out.mod hB.lv.old (fun _ _ _ => id)))
          clear hy hB
          go_wp2_with fail
          refine Hdo.out.mono ?_
          rintro e w4 ⟨hans, hm4⟩
          have HB4 := Lib.hid (HB.out.keep hm4)
          obtain ⟨r0, r1, r2⟩ := HB4.out.cells
          have hma : Mod (fun _ => False) w4 (w4.alloc (.cells #[.int .i64 g.id, .int .i64 g.lsn, .slice A' n' c'] 31)) := (Mod.refl _ w4).alloc _
          have hB5 := HB4.out.keep hma
          have hbS : (w4.alloc (.cells #[.int .i64 g.id, .int .i64 g.lsn, .slice A' n' c'] 31)).heap[w4.heap.size]? = some (.cells #[.int .i64 g.id, .int .i64 g.lsn, .slice A' n' c'] 31 (0, 0)) := heap_alloc_new w4 _
          obtain ⟨_, _, e', d0', d1', d2', d3'⟩ := Hcs.out _ hB5.lv.old
          injection e' with e'
          injection e' with e1 e2
          subst e1 e2
          obtain ⟨s0, s1, s2⟩ := hB5.cells
          have HB5 := Lib.hid hB5
          have HbS := Lib.hid hbS
          have hbRS : bR < w4.heap.size := (Array.getElem?_eq_some_iff.1 HB4.out.box).1
          have hlo4 : w.heap.size ≤ w4.heap.size := HB4.out.lv.old.size
          -- what does has answered, in one word
          have Hans : Hid (∃ PA pn pc, e = .returned (.tuple #[.slice PA pn pc, .int .i64 (opP g y).1]) ∧ (((opP g y).1 = 0 ∧ ∃ q', PA = some ⟨q', 0, none⟩ ∧ pn = 248 ∧ pc = 248 ∧ Lv w w4 q' (opP g y).2) ∨ ((opP g y).1 ≠ 0 ∧ pn = 0))) := by
            rcases hans with ⟨h1, q', h2, h3⟩ | ⟨h1, h2⟩
            · exact ⟨_, _, _, by rw [h2, h1], .inl ⟨h1, q', rfl, rfl, rfl, h3⟩⟩
            · exact ⟨_, _, _, h2, .inr ⟨h1, rfl⟩⟩
          obtain ⟨PA, pn, pc, rfl, hor⟩ := Hans.out
          have Hor := Lib.hid hor
          clear hans Hans hor hma hB5 hbS Hdo c0 c1 c2 c3 hm4
          obtain ⟨w5, hw5⟩ : ∃ w5, w5 = w4.alloc (.cells #[.int .i64 g.id, .int .i64 g.lsn, .slice A' n' c'] 31) := ⟨_, rfl⟩
          have hd5 : w4.alloc (.cells #[.int .i64 g.id, .int .i64 g.lsn, .slice A' n' c'] 31) = w5 := hw5.symm
          rw [hd5] at HB5 HbS d0' d1' d2' d3' s0 s1 s2
          clear hw5
          have hblt : b < w.heap.size := by
            obtain ⟨_, _, e', q0, _⟩ := Hcs.out w (Mod.refl _ _)
            injection e' with e'
            injection e' with e1 e2
            subst e1 e2
            exact World.block_lt_of_cell? w _ q0
          have HSall : Hid (∀ W, Mod (fun _ => False) w5 W → W.cell? ⟨bR, 0, none⟩ = some (.int .i64 g.id) ∧ W.cell? ⟨bR, 1, none⟩ = some (.int .i64 g.lsn) ∧ W.cell? ⟨bR, 2, none⟩ = some (.slice A' n' c') ∧ W.cell? ⟨b, o + j * 4 + 1, none⟩ = some (.int .i64 y.k) ∧ W.cell? ⟨b, o + j * 4 + 2, none⟩ = some (.bool y.val.is) ∧ W.cell? ⟨b, o + j * 4 + 3, none⟩ = some (.slice y.val.B y.val.m y.val.d)) := fun W hm => by
            obtain ⟨_, _, e', q0, q1, q2, q3⟩ := Hcs.out W (HB5.out.lv.old.trans hm (fun _ _ h => h))
            injection e' with e'
            injection e' with e1 e2
            subst e1 e2
            obtain ⟨t0, t1, t2⟩ := (HB5.out.keep hm).cells
            exact ⟨t0, t1, t2, q1, q2, q3⟩
          have HSst : Hid (∀ (W : World) (u0 u1 u2 : Value), W.cell? ⟨bR, 0, none⟩ = some (.int .i64 g.id) ∧ W.cell? ⟨bR, 1, none⟩ = some (.int .i64 g.lsn) ∧ W.cell? ⟨bR, 2, none⟩ = some (.slice A' n' c') ∧ W.cell? ⟨b, o + j * 4 + 1, none⟩ = some (.int .i64 y.k) ∧ W.cell? ⟨b, o + j * 4 + 2, none⟩ = some (.bool y.val.is) ∧ W.cell? ⟨b, o + j * 4 + 3, none⟩ = some (.slice y.val.B y.val.m y.val.d) → (((W.setCell ⟨w4.heap.size, 0, none⟩ u0).setCell ⟨w4.heap.size, 1, none⟩ u1).setCell ⟨w4.heap.size, 2, none⟩ u2).cell? ⟨bR, 0, none⟩ = some (.int .i64 g.id) ∧ (((W.setCell ⟨w4.heap.size, 0, none⟩ u0).setCell ⟨w4.heap.size, 1, none⟩ u1).setCell ⟨w4.heap.size, 2, none⟩ u2).cell? ⟨bR, 1, none⟩ = some (.int .i64 g.lsn) ∧ (((W.setCell ⟨w4.heap.size, 0, none⟩ u0).setCell ⟨w4.heap.size, 1, none⟩ u1).setCell ⟨w4.heap.size, 2, none⟩ u2).cell? ⟨bR, 2, none⟩ = some (.slice A' n' c') ∧ (((W.setCell ⟨w4.heap.size, 0, none⟩ u0).setCell ⟨w4.heap.size, 1, none⟩ u1).setCell ⟨w4.heap.size, 2, none⟩ u2).cell? ⟨b, o + j * 4 + 1, none⟩ = some (.int .i64 y.k) ∧ (((W.setCell ⟨w4.heap.size, 0, none⟩ u0).setCell ⟨w4.heap.size, 1, none⟩ u1).setCell ⟨w4.heap.size, 2, none⟩ u2).cell? ⟨b, o + j * 4 + 2, none⟩ = some (.bool y.val.is) ∧ (((W.setCell ⟨w4.heap.size, 0, none⟩ u0).setCell ⟨w4.heap.size, 1, none⟩ u1).setCell ⟨w4.heap.size, 2, none⟩ u2).cell? ⟨b, o + j * 4 + 3, none⟩ = some (.slice y.val.B y.val.m y.val.d)) := fun W u0 u1 u2 h => by
            have far : ∀ x, x ≠ w4.heap.size → ∀ i, (((W.setCell ⟨w4.heap.size, 0, none⟩ u0).setCell ⟨w4.heap.size, 1, none⟩ u1).setCell ⟨w4.heap.size, 2, none⟩ u2).cell? ⟨x, i, none⟩ = W.cell? ⟨x, i, none⟩ := fun x hx i =>
              World.cell?_of_block ((Below.heap_setCell _ ⟨w4.heap.size, 2, none⟩ u2 x hx).trans ((Below.heap_setCell _ ⟨w4.heap.size, 1, none⟩ u1 x hx).trans (Below.heap_setCell W ⟨w4.heap.size, 0, none⟩ u0 x hx)))
            obtain ⟨h0, h1, h2, h3, h4, h5⟩ := h
            exact ⟨(far bR (by omega) _).trans h0, (far bR (by omega) _).trans h1, (far bR (by omega) _).trans h2, (far b (by omega) _).trans h3, (far b (by omega) _).trans h4, (far b (by omega) _).trans h5⟩
          have HbSc : Hid (∀ W, Mod (fun _ => False) w5 W → W.cell? ⟨w4.heap.size, 0, none⟩ = some (.int .i64 g.id) ∧ W.cell? ⟨w4.heap.size, 1, none⟩ = some (.int .i64 g.lsn) ∧ W.cell? ⟨w4.heap.size, 2, none⟩ = some (.slice A' n' c') ∧ W.frozen? ⟨w4.heap.size, 0, none⟩ = false ∧ W.frozen? ⟨w4.heap.size, 1, none⟩ = false ∧ W.frozen? ⟨w4.heap.size, 2, none⟩ = false) := fun W hm => by
            have hb := (hm.block _ (Array.getElem?_eq_some_iff.1 HbS.out).1 id).trans HbS.out
            exact ⟨by rw [cell_of_row _ _ _ _ _ _ hb]; rfl, by rw [cell_of_row _ _ _ _ _ _ hb]; rfl, by rw [cell_of_row _ _ _ _ _ _ hb]; rfl, frozen_of_block hb 0, frozen_of_block hb 1, frozen_of_block hb 2⟩
          have hm45 : Mod (fun _ => False) w4 w5 := by rw [← hd5]; exact (Mod.refl _ w4).alloc _
          have Hor5 : Hid (((opP g y).1 = 0 ∧ ∃ q', PA = some ⟨q', 0, none⟩ ∧ pn = 248 ∧ pc = 248 ∧ Lv w w5 q' (opP g y).2) ∨ ((opP g y).1 ≠ 0 ∧ pn = 0)) := by
            rcases Hor.out with ⟨h1, q', h2, h3, h4, h5⟩ | h
            · exact .inl ⟨h1, q', h2, h3, h4, h5.keep hm45⟩
            · exact .inr h
          clear Hor hm45
          cases hst : y.stamp with
          | true =>
            have hop : opP g y = stampP g y.k := by unfold opP; rw [if_pos hst]
            rw [hop] at Hor5 ⊢
            rw [hst] at d0'
            have hs1 := rstamp_ok w w5.drew A' n' c' g (HB5.out.rf.keep (Mod.refl _ w5).drew) y.k
            have Hst : Hid (Calls Try.prog 14 #[.agg #[.int .i64 g.id, .int .i64 g.lsn, .slice A' n' c'], .int .i64 y.k] w5.drew fun e w' => ∃ A2 n2 c2, e = .returned (.tuple #[.agg #[.int .i64 (stampP g y.k).2.id, .int .i64 (stampP g y.k).2.lsn, .slice A2 n2 c2], .int .i64 (stampP g y.k).1]) ∧ Rf w w' A2 n2 c2 (stampP g y.k).2 ∧ Mod (fun _ => False) w5.drew w') := hs1.mono (fun e w' h => ⟨_, _, _, h⟩)
            clear hop hst hs1
            go_wp2_with fail
            clear hd5 d0' d1' d2' d3' s0 s1 s2 r0 r1 r2
            have M5 : Hid (Mod (fun _ => False) w5 w5.drew) := (Mod.refl _ w5).drew
            go_region_held3 (fun w' => w'.cell? ⟨bR, 0, none⟩ = some (.int .i64 g.id) ∧ w'.cell? ⟨bR, 1, none⟩ = some (.int .i64 g.lsn) ∧ w'.cell? ⟨bR, 2, none⟩ = some (.slice A' n' c') ∧ w'.cell? ⟨b, o + j * 4 + 1, none⟩ = some (.int .i64 y.k) ∧ w'.cell? ⟨b, o + j * 4 + 2, none⟩ = some (.bool y.val.is) ∧ w'.cell? ⟨b, o + j * 4 + 3, none⟩ = some (.slice y.val.B y.val.m y.val.d)) (first | exact HSall.out _ M5.out | exact HSall.out _ hm6 | exact HSst.out _ _ _ _ (HSall.out _ hm6)) ((go_at_call 14; refine Hst.out.mono ?_; rintro e w6 ⟨A2, n2, c2, rfl, hrf, hm56⟩; have hm6 := M5.out.trans hm56 (fun _ _ h => h); obtain ⟨y0, y1, y2, y3, y4, y5⟩ := HbSc.out w6 hm6))
            all_goals
              obtain ⟨hmf, hbf⟩ := box3 ((hm6.block _ (Array.getElem?_eq_some_iff.1 HbS.out).1 id).trans HbS.out) (.int .i64 (stampP g y.k).2.id) (.int .i64 (stampP g y.k).2.lsn) (.slice A2 n2 c2)
              have hbS6 := (hm6.block _ (Array.getElem?_eq_some_iff.1 HbS.out).1 id).trans HbS.out
              have HB7 := Lib.hid ((HB5.out.keep hm6).other hmf hbS6 hlo4 (by omega))
              have HR7 := Lib.hid (hrf.page hmf hbS6 hlo4)
              have HbS7 := Lib.hid hbf
              have Hor7 : Hid (((stampP g y.k).1 = 0 ∧ ∃ q', PA = some ⟨q', 0, none⟩ ∧ pn = 248 ∧ pc = 248 ∧ Lv w (((w6.setCell ⟨w4.heap.size, 0, none⟩ (.int .i64 (stampP g y.k).2.id)).setCell ⟨w4.heap.size, 1, none⟩ (.int .i64 (stampP g y.k).2.lsn)).setCell ⟨w4.heap.size, 2, none⟩ (.slice A2 n2 c2)) q' (stampP g y.k).2) ∨ ((stampP g y.k).1 ≠ 0 ∧ pn = 0)) := by
                rcases Hor5.out with ⟨h1, q', h2, h3, h4, h5⟩ | h
                · exact .inl ⟨h1, q', h2, h3, h4, (h5.keep hm6).mod hmf ((h5.keep hm6).nobox hbS6) (fun k hk e => by omega)⟩
                · exact .inr h
              clear hm56 hm6 hrf hmf hbf hbS6 y0 y1 y2 y3 y4 y5 Hor5 M5 HSall HSst HbSc Hst
              generalize (((w6.setCell ⟨w4.heap.size, 0, none⟩ (.int .i64 (stampP g y.k).2.id)).setCell ⟨w4.heap.size, 1, none⟩ (.int .i64 (stampP g y.k).2.lsn)).setCell ⟨w4.heap.size, 2, none⟩ (.slice A2 n2 c2)) = w7 at *
              rcases Hor7.out with ⟨h1, q', rfl, rfl, rfl, hq7⟩ | ⟨h1, rfl⟩
              · have x0 : w7.cell? ⟨w4.heap.size, 0, none⟩ = some (.int .i64 (stampP g y.k).2.id) := by rw [cell_of_row _ _ _ _ _ _ HbS7.out]; rfl
                have x1 : w7.cell? ⟨w4.heap.size, 1, none⟩ = some (.int .i64 (stampP g y.k).2.lsn) := by rw [cell_of_row _ _ _ _ _ _ HbS7.out]; rfl
                have x2 : w7.cell? ⟨w4.heap.size, 2, none⟩ = some (.slice A2 n2 c2) := by rw [cell_of_row _ _ _ _ _ _ HbS7.out]; rfl
                obtain ⟨z0, z1, z2⟩ := HB7.out.cells
                have g0 := HB7.out.frozen 0
                have g1 := HB7.out.frozen 1
                have g2 := HB7.out.frozen 2
                obtain ⟨hmf, hbf⟩ := box3 HB7.out.box (.int .i64 (stampP g y.k).2.id) (.int .i64 (stampP g y.k).2.lsn) (.slice A2 n2 c2)
                have hB8 : Both w (((w7.setCell ⟨bR, 0, none⟩ (.int .i64 (stampP g y.k).2.id)).setCell ⟨bR, 1, none⟩ (.int .i64 (stampP g y.k).2.lsn)).setCell ⟨bR, 2, none⟩ (.slice A2 n2 c2)) q' bR A2 n2 c2 (stampP g y.k).2 :=
                  ⟨hq7.mod hmf (hq7.nobox HB7.out.box) (fun k hk e => by have := HB7.out.lo; omega), HR7.out.page hmf HB7.out.box HB7.out.lo, hbf, HB7.out.lo⟩
                obtain ⟨v0, v1, v2⟩ := hB8.cells
                have Hsm := Lib.hid (psame_ok w _ q' (stampP g y.k).2 hB8.lv A2 n2 c2 hB8.rf k)
                have HB8 := Lib.hid hB8
                rw [h1]
                clear hmf hbf hB8 hq7 h1 Hor7 HB HB4 HB5 HbS
                go_wp2_with fail
                refine Hsm.out.mono ?_
                rintro e w9 ⟨rfl, hm9⟩
                have HB9 := Lib.hid (HB8.out.keep hm9)
                clear hm9 Hsm
                go_wp2
                go_roundw
                case rel => exact ⟨j + 1, q', _, A2, n2, c2, by omega, by go_num, rfl, HB9.out⟩
                case measure => simp [intOf]; omega
              · have h1' : ((stampP g y.k).1 != 0) = true := by simpa using h1
                have h1'' : ((stampP g y.k).1 == 0) = false := by simpa using h1
                obtain ⟨z0, z1, z2⟩ := HB7.out.cells
                have Hsm := Lib.hid (psame_ok w w7 q g HB7.out.lv A' n' c' HB7.out.rf k)
                clear h1 Hor7 HB HB4 HB5 HbS HbS7
                generalize (stampP g y.k).1 = er at *
                go_wp2_with fail
                refine Hsm.out.mono ?_
                rintro e w9 ⟨rfl, hm9⟩
                have HB9 := Lib.hid (HB7.out.keep hm9)
                clear hm9 Hsm
                go_wp2
                go_roundw
                case rel => exact ⟨j + 1, q, g, A', n', c', by omega, by go_num, rfl, HB9.out⟩
                case measure => simp [intOf]; omega
          | false =>
            have hop : opP g y = putP g y.k y.val.is y.val.vs := by unfold opP; rw [if_neg (by rw [hst]; simp)]
            rw [hop] at Hor5 ⊢
            rw [hst] at d0'
            have Hst := Lib.hid (rput_ok w w5.drew A' n' c' g (HB5.out.rf.keep (Mod.refl _ w5).drew) HB5.out.lv.good y.k y.val.is y.val.B y.val.m y.val.d y.val.vs Hyv.out)
            clear hop hst
            go_wp2_with fail
            clear hd5 d0' d1' d2' d3' s0 s1 s2 r0 r1 r2
            have M5 : Hid (Mod (fun _ => False) w5 w5.drew) := (Mod.refl _ w5).drew
            go_region_held3 (fun w' => w'.cell? ⟨bR, 0, none⟩ = some (.int .i64 g.id) ∧ w'.cell? ⟨bR, 1, none⟩ = some (.int .i64 g.lsn) ∧ w'.cell? ⟨bR, 2, none⟩ = some (.slice A' n' c') ∧ w'.cell? ⟨b, o + j * 4 + 1, none⟩ = some (.int .i64 y.k) ∧ w'.cell? ⟨b, o + j * 4 + 2, none⟩ = some (.bool y.val.is) ∧ w'.cell? ⟨b, o + j * 4 + 3, none⟩ = some (.slice y.val.B y.val.m y.val.d)) (first | exact HSall.out _ M5.out | exact HSall.out _ hm6 | exact HSst.out _ _ _ _ (HSall.out _ hm6)) ((go_at_call 15; refine Hst.out.mono ?_; rintro e w6 ⟨A2, n2, c2, rfl, hrf, hm56⟩; have hm6 := M5.out.trans hm56 (fun _ _ h => h); obtain ⟨y0, y1, y2, y3, y4, y5⟩ := HbSc.out w6 hm6))
            all_goals
              obtain ⟨hmf, hbf⟩ := box3 ((hm6.block _ (Array.getElem?_eq_some_iff.1 HbS.out).1 id).trans HbS.out) (.int .i64 (putP g y.k y.val.is y.val.vs).2.id) (.int .i64 (putP g y.k y.val.is y.val.vs).2.lsn) (.slice A2 n2 c2)
              have hbS6 := (hm6.block _ (Array.getElem?_eq_some_iff.1 HbS.out).1 id).trans HbS.out
              have HB7 := Lib.hid ((HB5.out.keep hm6).other hmf hbS6 hlo4 (by omega))
              have HR7 := Lib.hid (hrf.page hmf hbS6 hlo4)
              have HbS7 := Lib.hid hbf
              have Hor7 : Hid (((putP g y.k y.val.is y.val.vs).1 = 0 ∧ ∃ q', PA = some ⟨q', 0, none⟩ ∧ pn = 248 ∧ pc = 248 ∧ Lv w (((w6.setCell ⟨w4.heap.size, 0, none⟩ (.int .i64 (putP g y.k y.val.is y.val.vs).2.id)).setCell ⟨w4.heap.size, 1, none⟩ (.int .i64 (putP g y.k y.val.is y.val.vs).2.lsn)).setCell ⟨w4.heap.size, 2, none⟩ (.slice A2 n2 c2)) q' (putP g y.k y.val.is y.val.vs).2) ∨ ((putP g y.k y.val.is y.val.vs).1 ≠ 0 ∧ pn = 0)) := by
                rcases Hor5.out with ⟨h1, q', h2, h3, h4, h5⟩ | h
                · exact .inl ⟨h1, q', h2, h3, h4, (h5.keep hm6).mod hmf ((h5.keep hm6).nobox hbS6) (fun k hk e => by omega)⟩
                · exact .inr h
              clear hm56 hm6 hrf hmf hbf hbS6 y0 y1 y2 y3 y4 y5 Hor5 M5 HSall HSst HbSc Hst
              generalize (((w6.setCell ⟨w4.heap.size, 0, none⟩ (.int .i64 (putP g y.k y.val.is y.val.vs).2.id)).setCell ⟨w4.heap.size, 1, none⟩ (.int .i64 (putP g y.k y.val.is y.val.vs).2.lsn)).setCell ⟨w4.heap.size, 2, none⟩ (.slice A2 n2 c2)) = w7 at *
              rcases Hor7.out with ⟨h1, q', rfl, rfl, rfl, hq7⟩ | ⟨h1, rfl⟩
              · have x0 : w7.cell? ⟨w4.heap.size, 0, none⟩ = some (.int .i64 (putP g y.k y.val.is y.val.vs).2.id) := by rw [cell_of_row _ _ _ _ _ _ HbS7.out]; rfl
                have x1 : w7.cell? ⟨w4.heap.size, 1, none⟩ = some (.int .i64 (putP g y.k y.val.is y.val.vs).2.lsn) := by rw [cell_of_row _ _ _ _ _ _ HbS7.out]; rfl
                have x2 : w7.cell? ⟨w4.heap.size, 2, none⟩ = some (.slice A2 n2 c2) := by rw [cell_of_row _ _ _ _ _ _ HbS7.out]; rfl
                obtain ⟨z0, z1, z2⟩ := HB7.out.cells
                have g0 := HB7.out.frozen 0
                have g1 := HB7.out.frozen 1
                have g2 := HB7.out.frozen 2
                obtain ⟨hmf, hbf⟩ := box3 HB7.out.box (.int .i64 (putP g y.k y.val.is y.val.vs).2.id) (.int .i64 (putP g y.k y.val.is y.val.vs).2.lsn) (.slice A2 n2 c2)
                have hB8 : Both w (((w7.setCell ⟨bR, 0, none⟩ (.int .i64 (putP g y.k y.val.is y.val.vs).2.id)).setCell ⟨bR, 1, none⟩ (.int .i64 (putP g y.k y.val.is y.val.vs).2.lsn)).setCell ⟨bR, 2, none⟩ (.slice A2 n2 c2)) q' bR A2 n2 c2 (putP g y.k y.val.is y.val.vs).2 :=
                  ⟨hq7.mod hmf (hq7.nobox HB7.out.box) (fun k hk e => by have := HB7.out.lo; omega), HR7.out.page hmf HB7.out.box HB7.out.lo, hbf, HB7.out.lo⟩
                obtain ⟨v0, v1, v2⟩ := hB8.cells
                have Hsm := Lib.hid (psame_ok w _ q' (putP g y.k y.val.is y.val.vs).2 hB8.lv A2 n2 c2 hB8.rf k)
                have HB8 := Lib.hid hB8
                rw [h1]
                clear hmf hbf hB8 hq7 h1 Hor7 HB HB4 HB5 HbS
                go_wp2_with fail
                refine Hsm.out.mono ?_
                rintro e w9 ⟨rfl, hm9⟩
                have HB9 := Lib.hid (HB8.out.keep hm9)
                clear hm9 Hsm
                go_wp2
                go_roundw
                case rel => exact ⟨j + 1, q', _, A2, n2, c2, by omega, by go_num, rfl, HB9.out⟩
                case measure => simp [intOf]; omega
              · have h1' : ((putP g y.k y.val.is y.val.vs).1 != 0) = true := by simpa using h1
                have h1'' : ((putP g y.k y.val.is y.val.vs).1 == 0) = false := by simpa using h1
                obtain ⟨z0, z1, z2⟩ := HB7.out.cells
                have Hsm := Lib.hid (psame_ok w w7 q g HB7.out.lv A' n' c' HB7.out.rf k)
                clear h1 Hor7 HB HB4 HB5 HbS HbS7
                generalize (putP g y.k y.val.is y.val.vs).1 = er at *
                go_wp2_with fail
                refine Hsm.out.mono ?_
                rintro e w9 ⟨rfl, hm9⟩
                have HB9 := Lib.hid (HB7.out.keep hm9)
                clear hm9 Hsm
                go_wp2
                go_roundw
                case rel => exact ⟨j + 1, q, g, A', n', c', by omega, by go_num, rfl, HB9.out⟩
                case measure => simp [intOf]; omega
        · obtain rfl : j = n := by omega
          have Hold := Lib.hid (hB.lv.old.below (Nat.le_refl _) (fun _ _ => id))
          clear hB
          go_wp2
          go_ret
          exact ⟨rfl, Hold.out⟩
end Go.Proofs.Ytgeodpflaebbgaa
