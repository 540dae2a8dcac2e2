/-
  The document's answer for layer 5: Put, Stamped.
-/
import Derived.Test.YtgeodpflaebbgaaRefs7
namespace Go.Proofs.Ytgeodpflaebbgaa
open Go Go.RowKit

/-- The document's page: its records in a row of the law's own, their values in old memory. -/
structure Rf (w0 W : World) (A : Option Addr) (n c : Nat) (g : Pg) : Prop where
  ex : ∃ L, OwN W w0.heap.size 49 2 A n c (prs L) ∧ Vals w0 (fun _ => True) L g.l
  old : Mod (fun _ => False) w0 W
section
variable {w0 W W' : World} {A : Option Addr} {n c : Nat} {g : Pg}
theorem Rf.kv (h : Rf w0 W A n c g) : Kv W A n c g.l := by
  obtain ⟨L, h1, h2⟩ := h.ex
  exact ⟨L, h1.pl, h2.keep h.old⟩
theorem Rf.keep (h : Rf w0 W A n c g) (hm : Mod (fun _ => False) W W') : Rf w0 W' A n c g := by
  obtain ⟨L, h1, h2⟩ := h.ex
  exact ⟨⟨L, h1.mod hm (fun _ _ => id), h2⟩, h.old.trans hm (fun _ _ h => h)⟩
/-- A box of a Page is turned. -/
theorem Rf.page {b : Nat} {cs : Array Value} {fr : Nat × Nat} (h : Rf w0 W A n c g) (hm : Mod (fun j => j = b) W W') (hb : W.heap[b]? = some (.cells cs 31 fr)) (hlo : w0.heap.size ≤ b) : Rf w0 W' A n c g := by
  obtain ⟨L, h1, h2⟩ := h.ex
  refine ⟨⟨L, h1.mod hm (fun k hk e => ?_), h2⟩, h.old.trans hm (fun k hk e => by omega)⟩
  subst e
  obtain ⟨cur, hc⟩ := h1.typed hk
  rw [hb] at hc
  injection hc with hc
  injection hc with _ hc
  exact absurd hc (by decide)
end

set_option maxRecDepth 100000 in
set_option maxHeartbeats 2000000 in
theorem rstamp_ok (w0 w : World) (A : Option Addr) (n c : Nat) (g : Pg) (h : Rf w0 w A n c g) (k : Int) :
    Calls Try.prog 14 #[.agg #[.int .i64 g.id, .int .i64 g.lsn, .slice A n c], .int .i64 k] w fun e w' => e = .returned (.tuple #[.agg #[.int .i64 (stampP g k).2.id, .int .i64 (stampP g k).2.lsn, .slice A n c], .int .i64 (stampP g k).1]) ∧ Rf w0 w' A n c (stampP g k).2 ∧ Mod (fun _ => False) w w' := by
  have hm : ∀ x : Obj, Mod (fun _ => False) w ((w.alloc (.cells #[.int .i64 g.id, .int .i64 g.lsn, .slice A n c] 31)).alloc x) := fun x => ((Mod.refl _ w).alloc _).alloc _
  have Hm := Lib.hid hm
  have Hr := Lib.hid (fun x => h.keep (hm x))
  have hv : (stampP g k).2.l = g.l := by unfold stampP; split <;> rfl
  have Hv := Lib.hid hv
  clear hm h hv
  have fin : ∀ x, Rf w0 ((w.alloc (.cells #[.int .i64 g.id, .int .i64 g.lsn, .slice A n c] 31)).alloc x) A n c (stampP g k).2 := fun x => by
    obtain ⟨L, h1, h2⟩ := (Hr.out x).ex
    exact ⟨⟨L, h1, by rw [Hv.out]; exact h2⟩, (Hr.out x).old⟩
  have Hfin := Lib.hid fin
  clear fin
  by_cases h0 : k < 0
  · have hd : decide (k < 0) = true := by simpa using h0
    have Hp : Hid (stampP g k = (1, g)) := by show _ = _; unfold stampP; rw [if_pos (.inl h0)]
    go_enter Try.func14, Try.ntmps14
    go_wp2
    refine bodyPost_ret (v := .tuple #[.agg #[.int .i64 g.id, .int .i64 g.lsn, .slice A n c], .int .i64 1]) (by simp [results, Try.results14, go_sem]) rfl ?_
    exact ⟨by rw [Hp.out], Hfin.out _, Hm.out _⟩
  · have hd : decide (k < 0) = false := by simpa using h0
    by_cases h1 : 4294967295 < k
    · have hd1 : decide (4294967295 < k) = true := by simpa using h1
      have Hp : Hid (stampP g k = (1, g)) := by show _ = _; unfold stampP; rw [if_pos (.inr h1)]
      go_enter Try.func14, Try.ntmps14
      go_wp2
      refine bodyPost_ret (v := .tuple #[.agg #[.int .i64 g.id, .int .i64 g.lsn, .slice A n c], .int .i64 1]) (by simp [results, Try.results14, go_sem]) rfl ?_
      exact ⟨by rw [Hp.out], Hfin.out _, Hm.out _⟩
    · have hd1 : decide (4294967295 < k) = false := by simpa using h1
      have Hp : Hid (stampP g k = (0, ⟨g.id, k, g.l⟩)) := by show _ = _; unfold stampP; rw [if_neg (by omega)]
      go_enter Try.func14, Try.ntmps14
      go_wp2
      refine bodyPost_ret (v := .tuple #[.agg #[.int .i64 g.id, .int .i64 k, .slice A n c], .int .i64 0]) (by simp [results, Try.results14, go_sem]) rfl ?_
      exact ⟨by rw [Hp.out], Hfin.out _, Hm.out _⟩

set_option maxRecDepth 100000 in
set_option maxHeartbeats 8000000 in
theorem rput_ok (w0 w : World) (A : Option Addr) (n c : Nat) (g : Pg) (h : Rf w0 w A n c g) (hg : Good g) (k : Int) (is : Bool) (B : Option Addr) (m d : Nat) (vs : List UInt8) (hB : Sl w0 B m d vs) :
    Calls Try.prog 15 #[.agg #[.int .i64 g.id, .int .i64 g.lsn, .slice A n c], .int .i64 k, .agg #[.bool is, .slice B m d]] w fun e w' => ∃ A' n' c', e = .returned (.tuple #[.agg #[.int .i64 (putP g k is vs).2.id, .int .i64 (putP g k is vs).2.lsn, .slice A' n' c'], .int .i64 (putP g k is vs).1]) ∧ Rf w0 w' A' n' c' (putP g k is vs).2 ∧ Mod (fun _ => False) w w' := by
  have hvl := hB.len
  have hm : ∀ x : Obj, Mod (fun _ => False) w (((w.alloc (.cells #[.int .i64 g.id, .int .i64 g.lsn, .slice A n c] 31)).alloc (.cells #[.bool is, .slice B m d] 34)).alloc x) := fun x => (((Mod.refl _ w).alloc _).alloc _).alloc _
  have Hm := Lib.hid hm
  have Hr := Lib.hid (fun x => h.keep (hm x))
  by_cases h0 : k < 0
  · have hd : decide (k < 0) = true := by simpa using h0
    have Hp : Hid (putP g k is vs = (1, g)) := by show _ = _; unfold putP; rw [if_pos (.inl h0)]
    clear h hm
    go_enter Try.func15, Try.ntmps15
    go_wp2
    refine bodyPost_ret (v := .tuple #[.agg #[.int .i64 g.id, .int .i64 g.lsn, .slice A n c], .int .i64 1]) (by simp [results, Try.results15, go_sem]) rfl ?_
    rw [Hp.out]
    exact ⟨_, _, _, rfl, Hr.out _, Hm.out _⟩
  have hd0 : decide (k < 0) = false := by simpa using h0
  by_cases h1 : 65535 < k
  · have hd1 : decide (65535 < k) = true := by simpa using h1
    have Hp : Hid (putP g k is vs = (1, g)) := by show _ = _; unfold putP; rw [if_pos (.inr h1)]
    clear h hm
    go_enter Try.func15, Try.ntmps15
    go_wp2
    refine bodyPost_ret (v := .tuple #[.agg #[.int .i64 g.id, .int .i64 g.lsn, .slice A n c], .int .i64 1]) (by simp [results, Try.results15, go_sem]) rfl ?_
    rw [Hp.out]
    exact ⟨_, _, _, rfl, Hr.out _, Hm.out _⟩
  have hd1 : decide (65535 < k) = false := by simpa using h1
  have hm3 := hm (.cells #[.int .i64 0, .int .i64 0, .slice none 0 0] 31)
  obtain ⟨w3, hw3⟩ : ∃ w3, w3 = ((w.alloc (.cells #[.int .i64 g.id, .int .i64 g.lsn, .slice A n c] 31)).alloc (.cells #[.bool is, .slice B m d] 34)).alloc (.cells #[.int .i64 0, .int .i64 0, .slice none 0 0] 31) := ⟨_, rfl⟩
  rw [← hw3] at hm3
  have hbP : w3.heap[w.heap.size]? = some (.cells #[.int .i64 g.id, .int .i64 g.lsn, .slice A n c] 31 (0, 0)) := by
    rw [hw3]; exact (Below.heap_alloc _ _ _ (by simp only [World.size_alloc]; omega)).trans ((Below.heap_alloc _ _ _ (by simp only [World.size_alloc]; omega)).trans (heap_alloc_new w _))
  have hbV : w3.heap[w.heap.size + 1]? = some (.cells #[.bool is, .slice B m d] 34 (0, 0)) := by
    have := heap_alloc_new (w.alloc (.cells #[.int .i64 g.id, .int .i64 g.lsn, .slice A n c] 31)) (.cells #[.bool is, .slice B m d] 34)
    rw [World.size_alloc] at this
    rw [hw3]; exact (Below.heap_alloc _ _ _ (by simp only [World.size_alloc]; omega)).trans this
  have hbR : w3.heap[w.heap.size + 2]? = some (.cells #[.int .i64 0, .int .i64 0, .slice none 0 0] 31 (0, 0)) := by
    have := heap_alloc_new ((w.alloc (.cells #[.int .i64 g.id, .int .i64 g.lsn, .slice A n c] 31)).alloc (.cells #[.bool is, .slice B m d] 34)) (.cells #[.int .i64 0, .int .i64 0, .slice none 0 0] 31)
    simp only [World.size_alloc] at this
    rw [hw3]; exact this
  have keepB : ∀ {b : Nat} {o : Obj} (_ : w3.heap[b]? = some o) (W : World), Mod (fun _ => False) w3 W → W.heap[b]? = some o := fun hb W hmW => (hmW.block _ (Array.getElem?_eq_some_iff.1 hb).1 id).trans hb
  have Hbr : Hid (∀ W, Mod (fun _ => False) w3 W → W.heap[w.heap.size + 2]? = some (.cells #[.int .i64 0, .int .i64 0, .slice none 0 0] 31 (0, 0))) := fun W hW => keepB hbR W hW
  have Hpc : Hid (∀ W, Mod (fun _ => False) w3 W → W.cell? ⟨w.heap.size, 0, none⟩ = some (.int .i64 g.id) ∧ W.cell? ⟨w.heap.size, 1, none⟩ = some (.int .i64 g.lsn) ∧ W.cell? ⟨w.heap.size, 2, none⟩ = some (.slice A n c) ∧ W.cell? ⟨w.heap.size + 1, 0, none⟩ = some (.bool is) ∧ W.cell? ⟨w.heap.size + 1, 1, none⟩ = some (.slice B m d)) := fun W hW => by
    have p1 := keepB hbP W hW
    have p2 := keepB hbV W hW
    exact ⟨by rw [cell_of_row _ _ _ _ _ _ p1]; rfl, by rw [cell_of_row _ _ _ _ _ _ p1]; rfl, by rw [cell_of_row _ _ _ _ _ _ p1]; rfl, by rw [cell_of_row _ _ _ _ _ _ p2]; rfl, by rw [cell_of_row _ _ _ _ _ _ p2]; rfl⟩
  have Hrc : Hid (∀ W, Mod (fun _ => False) w3 W → W.cell? ⟨w.heap.size + 2, 0, none⟩ = some (.int .i64 0) ∧ W.cell? ⟨w.heap.size + 2, 1, none⟩ = some (.int .i64 0) ∧ W.cell? ⟨w.heap.size + 2, 2, none⟩ = some (.slice none 0 0) ∧ W.frozen? ⟨w.heap.size + 2, 0, none⟩ = false ∧ W.frozen? ⟨w.heap.size + 2, 1, none⟩ = false ∧ W.frozen? ⟨w.heap.size + 2, 2, none⟩ = false) := fun W hW => by
    have p1 := keepB hbR W hW
    exact ⟨by rw [cell_of_row _ _ _ _ _ _ p1]; rfl, by rw [cell_of_row _ _ _ _ _ _ p1]; rfl, by rw [cell_of_row _ _ _ _ _ _ p1]; rfl, frozen_of_block p1 0, frozen_of_block p1 1, frozen_of_block p1 2⟩
  have hR3 := h.keep hm3
  obtain ⟨L, hown, hval⟩ := hR3.ex
  have hLs : Srt L := hval.srt hg.srt
  have hcnt := hg.count
  have hLl := hval.len
  have hnl : L.length = n := hown.pl.len
  have Hwo := Lib.hid (without_ok w3 A n c L hown.pl hLs (by omega) k)
  have Hlo : Hid (w0.heap.size ≤ w.heap.size + 2) := by show _ ≤ _; have := h.old.size; omega
  have Hval := Lib.hid hval
  have HR3 := Lib.hid hR3
  have Hm3 := Lib.hid hm3
  have Hold3 := Lib.hid hR3.old
  have HLs := Lib.hid hLs
  have Hg := Lib.hid hg
  have HB := Lib.hid hB
  -- a row of ours, as the document's page
  have mkRf : ∀ (W : World) (A' : Option Addr) (c' : Nat) (O : List Pr) (rs : List Rec) (i s : Int), Row w3 A' c' O W → Vals w0 (fun _ => True) O rs → Rf w0 W A' O.length c' ⟨i, s, rs⟩ := fun W A' c' O rs i s hr hv => ⟨⟨O, (hr.from Hold3.out).own, hv⟩, Hold3.out.trans hr.old (fun _ _ h => h)⟩
  have HmkRf := Lib.hid mkRf
  clear h hm hm3 hbP hbV hbR keepB hR3 hown hval hLs hg hB mkRf Hr Hm
  obtain ⟨p0, p1, p2, p3, p4⟩ := Hpc.out w3 (Mod.refl _ _)
  have hw3' := hw3
  go_enter Try.func15, Try.ntmps15
  rw [hw3'] at p0 p1 p2 p3 p4
  clear hw3'
  go_wp2_with fail
  rw [← hw3]
  clear hw3 p0 p1 p2 p3 p4
  refine Hwo.out.mono ?_
  rintro e w4 ⟨A4, c4, rfl, hrow⟩
  obtain ⟨p0, p1, p2, p3, p4⟩ := Hpc.out w4 hrow.old
  obtain ⟨q0, q1, q2, f0, f1, f2⟩ := Hrc.out w4 hrow.old
  have Hrow := Lib.hid hrow
  have Hold := Lib.hid (Hm3.out.trans hrow.old (fun _ _ h => h))
  clear hrow Hwo
  cases is with
  | false =>
    have Hp : Hid (putP g k false vs = (0, ⟨g.id, g.lsn, mDel k g.l⟩)) := by show _ = _; unfold putP; rw [if_neg (by omega), if_pos rfl]
    have Hrf := Lib.hid (HmkRf.out w4 A4 c4 _ (mDel k g.l) g.id g.lsn Hrow.out (Hval.out.del (k := k)))
    generalize (mDel k L).length = n4 at *
    go_wp2
    obtain ⟨hmf, hbf⟩ := box3 (Hbr.out w4 Hrow.out.old) (.int .i64 g.id) (.int .i64 g.lsn) (.slice A4 n4 c4)
    have r0 := (cell_of_row _ _ 0 _ _ _ hbf).trans (show _ = some (Value.int .i64 g.id) from rfl)
    have r1 := (cell_of_row _ _ 1 _ _ _ hbf).trans (show _ = some (Value.int .i64 g.lsn) from rfl)
    have r2 := (cell_of_row _ _ 2 _ _ _ hbf).trans (show _ = some (Value.slice A4 n4 c4) from rfl)
    refine bodyPost_ret (v := .tuple #[.agg #[.int .i64 g.id, .int .i64 g.lsn, .slice A4 n4 c4], .int .i64 0]) (by simp [results, Try.results15, go_sem, r0, r1, r2]) rfl ?_
    rw [Hp.out]
    exact ⟨_, _, _, rfl, Rf.page Hrf.out hmf (Hbr.out w4 Hrow.out.old) Hlo.out, Hold.out.trans hmf (fun j hj e => by omega)⟩
  | true =>
    by_cases hm32 : 32 < m
    · have Hp : Hid (putP g k true vs = (2, g)) := by show _ = _; unfold putP; rw [if_neg (by omega), if_neg (by simp), if_pos (by omega)]
      have Hrf := Lib.hid (HR3.out.keep Hrow.out.old)
      go_wp2
      obtain ⟨hmf, hbf⟩ := box3 (Hbr.out w4 Hrow.out.old) (.int .i64 g.id) (.int .i64 g.lsn) (.slice A n c)
      have r0 := (cell_of_row _ _ 0 _ _ _ hbf).trans (show _ = some (Value.int .i64 g.id) from rfl)
      have r1 := (cell_of_row _ _ 1 _ _ _ hbf).trans (show _ = some (Value.int .i64 g.lsn) from rfl)
      have r2 := (cell_of_row _ _ 2 _ _ _ hbf).trans (show _ = some (Value.slice A n c) from rfl)
      refine bodyPost_ret (v := .tuple #[.agg #[.int .i64 g.id, .int .i64 g.lsn, .slice A n c], .int .i64 2]) (by simp [results, Try.results15, go_sem, r0, r1, r2]) rfl ?_
      rw [Hp.out]
      exact ⟨_, _, _, rfl, Rf.page Hrf.out hmf (Hbr.out w4 Hrow.out.old) Hlo.out, Hold.out.trans hmf (fun j hj e => by omega)⟩
    · have hdl : (mDel k L).length ≤ 60 := by have := mDel_len k L; omega
      have Hw := Lib.hid (with_ok w4 A4 (mDel k L).length c4 (mDel k L) Hrow.out.own.pl HLs.out.del (by omega) k (mDel_nokey HLs.out) B m d)
      rw [mSet_del HLs.out] at Hw
      have hsl : (mSet k (⟨B, m, d⟩ : Sv) L).length ≤ 61 := by have := mSet_len k (⟨B, m, d⟩ : Sv) L; omega
      have Hvs : Hid (Vals w0 (fun _ => True) (mSet k (⟨B, m, d⟩ : Sv) L) (mSet k vs g.l)) := Vals.set (v := ⟨B, m, d⟩) HB.out (fun _ _ _ => trivial) Hval.out
      generalize (mDel k L).length = n4 at *
      go_wp2_with fail
      refine Hw.out.mono ?_
      rintro e w5 ⟨A5, c5, rfl, hrow5⟩
      have hrow5' := hrow5.from Hrow.out.old
      have hrf5 := HmkRf.out w5 A5 c5 _ (mSet k vs g.l) g.id g.lsn hrow5' Hvs.out
      obtain ⟨s0, s1, s2, s3, s4⟩ := Hpc.out w5 hrow5'.old
      obtain ⟨t0, t1, t2, u0, u1, u2⟩ := Hrc.out w5 hrow5'.old
      have hus := rused_ok w5 A5 _ c5 (mSet k vs g.l) hrf5.kv (fun r hr => by
        rcases mem_mSet hr with e | e
        · subst e; simp only; omega
        · have := Hg.out.val r e; omega) (by omega)
      have Hus := Lib.hid hus
      have Hrf := Lib.hid hrf5
      have Hold5 := Lib.hid (Hm3.out.trans hrow5'.old (fun _ _ h => h))
      have Hm35 := Lib.hid hrow5'.old
      have HRg := Lib.hid (HR3.out.keep hrow5'.old)
      clear hus hrf5 hrow5 hrow5' Hold p0 p1 p2 p3 p4 q0 q1 q2 f0 f1 f2 Hw
      have Hold := Hold5
      generalize (mSet k (⟨B, m, d⟩ : Sv) L).length = n5 at *
      go_wp2_with fail
      refine Hus.out.mono ?_
      rintro e w6 ⟨rfl, rfl⟩
      by_cases hu240 : 240 < usedL (mSet k vs g.l)
      · have Hp : Hid (putP g k true vs = (4, g)) := by show _ = _; unfold putP; rw [if_neg (by omega), if_neg (by simp), if_neg (by omega), if_pos hu240]
        have hdu : decide ((240 : Int) < (usedL (mSet k vs g.l) : Int)) = true := by rw [decide_eq_true_eq]; omega
        clear hu240 Hus
        generalize (usedL (mSet k vs g.l) : Int) = U at *
        go_wp2
        obtain ⟨hmf, hbf⟩ := box3 (Hbr.out w6 Hm35.out) (.int .i64 g.id) (.int .i64 g.lsn) (.slice A n c)
        have r0 := (cell_of_row _ _ 0 _ _ _ hbf).trans (show _ = some (Value.int .i64 g.id) from rfl)
        have r1 := (cell_of_row _ _ 1 _ _ _ hbf).trans (show _ = some (Value.int .i64 g.lsn) from rfl)
        have r2 := (cell_of_row _ _ 2 _ _ _ hbf).trans (show _ = some (Value.slice A n c) from rfl)
        refine bodyPost_ret (v := .tuple #[.agg #[.int .i64 g.id, .int .i64 g.lsn, .slice A n c], .int .i64 4]) (by simp [results, Try.results15, go_sem, r0, r1, r2]) rfl ?_
        rw [Hp.out]
        exact ⟨_, _, _, rfl, Rf.page HRg.out hmf (Hbr.out w6 Hm35.out) Hlo.out, Hold.out.trans hmf (fun j hj e => by omega)⟩
      · have Hp : Hid (putP g k true vs = (0, ⟨g.id, g.lsn, mSet k vs g.l⟩)) := by show _ = _; unfold putP; rw [if_neg (by omega), if_neg (by simp), if_neg (by omega), if_neg hu240]
        have hdu : decide ((240 : Int) < (usedL (mSet k vs g.l) : Int)) = false := by rw [decide_eq_false_iff_not]; omega
        clear hu240 Hus
        generalize (usedL (mSet k vs g.l) : Int) = U at *
        go_wp2
        obtain ⟨hmf, hbf⟩ := box3 (Hbr.out w6 Hm35.out) (.int .i64 g.id) (.int .i64 g.lsn) (.slice A5 n5 c5)
        have r0 := (cell_of_row _ _ 0 _ _ _ hbf).trans (show _ = some (Value.int .i64 g.id) from rfl)
        have r1 := (cell_of_row _ _ 1 _ _ _ hbf).trans (show _ = some (Value.int .i64 g.lsn) from rfl)
        have r2 := (cell_of_row _ _ 2 _ _ _ hbf).trans (show _ = some (Value.slice A5 n5 c5) from rfl)
        refine bodyPost_ret (v := .tuple #[.agg #[.int .i64 g.id, .int .i64 g.lsn, .slice A5 n5 c5], .int .i64 0]) (by simp [results, Try.results15, go_sem, r0, r1, r2]) rfl ?_
        rw [Hp.out]
        exact ⟨_, _, _, rfl, Rf.page Hrf.out hmf (Hbr.out w6 Hm35.out) Hlo.out, Hold.out.trans hmf (fun j hj e => by omega)⟩
end Go.Proofs.Ytgeodpflaebbgaa
