/-
  PageLast: a page keeps what was put last.
-/
import Derived.Test.YtgeodpflaebbgaaUsesW
namespace Go.Proofs.Ytgeodpflaebbgaa
open Go Go.RowKit

/-- What a Put that answers an error tells. -/
theorem putP_bad {g : Pg} {k : Int} {is : Bool} {v : List UInt8} (h : (putP g k is v).1 ≠ 0) :
    ((putP g k is v).1 = 1 ∧ (k < 0 ∨ 65535 < k)) ∨ ((putP g k is v).1 = 2 ∧ 32 < v.length) ∨ ((putP g k is v).1 = 4 ∧ is = true ∧ 240 < usedL g.l + 4 + v.length) := by
  unfold putP at h ⊢
  split at h
  · rename_i h1
    rw [if_pos h1]
    exact .inl ⟨rfl, h1⟩
  · rename_i h1
    rw [if_neg h1]
    split at h
    · simp at h
    · rename_i h2
      rw [if_neg h2]
      split at h
      · rename_i h3
        rw [if_pos h3]
        exact .inr (.inl ⟨rfl, h3⟩)
      · rename_i h3
        rw [if_neg h3]
        split at h
        · rename_i h4
          rw [if_pos h4]
          refine .inr (.inr ⟨rfl, by simpa using h2, ?_⟩)
          have := used_set k v g.l
          omega
        · simp at h
theorem mGet_set_same {α : Type} (k : Int) (v : α) (l : List (Int × α)) : mGet k (mSet k v l) = some v := by
  induction l with
  | nil => simp [mSet, mGet]
  | cons y l ih =>
    simp only [mSet]
    split
    · rename_i h; simp only [mGet]; rw [if_pos h, ih]
    · split
      · simp [mGet]
      · simp [mGet]
theorem mGet_set_other {α : Type} {k o : Int} (v : α) (l : List (Int × α)) (hs : Srt l) (h : o ≠ k) : mGet o (mSet k v l) = mGet o l := by
  induction l with
  | nil =>
    simp only [mSet, mGet]
    split
    · rfl
    · rw [if_neg (fun e => h e.symm)]
  | cons y l ih =>
    obtain ⟨h1, h2⟩ := List.pairwise_cons.1 hs
    simp only [mSet]
    split
    · simp only [mGet]; rw [ih h2]
    · split
      · rename_i e1 e2
        simp only [mGet]
        rw [e2]
        by_cases e3 : k < o
        · rw [if_pos e3, if_pos e3]
        · rw [if_neg e3, if_neg e3, if_neg (fun e => h e.symm), if_neg (fun e => h e.symm)]
      · rename_i e1 e2
        simp only [mGet]
        by_cases e3 : k < o
        · rw [if_pos e3]
        · rw [if_neg e3, if_neg (fun e => h e.symm), if_neg (by omega), if_neg (by omega)]
theorem mGet_del_same {α : Type} {k : Int} {l : List (Int × α)} (hs : Srt l) : mGet k (mDel k l) = none := by
  induction l with
  | nil => rfl
  | cons y l ih =>
    obtain ⟨h1, h2⟩ := List.pairwise_cons.1 hs
    simp only [mDel]
    split
    · rename_i e; simp only [mGet]; rw [if_pos e, ih h2]
    · split
      · rename_i e1 e2
        cases l with
        | nil => rfl
        | cons z l =>
          have := h1 z (List.mem_cons_self ..)
          simp only [mGet]
          rw [if_neg (by omega), if_neg (by omega)]
      · rename_i e1 e2; simp only [mGet]; rw [if_neg e1, if_neg e2]
theorem mGet_above {α : Type} {o : Int} {l : List (Int × α)} (h : ∀ z ∈ l, o < z.1) : mGet o l = none := by
  cases l with
  | nil => rfl
  | cons z l =>
    have := h z (List.mem_cons_self ..)
    simp only [mGet]
    rw [if_neg (by omega), if_neg (by omega)]
theorem mGet_del_other {α : Type} {k o : Int} {l : List (Int × α)} (hs : Srt l) (h : o ≠ k) : mGet o (mDel k l) = mGet o l := by
  induction l with
  | nil => rfl
  | cons y l ih =>
    obtain ⟨h1, h2⟩ := List.pairwise_cons.1 hs
    simp only [mDel]
    split
    · simp only [mGet]; rw [ih h2]
    · split
      · rename_i e1 e2
        simp only [mGet]
        by_cases e3 : y.1 < o
        · rw [if_pos e3]
        · rw [if_neg e3, if_neg (by omega)]
          exact mGet_above (fun z hz => by have := h1 z hz; omega)
      · rfl
theorem Lv.mod {F : Nat → Prop} {w0 w w' : World} {q : Nat} {g : Pg} (h : Lv w0 w q g) (hm : Mod F w w') (hq : ¬ F q) (ho : ∀ k, k < w0.heap.size → ¬ F k) : Lv w0 w' q g :=
  ⟨h.good, (hm.block q (Array.getElem?_eq_some_iff.1 h.at_.blk).1 hq).trans h.at_.blk, h.at_.lo, h.at_.old.trans hm (fun k hk e => ho k hk e)⟩
theorem Lv.lt {w0 w : World} {q : Nat} {g : Pg} (h : Lv w0 w q g) : q < w.heap.size := (Array.getElem?_eq_some_iff.1 h.at_.blk).1
/-- What is kept, and what is put. -/
def wantV (is : Bool) (v : List UInt8) : Option (List UInt8) := if is then some v else none
theorem put_get {g : Pg} (hg : Good g) {k : Int} {is : Bool} {v : List UInt8} : mGet k (if is then mSet k v g.l else mDel k g.l) = wantV is v := by
  cases is with
  | true => exact mGet_set_same k v g.l
  | false => exact mGet_del_same hg.srt
theorem put_other {g : Pg} (hg : Good g) {k o : Int} {is : Bool} {v : List UInt8} (h : o ≠ k) : mGet o (if is then mSet k v g.l else mDel k g.l) = mGet o g.l := by
  cases is with
  | true => exact mGet_set_other v g.l hg.srt h
  | false => exact mGet_del_other hg.srt h

set_option maxRecDepth 100000 in
set_option maxHeartbeats 8000000 in
theorem pagelast_walk (A : Option Addr) (n c : Nat) (l : List OpD) (w : World) (hl : OpsAt w A n c l) (k : Int) (x : VlD) (hx : x.At w) (other : Int) :
    Calls Try.prog 5 #[.slice A n c, .int .i64 k, x.v, .int .i64 other] w fun e w' => e = .returned (.bool true) ∧ Below w.heap.size w w' := by
  obtain ⟨is, B, m, d, vs⟩ := x
  show Calls Try.prog 5 #[.slice A n c, .int .i64 k, .agg #[.bool is, .slice B m d], .int .i64 other] w _
  have hsl : Sl w B m d vs := hx
  have ha : Mod (fun _ => False) w (w.alloc (.cells #[.bool is, .slice B m d] 34)) := (Mod.refl _ w).alloc _
  obtain ⟨w0, hw0⟩ : ∃ w0, w0 = w.alloc (.cells #[.bool is, .slice B m d] 34) := ⟨_, rfl⟩
  rw [← hw0] at ha
  have hbx : w0.heap[w.heap.size]? = some (.cells #[.bool is, .slice B m d] 34 (0, 0)) := by rw [hw0]; exact heap_alloc_new w _
  have Hblk := Lib.hid hbx
  have Hboxes : Hid (∀ W, Mod (fun _ => False) w0 W → W.cell? ⟨w.heap.size, 0, none⟩ = some (.bool is) ∧ W.cell? ⟨w.heap.size, 1, none⟩ = some (.slice B m d)) := fun W hm => by
    have hb := (hm.block _ (Array.getElem?_eq_some_iff.1 hbx).1 id).trans hbx
    exact ⟨by rw [cell_of_row _ _ _ _ _ _ hb]; rfl, by rw [cell_of_row _ _ _ _ _ _ hb]; rfl⟩
  have Hops := Lib.hid (hl.keep ha)
  have Hsl := Lib.hid (hsl.mod ha (fun _ _ _ => id))
  have hvl := hsl.len
  have hll := hl.len
  have Ha := Lib.hid ha
  clear hl hx hsl ha hbx
  have Hfew := Lib.hid (fun W hm => few_ok W A n c l (Hops.out.keep (w' := W) hm))
  go_enter Try.func5, Try.ntmps5
  go_wp2_with fail
  rw [← hw0]
  clear hw0
  refine (awake_ok _).mono ?_
  rintro e w1 ⟨rfl, hm1⟩
  have Hm1 := Lib.hid hm1
  clear hm1
  go_wp2_with fail
  refine (Hfew.out _ Hm1.out).mono ?_
  rintro e w2 ⟨rfl, rfl⟩
  obtain ⟨b0, b1⟩ := Hboxes.out w2 Hm1.out
  have Hend := Lib.hid ((Ha.out.trans Hm1.out (fun _ _ h => h)).below (Nat.le_refl _) (fun _ _ => id))
  cases hfew : fewB l with
  | false =>
    clear hfew
    go_wp2
    go_ret
    exact ⟨rfl, Hend.out⟩
  | true =>
    by_cases hm100 : 100 < m
    · clear hfew
      go_wp2
      go_ret
      exact ⟨rfl, Hend.out⟩
    · have hn60 : n ≤ 60 := by
        unfold fewB at hfew
        simp at hfew
        omega
      clear hfew Hend
      have Hnew := Lib.hid (lv_new w0 w2 Hm1.out 1 (by omega) (by omega))
      go_wp2_with fail
      refine Hnew.out.mono ?_
      rintro e w3 ⟨q0, rfl, h0, _⟩
      have H0 := Lib.hid h0
      clear h0 Hnew b0 b1
      go_wp2
      go_loopw [11, 13] (fun p i wr => ∃ (j q : Nat) (g : Pg), j ≤ n ∧ i = .int .i64 j ∧ p = .slice (some ⟨q, 0, none⟩) 248 248 ∧ Lv w0 wr q g) (fun _ i _ => n - (intOf i).toNat)
      case atStart => exact ⟨0, q0, _, by omega, rfl, rfl, H0.out⟩
      case round =>
        obtain ⟨j, q, g, hj, rfl, rfl, hL⟩ := hrel
        have HL := Lib.hid hL
        by_cases hlt : j < n
        · obtain ⟨y, hy⟩ : ∃ y, l[j]? = some y := ⟨_, List.getElem?_eq_getElem (by omega)⟩
          have ho := Hops.out.keep hL.old
          obtain ⟨b, o, rfl, hcs⟩ := ho.cells (by omega)
          obtain ⟨c0, c1, c2, c3⟩ := hcs j y hy
          have Hdo := Lib.hid (does_ok w0 wr q g hL y (ho.vals y (List.mem_of_getElem? hy)))
          clear hcs hy ho hL
          go_wp2_with fail
          refine Hdo.out.mono ?_
          rintro e w4 ⟨(⟨h1, q', rfl, h2⟩ | ⟨h1, rfl⟩), hm4⟩
          · have H2 := Lib.hid h2
            clear h2 h1 hm4 c0 c1 c2 c3
            go_wp2
            go_roundw
            case rel => exact ⟨j + 1, q', _, by omega, by go_num, rfl, H2.out⟩
            case measure => simp [intOf]; omega
          · have H2 := Lib.hid (HL.out.keep hm4)
            have h1' : ((opP g y).1 == 0) = false := by simpa using h1
            clear h1 hm4 c0 c1 c2 c3
            go_wp2
            go_roundw
            case rel => exact ⟨j + 1, q, _, by omega, by go_num, rfl, H2.out⟩
            case measure => simp [intOf]; omega
        · obtain rfl : j = n := by omega
          clear hL
          have Hg := Lib.hid (lv_get HL.out other)
          go_wp2_with fail
          refine Hg.out.mono ?_
          rintro e w6 ⟨B6, m6, d6, rfl, hs6, _, hm6⟩
          have HL6 := Lib.hid (HL.out.keep hm6)
          have Hgd := Lib.hid HL.out.good
          have hma : Mod (fun _ => False) w6 (w6.alloc (.cells #[.bool (mGet other g.l).isSome, .slice B6 m6 d6] 34)) := (Mod.refl _ w6).alloc _
          have hbx6 : (w6.alloc (.cells #[.bool (mGet other g.l).isSome, .slice B6 m6 d6] 34)).heap[w6.heap.size]? = some (.cells #[.bool (mGet other g.l).isSome, .slice B6 m6 d6] 34 (0, 0)) := heap_alloc_new w6 _
          have Hb6 : Hid (∀ W, Mod (fun _ => False) (w6.alloc (.cells #[.bool (mGet other g.l).isSome, .slice B6 m6 d6] 34)) W → W.cell? ⟨w6.heap.size, 0, none⟩ = some (.bool (mGet other g.l).isSome) ∧ W.cell? ⟨w6.heap.size, 1, none⟩ = some (.slice B6 m6 d6)) := fun W hm => by
            have hb := (hm.block _ (Array.getElem?_eq_some_iff.1 hbx6).1 id).trans hbx6
            exact ⟨by rw [cell_of_row _ _ _ _ _ _ hb]; rfl, by rw [cell_of_row _ _ _ _ _ _ hb]; rfl⟩
          have HL7 := Lib.hid (HL6.out.keep hma)
          have Hs7 := Lib.hid (hs6.mod hma (fun _ _ _ => id))
          obtain ⟨b0, b1⟩ := Hboxes.out w6 HL6.out.old
          obtain ⟨b0', b1'⟩ := Hboxes.out _ HL7.out.old
          have Hput := Lib.hid (lv_put HL7.out k is (Hsl.out.mod HL7.out.old (fun _ _ _ => id)))
          have hm6' : m6 ≤ 32 := by rw [← hs6.len]; exact good_get Hgd.out other
          have hw67 : w6.heap.size < (w6.alloc (.cells #[.bool (mGet other g.l).isSome, .slice B6 m6 d6] 34)).heap.size := by rw [World.size_alloc]; omega
          obtain ⟨w7, hw7⟩ : ∃ w7, w7 = w6.alloc (.cells #[.bool (mGet other g.l).isSome, .slice B6 m6 d6] 34) := ⟨_, rfl⟩
          rw [← hw7] at HL7 Hs7 Hput Hb6 hw67
          have Hw67 := Lib.hid hw67
          clear hw67
          clear hma hbx6 hs6 Hg hm6
          go_wp2_with fail
          rw [← hw7]
          clear hw7
          refine Hput.out.mono ?_
          rintro e w8 ⟨hans, hm8⟩
          have HL8 := Lib.hid (HL7.out.keep hm8)
          have Hs8 := Lib.hid (Hs7.out.mod hm8 (fun _ _ _ => id))
          have Hm8 := Lib.hid hm8
          obtain ⟨f0, f1⟩ := Hboxes.out w8 HL8.out.old
          have Hold8 := Lib.hid (Ha.out.trans HL8.out.old (fun _ _ h => h))
          clear b0 b1 b0' b1' hm8 Hput Hops Hfew
          rcases hans with ⟨h1, q', rfl, h2⟩ | ⟨h1, rfl⟩
          · obtain ⟨hg', _, _⟩ := putP_ok h1
            rw [hg'] at h2
            have HQ8 := Lib.hid h2
            have hget := lv_get h2 k
            rw [show (⟨g.id, g.lsn, if is then mSet k vs g.l else mDel k g.l⟩ : Pg).l = (if is then mSet k vs g.l else mDel k g.l) from rfl, put_get Hgd.out] at hget
            have Hget := Lib.hid hget
            have Hpo : Hid (other ≠ k → mGet other (if is then mSet k vs g.l else mDel k g.l) = mGet other g.l) := fun h => put_other Hgd.out h
            clear hg' h1 h2 hget
            generalize (if is then mSet k vs g.l else mDel k g.l) = L' at *
            go_wp2_with fail
            refine Hget.out.mono ?_
            rintro e w9 ⟨B9, m9, d9, rfl, hs9, _, hm9⟩
            have HL9 := Lib.hid (HL8.out.keep hm9)
            have HQ9 := Lib.hid (HQ8.out.keep hm9)
            have Hs9w := Lib.hid (Hs8.out.mod hm9 (fun _ _ _ => id))
            have Hm9 := Lib.hid (Hm8.out.trans hm9 (fun _ _ h => h))
            obtain ⟨p0, p1⟩ := Hboxes.out w9 HL9.out.old
            have hma : Mod (fun _ => False) w9 (w9.alloc (.cells #[.bool (wantV is vs).isSome, .slice B9 m9 d9] 34)) := (Mod.refl _ w9).alloc _
            obtain ⟨p0', p1'⟩ := Hboxes.out _ (HL9.out.keep hma).old
            have hmb : Mod (fun _ => False) w9 ((w9.alloc (.cells #[.bool (wantV is vs).isSome, .slice B9 m9 d9] 34)).alloc (.cells #[.bool is, .slice B m d] 34)) := hma.alloc _
            obtain ⟨w10, hw10⟩ : ∃ w10, w10 = (w9.alloc (.cells #[.bool (wantV is vs).isSome, .slice B9 m9 d9] 34)).alloc (.cells #[.bool is, .slice B m d] 34) := ⟨_, rfl⟩
            have hg1 : w10.heap[w9.heap.size]? = some (.cells #[.bool (wantV is vs).isSome, .slice B9 m9 d9] 34 (0, 0)) := by
              rw [hw10]; exact (Below.heap_alloc _ _ _ (by rw [World.size_alloc]; omega)).trans (heap_alloc_new w9 _)
            have hg2 : w10.heap[w9.heap.size + 1]? = some (.cells #[.bool is, .slice B m d] 34 (0, 0)) := by
              have := heap_alloc_new (w9.alloc (.cells #[.bool (wantV is vs).isSome, .slice B9 m9 d9] 34)) (.cells #[.bool is, .slice B m d] 34)
              rw [World.size_alloc] at this
              rw [hw10]; exact this
            rw [← hw10] at hmb
            have hlt10 : w9.heap.size + 1 < w10.heap.size := (Array.getElem?_eq_some_iff.1 hg2).1
            have HL10 := Lib.hid (HL9.out.keep hmb)
            have HQ10 := Lib.hid (HQ9.out.keep hmb)
            have Hs10 := Lib.hid (Hs9w.out.mod hmb (fun _ _ _ => id))
            have Hg10 := Lib.hid (hs9.mod hmb (fun _ _ _ => id))
            have Hs9 := Lib.hid hs9
            have Hv10 := Lib.hid (Hsl.out.mod HL10.out.old (fun _ _ _ => id))
            have Hm10 := Lib.hid (Hm9.out.trans hmb (fun _ _ h => h))
            obtain ⟨r0, r1⟩ := Hboxes.out w10 HL10.out.old
            have s0 : w10.cell? ⟨w9.heap.size, 0, none⟩ = some (.bool (wantV is vs).isSome) := by rw [cell_of_row _ _ _ _ _ _ hg1]; rfl
            have s1 : w10.cell? ⟨w9.heap.size, 1, none⟩ = some (.slice B9 m9 d9) := by rw [cell_of_row _ _ _ _ _ _ hg1]; rfl
            have t0 : w10.cell? ⟨w9.heap.size + 1, 0, none⟩ = some (.bool is) := by rw [cell_of_row _ _ _ _ _ _ hg2]; rfl
            have t1 : w10.cell? ⟨w9.heap.size + 1, 1, none⟩ = some (.slice B m d) := by rw [cell_of_row _ _ _ _ _ _ hg2]; rfl
            have fz0 : w10.frozen? ⟨w9.heap.size + 1, 0, none⟩ = false := frozen_of_block hg2 0
            have fz1 : w10.frozen? ⟨w9.heap.size + 1, 1, none⟩ = false := frozen_of_block hg2 1
            have Hg1 := Lib.hid hg1
            have Hg2 := Lib.hid hg2
            have Hlsn : Hid (∀ W, Mod (fun _ => False) w9 W → Lv w0 W q g ∧ Lv w0 W q' ⟨g.id, g.lsn, L'⟩ ∧ Sl W B6 m6 d6 ((mGet other g.l).getD []) ∧ (W.cell? ⟨w6.heap.size, 0, none⟩ = some (.bool (mGet other g.l).isSome) ∧ W.cell? ⟨w6.heap.size, 1, none⟩ = some (.slice B6 m6 d6))) := fun W hm =>
              ⟨HL9.out.keep hm, HQ9.out.keep hm, Hs9w.out.mod hm (fun _ _ _ => id), Hb6.out W (Hm9.out.trans hm (fun _ _ h => h))⟩
            have Hmb := Lib.hid hmb
            rw [hw10] at r0 r1 s0 s1 t0 t1 fz0 fz1
            have Hw10 := Lib.hid hw10
            clear hw10 hg1 hg2 hma hmb hs9 hm9 Hget
            cases is with
            | true =>
              have hvals := vals_ok w10 B9 B m9 m d9 d ((wantV true vs).getD []) vs (wantV true vs).isSome true Hg10.out Hv10.out (by rw [← Hg10.out.len]; show vs.length ≤ _; omega) (by omega)
              rw [show (wantV true vs).getD [] = vs from rfl, eqB_self, show (true && ((wantV true vs).isSome == true)) = true from rfl] at hvals
              have Hvals := Lib.hid hvals
              clear hvals
              go_wp2_with fail
              rw [← Hw10.out]
              refine Hvals.out.mono ?_
              rintro e w11 ⟨rfl, hm11⟩
              obtain ⟨hl11, hq11, hs11, hc11⟩ := Hlsn.out w11 (Hmb.out.trans hm11 (fun _ _ h => h))
              clear hm11
              have Hl11 := Lib.hid hl11
              have Hq11 := Lib.hid hq11
              have Hs11 := Lib.hid hs11
              have HS0 : Hid (w11.drew.cell? ⟨w6.heap.size, 0, none⟩ = some (.bool (mGet other g.l).isSome) ∧ w11.drew.cell? ⟨w6.heap.size, 1, none⟩ = some (.slice B6 m6 d6)) := hc11
              have hblk : ∀ W, Mod (fun _ => False) w11 W → W.cell? ⟨w6.heap.size, 0, none⟩ = some (.bool (mGet other g.l).isSome) ∧ W.cell? ⟨w6.heap.size, 1, none⟩ = some (.slice B6 m6 d6) := fun W hm =>
                ⟨(World.cell?_of_block (hm.block w6.heap.size (World.block_lt_of_cell? w11 _ hc11.1) id)).trans hc11.1, (World.cell?_of_block (hm.block w6.heap.size (World.block_lt_of_cell? w11 _ hc11.1) id)).trans hc11.2⟩
              have HS := Lib.hid hblk
              have Hgo := Lib.hid (lv_get (hq11.keep (Mod.refl _ w11).drew) other)
              have Hgl := Lib.hid (good_get Hgd.out other)
              have Hgl' := Lib.hid (good_get hq11.good other)
              clear hl11 hq11 hs11 hc11 hblk
              have Hv : Hid (∀ W B12 m12 d12, Mod (fun _ => False) w11.drew W → Sl W B12 m12 d12 ((mGet other L').getD []) → Calls Try.prog 27 #[.agg #[.bool (mGet other L').isSome, .slice B12 m12 d12], .agg #[.bool (mGet other g.l).isSome, .slice B6 m6 d6]] W fun e w' => (∃ two, e = .returned (.bool two) ∧ (other ≠ k → two = true)) ∧ Mod (fun _ => False) W w') := fun W B12 m12 d12 hm hs => by
                have hx := vals_ok W B12 B6 m12 m6 d12 d6 _ _ (mGet other L').isSome (mGet other g.l).isSome hs ((Hs11.out.drew).mod hm (fun _ _ _ => id)) (by rw [← hs.len]; have : _ ≤ 32 := Hgl'.out; dsimp only at this; omega) (by omega)
                refine hx.mono ?_
                rintro e w' ⟨rfl, hm'⟩
                exact ⟨⟨_, rfl, fun hne => by rw [Hpo.out hne, eqB_self]; simp⟩, hm'⟩
              go_wp2_with fail
              go_region_held3 (fun w' => w'.cell? ⟨w6.heap.size, 0, none⟩ = some (.bool (mGet other g.l).isSome) ∧ w'.cell? ⟨w6.heap.size, 1, none⟩ = some (.slice B6 m6 d6)) (first | exact HS0.out | exact HS.out _ (((Mod.refl (fun _ => False) w11).drew).trans (hm12.trans hm13 (fun _ _ h => h)) (fun _ _ h => h)) | exact HS.out _ (((Mod.refl (fun _ => False) w11).drew).trans hm12 (fun _ _ h => h))) (first | (go_at_call 22; refine Hgo.out.mono ?_; rintro e w12 ⟨B12, m12, d12, rfl, hs12, _, hm12⟩) | (go_at_call 27; refine (Hv.out _ _ _ _ hm12 hs12).mono ?_; rintro e w13 ⟨⟨two, rfl, htwo⟩, hm13⟩))
              have hm14 : Mod (fun _ => False) w11 w13 := ((Mod.refl (fun _ => False) w11).drew).trans (hm12.trans hm13 (fun _ _ h => h)) (fun _ _ h => h)
              have Hl14 := Lib.hid (Hl11.out.keep hm14)
              have Hq14 := Lib.hid (Hq11.out.keep hm14)
              have hlsn1 := lv_lsn Hq14.out
              have Hlsn1 : Hid (Calls Try.prog 19 #[.slice (some ⟨q', 0, none⟩) 248 248] w13 fun e w' => e = .returned (.int .i64 g.lsn) ∧ Mod (fun _ => False) w13 w') := hlsn1
              have Htwo := Lib.hid htwo
              clear hm12 hm13 hm14 hs12 hlsn1 htwo
              have last : two = true ∨ (two = false ∧ (other == k) = true) := by
                cases two with
                | true => exact .inl rfl
                | false =>
                  right
                  refine ⟨rfl, ?_⟩
                  by_cases e : other = k
                  · simpa using e
                  · exact absurd (Htwo.out e) (by simp)
              rcases last with rfl | ⟨rfl, hok⟩
              all_goals
                go_wp2_with fail
                refine Hlsn1.out.mono ?_
                rintro e w15 ⟨rfl, hm15⟩
                have Hl15 := Lib.hid (Hl14.out.keep hm15)
                have Hlsn2 := Lib.hid (lv_lsn Hl15.out)
                clear hm15
                go_wp2_with fail
                refine Hlsn2.out.mono ?_
                rintro e w16 ⟨rfl, hm16⟩
                have Hm16 := Lib.hid (Ha.out.trans (Hl15.out.old.trans hm16 (fun _ _ h => h)) (fun _ _ h => h))
                clear hm16
                go_wp2
                go_ret
                exact ⟨by simp, Hm16.out.below (Nat.le_refl _) (fun _ _ => id)⟩
            | false =>
              have hmc : Mod (fun _ => False) w9 ((w9.alloc (.cells #[.bool (wantV false vs).isSome, .slice B9 m9 d9] 34)).alloc (.cells #[.bool false, .slice none 0 0] 34)) := ((Mod.refl _ w9).alloc _).alloc _
              have hg10c := Hs9.out.mod hmc (fun _ _ _ => id)
              have hvals := vals_ok _ B9 none m9 0 d9 0 ((wantV false vs).getD []) [] (wantV false vs).isSome false hg10c (Sl.none_ _ _ _) (by rw [← hg10c.len]; simp [wantV]) (by omega)
              rw [show (wantV false vs).getD [] = [] from rfl, eqB_self, show (true && ((wantV false vs).isSome == false)) = true from rfl] at hvals
              have Hvals := Lib.hid hvals
              have Hmc := Lib.hid hmc
              clear hvals hg10c hmc
              go_wp2_with fail
              refine Hvals.out.mono ?_
              rintro e w11 ⟨rfl, hm11⟩
              obtain ⟨hl11, hq11, hs11, hc11⟩ := Hlsn.out w11 (Hmc.out.trans hm11 (fun _ _ h => h))
              clear hm11
              have Hl11 := Lib.hid hl11
              have Hq11 := Lib.hid hq11
              have Hs11 := Lib.hid hs11
              have HS0 : Hid (w11.drew.cell? ⟨w6.heap.size, 0, none⟩ = some (.bool (mGet other g.l).isSome) ∧ w11.drew.cell? ⟨w6.heap.size, 1, none⟩ = some (.slice B6 m6 d6)) := hc11
              have hblk : ∀ W, Mod (fun _ => False) w11 W → W.cell? ⟨w6.heap.size, 0, none⟩ = some (.bool (mGet other g.l).isSome) ∧ W.cell? ⟨w6.heap.size, 1, none⟩ = some (.slice B6 m6 d6) := fun W hm =>
                ⟨(World.cell?_of_block (hm.block w6.heap.size (World.block_lt_of_cell? w11 _ hc11.1) id)).trans hc11.1, (World.cell?_of_block (hm.block w6.heap.size (World.block_lt_of_cell? w11 _ hc11.1) id)).trans hc11.2⟩
              have HS := Lib.hid hblk
              have Hgo := Lib.hid (lv_get (hq11.keep (Mod.refl _ w11).drew) other)
              have Hgl := Lib.hid (good_get Hgd.out other)
              have Hgl' := Lib.hid (good_get hq11.good other)
              clear hl11 hq11 hs11 hc11 hblk
              have Hv : Hid (∀ W B12 m12 d12, Mod (fun _ => False) w11.drew W → Sl W B12 m12 d12 ((mGet other L').getD []) → Calls Try.prog 27 #[.agg #[.bool (mGet other L').isSome, .slice B12 m12 d12], .agg #[.bool (mGet other g.l).isSome, .slice B6 m6 d6]] W fun e w' => (∃ two, e = .returned (.bool two) ∧ (other ≠ k → two = true)) ∧ Mod (fun _ => False) W w') := fun W B12 m12 d12 hm hs => by
                have hx := vals_ok W B12 B6 m12 m6 d12 d6 _ _ (mGet other L').isSome (mGet other g.l).isSome hs ((Hs11.out.drew).mod hm (fun _ _ _ => id)) (by rw [← hs.len]; have : _ ≤ 32 := Hgl'.out; dsimp only at this; omega) (by omega)
                refine hx.mono ?_
                rintro e w' ⟨rfl, hm'⟩
                exact ⟨⟨_, rfl, fun hne => by rw [Hpo.out hne, eqB_self]; simp⟩, hm'⟩
              go_wp2_with fail
              go_region_held3 (fun w' => w'.cell? ⟨w6.heap.size, 0, none⟩ = some (.bool (mGet other g.l).isSome) ∧ w'.cell? ⟨w6.heap.size, 1, none⟩ = some (.slice B6 m6 d6)) (first | exact HS0.out | exact HS.out _ (((Mod.refl (fun _ => False) w11).drew).trans (hm12.trans hm13 (fun _ _ h => h)) (fun _ _ h => h)) | exact HS.out _ (((Mod.refl (fun _ => False) w11).drew).trans hm12 (fun _ _ h => h))) (first | (go_at_call 22; refine Hgo.out.mono ?_; rintro e w12 ⟨B12, m12, d12, rfl, hs12, _, hm12⟩) | (go_at_call 27; refine (Hv.out _ _ _ _ hm12 hs12).mono ?_; rintro e w13 ⟨⟨two, rfl, htwo⟩, hm13⟩))
              have hm14 : Mod (fun _ => False) w11 w13 := ((Mod.refl (fun _ => False) w11).drew).trans (hm12.trans hm13 (fun _ _ h => h)) (fun _ _ h => h)
              have Hl14 := Lib.hid (Hl11.out.keep hm14)
              have Hq14 := Lib.hid (Hq11.out.keep hm14)
              have hlsn1 := lv_lsn Hq14.out
              have Hlsn1 : Hid (Calls Try.prog 19 #[.slice (some ⟨q', 0, none⟩) 248 248] w13 fun e w' => e = .returned (.int .i64 g.lsn) ∧ Mod (fun _ => False) w13 w') := hlsn1
              have Htwo := Lib.hid htwo
              clear hm12 hm13 hm14 hs12 hlsn1 htwo
              have last : two = true ∨ (two = false ∧ (other == k) = true) := by
                cases two with
                | true => exact .inl rfl
                | false =>
                  right
                  refine ⟨rfl, ?_⟩
                  by_cases e : other = k
                  · simpa using e
                  · exact absurd (Htwo.out e) (by simp)
              rcases last with rfl | ⟨rfl, hok⟩
              all_goals
                go_wp2_with fail
                refine Hlsn1.out.mono ?_
                rintro e w15 ⟨rfl, hm15⟩
                have Hl15 := Lib.hid (Hl14.out.keep hm15)
                have Hlsn2 := Lib.hid (lv_lsn Hl15.out)
                clear hm15
                go_wp2_with fail
                refine Hlsn2.out.mono ?_
                rintro e w16 ⟨rfl, hm16⟩
                have Hm16 := Lib.hid (Ha.out.trans (Hl15.out.old.trans hm16 (fun _ _ h => h)) (fun _ _ h => h))
                clear hm16
                go_wp2
                go_ret
                exact ⟨by simp, Hm16.out.below (Nat.le_refl _) (fun _ _ => id)⟩
          · have hbad := putP_bad h1
            have h1' : ((putP g k is vs).1 != 0) = true := by simpa using h1
            rw [hvl] at hbad
            have HU : Hid (usedL g.l ≤ 240) := Hgd.out.used
            have Hu := Lib.hid (lv_used (HL8.out.keep (Mod.refl _ w8).drew))
            have HS0 : Hid (w8.drew.cell? ⟨w.heap.size, 0, none⟩ = some (.bool is) ∧ w8.drew.cell? ⟨w.heap.size, 1, none⟩ = some (.slice B m d)) := ⟨f0, f1⟩
            have HS : Hid (∀ W, Mod (fun _ => False) w8.drew W → W.cell? ⟨w.heap.size, 0, none⟩ = some (.bool is) ∧ W.cell? ⟨w.heap.size, 1, none⟩ = some (.slice B m d)) := fun W hm => Hboxes.out W (HL8.out.old.drew.trans hm (fun _ _ h => h))
            have Hbad := Lib.hid hbad
            clear h1 hbad
            generalize (putP g k is vs).1 = er at *
            generalize usedL g.l = U at *
            have hU := HU.out
            go_wp2_with fail
            go_region_held3 (fun w' => w'.cell? ⟨w.heap.size, 0, none⟩ = some (.bool is) ∧ w'.cell? ⟨w.heap.size, 1, none⟩ = some (.slice B m d)) (first | exact HS0.out | exact HS.out _ hm9) ((go_at_call 24; refine Hu.out.mono ?_; rintro e w9 ⟨rfl, hm9⟩))
            obtain ⟨g0, g1⟩ := HS.out _ hm9
            have Hm9 := Lib.hid (Hold8.out.drew.trans hm9 (fun _ _ h => h))
            rw [show IntKind.i64.wrap (IntKind.i64.wrap ((U : Int) + 4) + (m : Int)) = (U : Int) + 4 + m by rw [IntKind.wrap_i64, IntKind.wrap_i64]; omega]
            clear f0 f1 hm9
            rcases Hbad.out with ⟨he, hk⟩ | ⟨he, hk⟩ | ⟨he, his, hk⟩
            · subst he
              by_cases hk0 : k < 0
              · have hd : decide (k < 0) = true := by simpa using hk0
                go_wp2
                go_ret
                exact ⟨rfl, Hm9.out.below (Nat.le_refl _) (fun _ _ => id)⟩
              · have hd : decide (k < 0) = false := by simpa using hk0
                have hd2 : decide (65535 < k) = true := by simpa using hk.resolve_left hk0
                go_wp2
                go_ret
                exact ⟨rfl, Hm9.out.below (Nat.le_refl _) (fun _ _ => id)⟩
            · subst he
              go_wp2
              go_ret
              exact ⟨by simp, Hm9.out.below (Nat.le_refl _) (fun _ _ => id)⟩
            · subst he his
              have hd : decide ((240 : Int) < (U : Int) + 4 + (m : Int)) = true := by rw [decide_eq_true_eq]; omega
              go_wp2
              go_ret
              exact ⟨rfl, Hm9.out.below (Nat.le_refl _) (fun _ _ => id)⟩
end Go.Proofs.Ytgeodpflaebbgaa
