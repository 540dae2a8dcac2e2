/-
  PageUses: a page uses as much as its records' sizes.
-/
import Derived.Test.YtgeodpflaebbgaaOOps
namespace Go.Proofs.Ytgeodpflaebbgaa
open Go Go.RowKit

/-- The size of what was there. -/
def szO : Option (List UInt8) → Nat
  | none => 0
  | some v => 4 + v.length
theorem used_set (k : Int) (v : List UInt8) (l : List Rec) : usedL (mSet k v l) + szO (mGet k l) = usedL l + (4 + v.length) := by
  induction l with
  | nil => simp [mSet, mGet, usedL, szO]
  | cons y l ih =>
    simp only [mSet, mGet]
    split
    · simp only [usedL]; omega
    · split
      · simp only [usedL, szO]; omega
      · simp only [usedL, szO]; omega
theorem used_del (k : Int) (l : List Rec) : usedL (mDel k l) + szO (mGet k l) = usedL l := by
  induction l with
  | nil => simp [mDel, mGet, usedL, szO]
  | cons y l ih =>
    simp only [mDel, mGet]
    split
    · simp only [usedL]; omega
    · split
      · simp only [usedL, szO]; omega
      · simp only [usedL, szO]; omega
/-- What a Put that answers OK has made. -/
theorem putP_ok {g : Pg} {k : Int} {is : Bool} {v : List UInt8} (h : (putP g k is v).1 = 0) : (putP g k is v).2 = ⟨g.id, g.lsn, if is then mSet k v g.l else mDel k g.l⟩ ∧ (is = true → v.length ≤ 32) ∧ 0 ≤ k ∧ k ≤ 65535 := by
  unfold putP at h ⊢
  split at h
  · simp at h
  · rename_i h1
    rw [if_neg h1]
    split at h
    · rename_i h2
      rw [if_pos h2]
      subst h2
      exact ⟨by simp, by simp, by omega⟩
    · rename_i h2
      rw [if_neg h2]
      split at h
      · simp at h
      · rename_i h3
        rw [if_neg h3]
        split at h
        · simp at h
        · rename_i h4
          rw [if_neg h4]
          have : is = true := by simpa using h2
          exact ⟨by rw [if_pos this], fun _ => by omega, by omega⟩
theorem mGet_mem {α : Type} {k : Int} {v : α} {l : List (Int × α)} (h : mGet k l = some v) : ∃ q ∈ l, q.2 = v := by
  induction l with
  | nil => cases h
  | cons y l ih =>
    simp only [mGet] at h
    split at h
    · obtain ⟨q, hq, e⟩ := ih h
      exact ⟨q, List.mem_cons_of_mem _ hq, e⟩
    · split at h
      · injection h with h; exact ⟨y, List.mem_cons_self .., h⟩
      · cases h
theorem good_get {g : Pg} (h : Good g) (k : Int) : ((mGet k g.l).getD []).length ≤ 32 := by
  cases hg : mGet k g.l with
  | none => simp
  | some v =>
    obtain ⟨q, hq, e⟩ := mGet_mem hg
    rw [← e]
    exact h.val q hq

set_option maxRecDepth 100000 in
set_option maxHeartbeats 4000000 in
theorem uses_walk (A : Option Addr) (n c : Nat) (l : List OpD) (w : World) (hl : OpsAt w A n c l) (k : Int) (x : VlD) (hx : x.At w) :
    Calls Try.prog 7 #[.slice A n c, .int .i64 k, x.v] w fun e w' => e = .returned (.bool true) ∧ Below w.heap.size w w' := by
  obtain ⟨is, B, m, d, vs⟩ := x
  show Calls Try.prog 7 #[.slice A n c, .int .i64 k, .agg #[.bool is, .slice B m d]] w _
  have hsl : Sl w B m d vs := hx
  have ha : Mod (fun _ => False) w (w.alloc (.cells #[.bool is, .slice B m d] 34)) := (Mod.refl _ w).alloc _
  obtain ⟨w0, hw0⟩ : ∃ w0, w0 = w.alloc (.cells #[.bool is, .slice B m d] 34) := ⟨_, rfl⟩
  rw [← hw0] at ha
  have hbx : w0.heap[w.heap.size]? = some (.cells #[.bool is, .slice B m d] 34 (0, 0)) := by rw [hw0]; exact heap_alloc_new w _
  have Hboxes : Hid (∀ W, Mod (fun _ => False) w0 W → W.cell? ⟨w.heap.size, 0, none⟩ = some (.bool is) ∧ W.cell? ⟨w.heap.size, 1, none⟩ = some (.slice B m d)) := fun W hm => by
    have hb := (hm.block _ (Array.getElem?_eq_some_iff.1 hbx).1 id).trans hbx
    exact ⟨by rw [cell_of_row _ _ _ _ _ _ hb]; rfl, by rw [cell_of_row _ _ _ _ _ _ hb]; rfl⟩
  have Hops := Lib.hid (hl.keep ha)
  have Hsl := Lib.hid (hsl.mod ha (fun _ _ _ => id))
  have hvl := hsl.len
  have hll := hl.len
  have Ha := Lib.hid ha
  clear hl hx hsl ha hbx
  have Hfew := Lib.hid (fun W hm => few_ok W A n c l (Hops.out.keep (w' := W) hm))
  go_enter Try.func7, Try.ntmps7
  go_wp2_with fail
  rw [← hw0]
  clear hw0
  refine (awake_ok _).mono ?_
  rintro e w1 ⟨rfl, hm1⟩
  have Hm1 := Lib.hid hm1
  clear hm1
  go_wp2_with fail
  refine (Hfew.out _ Hm1.out).mono ?_
  rintro e w2 ⟨rfl, rfl⟩
  obtain ⟨b0, b1⟩ := Hboxes.out w2 Hm1.out
  have Hend := Lib.hid ((Ha.out.trans Hm1.out (fun _ _ h => h)).below (Nat.le_refl _) (fun _ _ => id))
  cases hfew : fewB l with
  | false =>
    clear hfew
    go_wp2
    go_ret
    exact ⟨rfl, Hend.out⟩
  | true =>
    by_cases hm100 : 100 < m
    · clear hfew
      go_wp2
      go_ret
      exact ⟨rfl, Hend.out⟩
    · have hn60 : n ≤ 60 := by
        unfold fewB at hfew
        simp at hfew
        omega
      clear hfew Hend
      have Hnew := Lib.hid (lv_new w0 w2 Hm1.out 1 (by omega) (by omega))
      go_wp2_with fail
      refine Hnew.out.mono ?_
      rintro e w3 ⟨q0, rfl, h0, _⟩
      have H0 := Lib.hid h0
      clear h0 Hnew b0 b1
      go_wp2
      go_loopw [9, 11] (fun p i wr => ∃ (j q : Nat) (g : Pg), j ≤ n ∧ i = .int .i64 j ∧ p = .slice (some ⟨q, 0, none⟩) 248 248 ∧ Lv w0 wr q g) (fun _ i _ => n - (intOf i).toNat)
      case atStart => exact ⟨0, q0, _, by omega, rfl, rfl, H0.out⟩
      case round =>
        obtain ⟨j, q, g, hj, rfl, rfl, hL⟩ := hrel
        have HL := Lib.hid hL
        by_cases hlt : j < n
        · obtain ⟨y, hy⟩ : ∃ y, l[j]? = some y := ⟨_, List.getElem?_eq_getElem (by omega)⟩
          have ho := Hops.out.keep hL.old
          obtain ⟨b, o, rfl, hcs⟩ := ho.cells (by omega)
          obtain ⟨c0, c1, c2, c3⟩ := hcs j y hy
          have Hdo := Lib.hid (does_ok w0 wr q g hL y (ho.vals y (List.mem_of_getElem? hy)))
          clear hcs hy ho hL
          go_wp2_with fail
          refine Hdo.out.mono ?_
          rintro e w4 ⟨(⟨h1, q', rfl, h2⟩ | ⟨h1, rfl⟩), hm4⟩
          · have H2 := Lib.hid h2
            clear h2 h1 hm4 c0 c1 c2 c3
            go_wp2
            go_roundw
            case rel => exact ⟨j + 1, q', _, by omega, by go_num, rfl, H2.out⟩
            case measure => simp [intOf]; omega
          · have H2 := Lib.hid (HL.out.keep hm4)
            have h1' : ((opP g y).1 == 0) = false := by simpa using h1
            clear h1 hm4 c0 c1 c2 c3
            go_wp2
            go_roundw
            case rel => exact ⟨j + 1, q, _, by omega, by go_num, rfl, H2.out⟩
            case measure => simp [intOf]; omega
        · obtain rfl : j = n := by omega
          have Hal := Lib.hid (lv_all hL)
          have hcnt := hL.good.count
          clear hL
          go_wp2_with fail
          refine Hal.out.mono ?_
          rintro e w5 ⟨A5, c5, L5, rfl, hk5⟩
          have HK5 := Lib.hid hk5.kv
          have HL5 := Lib.hid (HL.out.keep hk5.old)
          have Hlen := Lib.hid hk5.kv.len
          have Hgd := Lib.hid HL.out.good
          clear hk5 Hal
          go_wp2
          go_loopw [15, 16] (fun s i wr => ∃ (jj : Nat), jj ≤ g.l.length ∧ i = .int .i64 jj ∧ s = .int .i64 (usedL (g.l.take jj)) ∧ wr = w5) (fun _ i _ => g.l.length - (intOf i).toNat)
          case atStart => exact ⟨0, by omega, rfl, rfl, rfl⟩
          case round =>
            obtain ⟨jj, hjj, rfl, rfl, rfl⟩ := hrel
            by_cases hlt2 : jj < g.l.length
            · obtain ⟨r, hr⟩ : ∃ r, g.l[jj]? = some r := ⟨_, List.getElem?_eq_getElem hlt2⟩
              obtain ⟨b, o, rfl, A1, m1, d1, a0, a1, hs1⟩ := HK5.out.at_ hr
              have hu : (usedL (g.l.take jj) : Int) ≤ 6240 := by
                have h1 := usedL_small (rs := g.l.take jj) (fun r hr => by have := Hgd.out.val r (List.mem_of_mem_take hr); omega)
                have h2 : (g.l.take jj).length ≤ jj := List.length_take_le _ _
                have h3 : (g.l.take jj).length * 104 ≤ 60 * 104 := Nat.mul_le_mul_right _ (by omega)
                omega
              have Hsn := Lib.hid (usedL_take hr)
              have hm1 : m1 ≤ 32 := by rw [← hs1.len]; exact Hgd.out.val r (List.mem_of_getElem? hr)
              have Hml := Lib.hid hs1.len
              clear hs1 hr
              generalize usedL (g.l.take jj) = U at *
              go_wp2
              go_roundw
              case rel => exact ⟨jj + 1, by omega, by go_num, by rw [Hsn.out, Hml.out]; simp, trivial⟩
              case measure => simp [intOf]; omega
            · obtain rfl : jj = g.l.length := by omega
              rw [List.take_length]
              have Hg := Lib.hid (lv_get HL5.out k)
              go_wp2_with fail
              refine Hg.out.mono ?_
              rintro e w6 ⟨B6, m6, d6, rfl, hs6, _, hm6⟩
              have HL6 := Lib.hid (HL5.out.keep hm6)
              have hma : Mod (fun _ => False) w6 (w6.alloc (.cells #[.bool (mGet k g.l).isSome, .slice B6 m6 d6] 34)) := (Mod.refl _ w6).alloc _
              have hbx6 : (w6.alloc (.cells #[.bool (mGet k g.l).isSome, .slice B6 m6 d6] 34)).heap[w6.heap.size]? = some (.cells #[.bool (mGet k g.l).isSome, .slice B6 m6 d6] 34 (0, 0)) := heap_alloc_new w6 _
              have Hb6 : Hid (∀ W, Mod (fun _ => False) (w6.alloc (.cells #[.bool (mGet k g.l).isSome, .slice B6 m6 d6] 34)) W → W.cell? ⟨w6.heap.size, 0, none⟩ = some (.bool (mGet k g.l).isSome) ∧ W.cell? ⟨w6.heap.size, 1, none⟩ = some (.slice B6 m6 d6)) := fun W hm => by
                have hb := (hm.block _ (Array.getElem?_eq_some_iff.1 hbx6).1 id).trans hbx6
                exact ⟨by rw [cell_of_row _ _ _ _ _ _ hb]; rfl, by rw [cell_of_row _ _ _ _ _ _ hb]; rfl⟩
              have HL7 := Lib.hid (HL6.out.keep hma)
              obtain ⟨b0, b1⟩ := Hboxes.out w6 HL6.out.old
              obtain ⟨b0', b1'⟩ := Hboxes.out _ HL7.out.old
              have Hput := Lib.hid (lv_put HL7.out k is (Hsl.out.mod HL7.out.old (fun _ _ _ => id)))
              have hm6 : m6 = ((mGet k g.l).getD []).length := hs6.len.symm
              have hm6' : m6 ≤ 32 := by rw [hm6]; exact good_get Hgd.out k
              have Hm6 := Lib.hid hm6
              clear hma hbx6 hs6 hm6 Hg
              go_wp2_with fail
              refine Hput.out.mono ?_
              rintro e w8 ⟨hans, hm8⟩
              have HL8 := Lib.hid (HL7.out.keep hm8)
              obtain ⟨e0, e1⟩ := Hb6.out w8 hm8
              obtain ⟨f0, f1⟩ := Hboxes.out w8 HL8.out.old
              have Hu := Lib.hid (lv_used HL8.out)
              have Hold8 := Lib.hid (Ha.out.trans HL8.out.old (fun _ _ h => h))
              clear b0 b1 b0' b1' hm8 Hput Hops Hfew
              rcases hans with ⟨h1, q', rfl, h2⟩ | ⟨h1, rfl⟩
              · obtain ⟨hg', _, _⟩ := putP_ok h1
                rw [hg'] at h2
                have hU' := h2.good.used
                have Hu2 := Lib.hid (fun W hm => lv_used (h2.keep (w' := W) hm))
                dsimp only at hU' Hu2
                clear hg' h1 h2
                have hset := used_set k vs g.l
                have hdel := used_del k g.l
                rw [hvl] at hset
                have HE : Hid (((usedL (if is then mSet k vs g.l else mDel k g.l) : Nat) : Int) = (usedL g.l : Int) + ((if is then 4 + (m : Int) else 0) - (if (mGet k g.l).isSome then 4 + (m6 : Int) else 0))) := by
                  show _ = _
                  have hz : szO (mGet k g.l) = if (mGet k g.l).isSome then 4 + m6 else 0 := by
                    rw [Hm6.out]
                    cases mGet k g.l <;> rfl
                  rw [hz] at hset hdel
                  cases is <;> cases hh : (mGet k g.l).isSome <;> rw [hh] at hset hdel <;> simp only [if_true, if_false, Bool.false_eq_true] at hset hdel ⊢ <;> omega
                have HU : Hid ((usedL g.l : Int) ≤ 240) := by show _ ≤ _; have := Hgd.out.used; omega
                clear hset hdel Hm6
                generalize usedL (if is then mSet k vs g.l else mDel k g.l) = U' at *
                generalize (mGet k g.l).isSome = so at *
                generalize usedL g.l = U at *
                cases is <;> cases so
                all_goals
                  simp only [if_true, if_false, Bool.false_eq_true] at HE
                  go_wp2_with fail
                  refine Hu.out.mono ?_
                  rintro e w9 ⟨rfl, hm9⟩
                  have Hu9 := Lib.hid (Hu2.out w9 hm9)
                  have Hm9 := Lib.hid hm9
                  clear hm9
                  go_wp2_with fail
                  refine Hu9.out.mono ?_
                  rintro e w10 ⟨rfl, hm10⟩
                  have Hu10 := Lib.hid (Hu2.out w10 (Hm9.out.trans hm10 (fun _ _ h => h)))
                  have Hm10 := Lib.hid (Hold8.out.trans (Hm9.out.trans hm10 (fun _ _ h => h)) (fun _ _ h => h))
                  clear hm10
                  have hE := HE.out
                  have hU := HU.out
                  go_wp2_with fail
                  refine Hu10.out.mono ?_
                  rintro e w11 ⟨rfl, hm11⟩
                  have Hm11 := Lib.hid (Hm10.out.trans hm11 (fun _ _ h => h))
                  clear hm11
                  go_wp2
                  go_ret
                  exact ⟨by simp <;> omega, Hm11.out.below (Nat.le_refl _) (fun _ _ => id)⟩
              · have h1' : ((putP g k is vs).1 != 0) = true := by simpa using h1
                clear h1
                generalize (putP g k is vs).1 = er at *
                go_wp2_with fail
                refine Hu.out.mono ?_
                rintro e w9 ⟨rfl, hm9⟩
                have Hm9 := Lib.hid (Hold8.out.trans hm9 (fun _ _ h => h))
                clear hm9
                go_wp2
                go_ret
                exact ⟨by simp, Hm9.out.below (Nat.le_refl _) (fun _ _ => id)⟩
end Go.Proofs.Ytgeodpflaebbgaa
