/-
  OmapParts: what All hands on is what stands below a key, and then what From hands on from it.
-/
import Derived.Test.YtallokaboldflaaCallsW
namespace Go.Proofs.Ytallokaboldflaa
open Go Go.RowKit

theorem parts_all {k : Int} {L : List Pr} (h : Srt L) : L.filter (fun x => decide (x.1 < k)) ++ mFrom k L = L := by
  rw [below_filter h]
  exact List.take_append_drop _ _

set_option maxRecDepth 100000 in
set_option maxHeartbeats 2000000 in
theorem parts_walk (A : Option Addr) (n c : Nat) (l : List OpD) (w : World) (hl : OpsAt w A n c l) (k : Int) :
    Calls Try.prog 6 #[.slice A n c, .int .i64 k] w fun e w' => e = .returned (.bool true) ∧ Below w.heap.size w w' := by
  have Hl := Lib.hid hl
  have Hn := Lib.hid hl.1
  clear hl
  go_enter Try.func6, Try.ntmps6
  go_wp2_with fail
  refine (awake_ok _).mono ?_
  rintro e w1 ⟨rfl, hm1⟩
  have Hm1 := Lib.hid hm1
  clear hm1
  by_cases hbig : 60 < n
  · have hb : decide ((60 : Int) < n) = true := by simp; omega
    go_wp2
    go_ret
    exact ⟨rfl, Hm1.out.below (Nat.le_refl _) (fun _ _ => id)⟩
  have hb : decide ((60 : Int) < n) = false := by simp; omega
  have hn60 : n ≤ 60 := by omega
  clear hbig
  go_wp2_with fail
  have H0 := Lib.hid (live_new w w1 Hm1.out)
  obtain ⟨g, hg⟩ : ∃ g, g = w1.heap.size := ⟨_, rfl⟩
  rw [← hg]
  have Hg := Lib.hid hg
  clear hg hb
  go_loopw [7] (fun i wr => ∃ (j : Nat) (x : MV), j ≤ n ∧ i = .int .i64 j ∧ x.p = g ∧ Live w wr x ((l.take j).foldl opDo [])) (fun i _ => n - (intOf i).toNat)
  case atStart => exact ⟨0, _, by omega, rfl, Hg.out.symm, H0.out⟩
  case round =>
    obtain ⟨j, x, hj, rfl, hp, hL⟩ := hrel
    have HL := Lib.hid hL
    have Hlen := Lib.hid (foldTake_lenD l j 60 (by omega))
    clear hL
    by_cases hlt : j < n
    · obtain ⟨y, hy⟩ : ∃ y, l[j]? = some y := ⟨_, List.getElem?_eq_getElem (by rw [Hn.out]; omega)⟩
      obtain ⟨b, o, rfl, hc⟩ := (Hl.out.keep HL.out.old).2.2.2 (by omega)
      obtain ⟨c0, c1, c2⟩ := hc j y hy
      have Hsn := Lib.hid (foldl_take_succ (f := opDo) (b := ([] : List Pr)) hy)
      clear hc hy
      cases hd : y.del with
      | true =>
        rw [hd] at c0
        have Hdo : Hid (∀ L, opDo L y = mDel y.k L) := fun L => by unfold opDo; rw [if_pos hd]
        have Hs := Lib.hid (live_del w _ _ _ HL.out (by have := Hlen.out; omega) y.k)
        rw [hp] at Hs
        clear hd
        go_wp2_with fail
        refine Hs.out.mono ?_
        rintro e w3 ⟨rfl, x', hp', hL', _⟩
        have HL' := Lib.hid hL'
        clear hL' hp Hs c0 c1 c2 HL
        go_wp2
        go_roundw
        case rel => exact ⟨j + 1, x', by omega, by go_num, hp', by rw [Hsn.out, Hdo.out]; exact HL'.out⟩
        case measure => simp [intOf]; omega
      | false =>
        rw [hd] at c0
        have Hdo : Hid (∀ L, opDo L y = mSet y.k y.v L) := fun L => by unfold opDo; rw [if_neg (by rw [hd]; decide)]
        clear hd
        go_wp2_with fail
        go_still_tail 11, (by kernel_rfl)
        change wpList _ _ _ _ _ wr.drew
        have HLd : Hid (Live w wr.drew x ((l.take j).foldl opDo [])) := HL.out.keep (Mod.refl _ wr).drew
        clear c0 c1 c2 HL
        generalize wr.drew = wd at *
        have Hs := Lib.hid (live_set w _ _ _ HLd.out (by have := Hlen.out; omega) y.k y.v)
        rw [hp] at Hs
        go_wp2_with fail
        refine Hs.out.mono ?_
        rintro e w3 ⟨rfl, x', hp', hL', _⟩
        have HL' := Lib.hid hL'
        clear hL' hp Hs
        go_wp2
        go_roundw
        case rel => exact ⟨j + 1, x', by omega, by go_num, hp', by rw [Hsn.out, Hdo.out]; exact HL'.out⟩
        case measure => simp [intOf]; omega
    · obtain rfl : j = n := by omega
      have hall : l.take j = l := List.take_of_length_le (by rw [Hn.out]; omega)
      rw [hall] at HL Hlen
      have Hsrt := Lib.hid (opDo_srt l [] List.Pairwise.nil)
      obtain ⟨L, hLe⟩ : ∃ L, l.foldl opDo [] = L := ⟨_, rfl⟩
      rw [hLe] at HL Hlen Hsrt
      clear hall hLe Hl Hn H0 Hg
      have Ht := Lib.hid (live_all w _ _ _ HL.out (by have := Hlen.out; omega) 0)
      rw [hp] at Ht
      go_wp2_with fail
      refine Ht.out.mono ?_
      rintro e w3 ⟨B, d, rfl, hpl, _, hm3⟩
      have Hpl := Lib.hid hpl
      have HL3 := Lib.hid (HL.out.keep hm3)
      clear Ht hpl hm3 HL
      obtain ⟨m, hm⟩ : ∃ m, L.length = m := ⟨_, rfl⟩
      rw [hm] at Hpl Hlen ⊢
      have Hm := Lib.hid hm
      have hm60 : m ≤ 60 := Hlen.out
      clear hm Hlen
      go_wp2_with fail
      go_loopw [8, 10] (fun out i wr => ∃ j : Nat, j ≤ m ∧ i = .int .i64 j ∧ Made w3 wr out ((L.take j).filter (fun y => decide (y.1 < k)))) (fun _ i _ => m - (intOf i).toNat)
      case atStart => exact ⟨0, by omega, rfl, none, 0, rfl, OwN.nil _ _ _ _, Mod.refl _ _⟩
      case round =>
        obtain ⟨j, hj, rfl, A1, c1, rfl, hown, hm⟩ := hrel
        have hfl : ((L.take j).filter (fun y => decide (y.1 < k))).length ≤ j := Nat.le_trans (List.length_filter_le _ _) (by rw [List.length_take]; omega)
        obtain ⟨q, hq⟩ : ∃ q, ((L.take j).filter (fun y => decide (y.1 < k))).length = q := ⟨_, rfl⟩
        rw [hq] at hown hfl ⊢
        have Hq := Lib.hid hq
        have Hown := Lib.hid hown
        have Hmm := Lib.hid hm
        clear hown hm hq
        by_cases hlt : j < m
        · obtain ⟨x', hx⟩ : ∃ x', L[j]? = some x' := ⟨_, List.getElem?_eq_getElem (by rw [Hm.out]; omega)⟩
          obtain ⟨b, o, rfl, hc⟩ := (Hpl.out.keep Hmm.out).2.2 (by omega)
          obtain ⟨c0, c1'⟩ := hc j x' hx
          have Hsn := Lib.hid (filter_take_succ (p := (fun y => decide (y.1 < k))) hx)
          have Hown2 := Lib.hid (Hown.out.alloc (.cells #[.int .i64 x'.1, .string x'.2] 45))
          have Hsrc : Hid (SrcN (wr.alloc (.cells #[.int .i64 x'.1, .string x'.2] 45)) (some ⟨wr.heap.size, 0, none⟩) 1 2 [.int .i64 x'.1, .string x'.2]) := SrcN.lit wr [.int .i64 x'.1, .string x'.2] 45 (by simp [Value.oneCell'])
          have Hlow := Lib.hid Hmm.out.size
          clear hc hx
          by_cases hk : x'.1 < k
          · have hb : decide (x'.1 < k) = true := by simpa using hk
            have Hmd : Hid (∀ A' c' W1, OwN W1 w3.heap.size 45 2 A' (q + 1) c' (prs ((L.take j).filter (fun y => decide (y.1 < k))) ++ [.int .i64 x'.1, .string x'.2]) → (wr.alloc (.cells #[.int .i64 x'.1, .string x'.2] 45)).grownBy W1 (blkOf A1) → Made w3 W1 (.slice A' (q + 1) c') ((L.take (j + 1)).filter (fun y => decide (y.1 < k)))) := fun A' c' W1 h1 h2 => by
              rw [Hsn.out, if_pos (by simpa using hk)]
              exact Made.step Hq.out Hown.out Hmm.out h1 h2
            clear hk
            go_wp2_with (at_builtin; refine wpList_appN (.tmp 67) (.tmp 72) pairElem rfl rfl rfl rfl Hown2.out Hsrc.out (by omega) (by unfold maxLen; omega) (by rw [World.size_alloc]; have := Hlow.out; omega) ?_; intro A' c' W1 h1 h2 h3; have Hmade := Lib.hid (Hmd.out A' c' W1 h1 h2); clear h1 h2 h3)
            go_roundw
            case rel => exact ⟨j + 1, by omega, by go_num, Hmade.out⟩
            case measure => simp [intOf]; omega
          · have hb : decide (x'.1 < k) = false := by simpa using hk
            have Hmade : Hid (Made w3 wr (.slice A1 q c1) ((L.take (j + 1)).filter (fun y => decide (y.1 < k)))) := by
              rw [Hsn.out, if_neg (by simpa using hk), List.append_nil]
              exact ⟨A1, c1, by rw [Hq.out], by rw [Hq.out]; exact Hown.out, Hmm.out⟩
            clear hk
            go_wp2
            go_roundw
            case rel => exact ⟨j + 1, by omega, by go_num, Hmade.out⟩
            case measure => simp [intOf]; omega
        · obtain rfl : j = m := by omega
          have e : L.take j = L := List.take_of_length_le (by rw [Hm.out]; omega)
          rw [e] at Hq Hown
          have Hpa := Lib.hid (parts_all (k := k) Hsrt.out)
          obtain ⟨F, hF⟩ : ∃ F, L.filter (fun y => decide (y.1 < k)) = F := ⟨_, rfl⟩
          rw [hF] at Hq Hown Hpa
          have HL4 := Lib.hid (HL3.out.keep Hmm.out)
          have Hold := Lib.hid HL3.out.old
          have hfrom : (mFrom k L).length ≤ 60 := by have := fromLen k L; have := Hm.out; omega
          have Ht := Lib.hid (live_from w _ _ _ HL4.out (by have := Hm.out; omega) k)
          rw [hp] at Ht
          clear e hF HL3
          go_wp2_with fail
          refine Ht.out.mono ?_
          rintro e w5 ⟨A5, c5, rfl, hpl5, _, hm5⟩
          have Hown5 := Lib.hid (Hown.out.mod hm5 (fun _ _ => id))
          have Hsrc5 := Lib.hid hpl5.src
          have Hmm5 := Lib.hid (Hmm.out.trans hm5 (fun _ _ h => h))
          have Hlow := Lib.hid Hmm5.out.size
          have Hsum : Hid (q + (mFrom k L).length = j) := by
            show _ = _
            have := congrArg List.length Hpa.out
            rw [List.length_append, Hq.out, Hm.out] at this
            exact this
          obtain ⟨r, hr⟩ : ∃ r, (mFrom k L).length = r := ⟨_, rfl⟩
          rw [hr] at Hsrc5 hfrom Hsum ⊢
          clear hpl5 hm5 Ht Hown hr
          have Hfin : Hid (∀ A' c' W1, OwN W1 w3.heap.size 45 2 A' (q + r) c' (prs F ++ prs (mFrom k L)) → w5.grownBy W1 (blkOf A1) → Pl W1 A' (q + r) c' L ∧ Mod (fun _ => False) w3 W1) := fun A' c' W1 h1 h2 => by
            rw [← prs_append, Hpa.out] at h1
            refine ⟨h1.pl, Hmm5.out.grown h2 (fun k e hk => ?_)⟩
            have := (Hown5.out.lt k e).1
            omega
          go_wp2_with (at_builtin; refine wpList_appN (.tmp 74) (.tmp 77) pairElem rfl rfl rfl rfl Hown5.out Hsrc5.out (by omega) (by unfold maxLen; omega) (Hlow.out) ?_; intro A' c' W1 h1 h2 h3; have Hf := Lib.hid (Hfin.out A' c' W1 h1 h2); clear h1 h2 h3)
          have Hsame := Lib.hid (same_ok W1 _ _ _ _ _ _ _ _ Hf.out.1 (Hpl.out.keep Hf.out.2) (by omega) (by omega))
          rw [eqP_self] at Hsame
          refine Hsame.out.mono ?_
          rintro e w7 ⟨rfl, z, rfl⟩
          go_wp2
          go_ret
          exact ⟨rfl, ((Hold.out.trans Hf.out.2 (fun _ _ h => h)).drewN z).below (Nat.le_refl _) (fun _ _ => id)⟩
end Go.Proofs.Ytallokaboldflaa
