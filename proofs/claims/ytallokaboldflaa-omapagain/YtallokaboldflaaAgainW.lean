/-
  OmapAgain: what is set to what it is changes nothing; what is let go, and set again, is as it was.
-/
import Derived.Test.YtallokaboldflaaCallsW
namespace Go.Proofs.Ytallokaboldflaa
open Go Go.RowKit

set_option maxRecDepth 100000 in
set_option maxHeartbeats 2000000 in
theorem again_walk (A : Option Addr) (n c : Nat) (l : List OpD) (w : World) (hl : OpsAt w A n c l) (k : Int) :
    Calls Try.prog 7 #[.slice A n c, .int .i64 k] w fun e w' => e = .returned (.bool true) ∧ Below w.heap.size w w' := by
  have Hl := Lib.hid hl
  have Hn := Lib.hid hl.1
  clear hl
  go_enter Try.func7, Try.ntmps7
  go_wp2_with fail
  refine (awake_ok _).mono ?_
  rintro e w1 ⟨rfl, hm1⟩
  have Hm1 := Lib.hid hm1
  clear hm1
  by_cases hbig : 60 < n
  · have hb : decide ((60 : Int) < n) = true := by simp; omega
    go_wp2
    go_ret
    exact ⟨rfl, Hm1.out.below (Nat.le_refl _) (fun _ _ => id)⟩
  have hb : decide ((60 : Int) < n) = false := by simp; omega
  have hn60 : n ≤ 60 := by omega
  clear hbig
  go_wp2_with fail
  have H0 := Lib.hid (live_new w w1 Hm1.out)
  obtain ⟨g, hg⟩ : ∃ g, g = w1.heap.size := ⟨_, rfl⟩
  rw [← hg]
  have Hg := Lib.hid hg
  clear hg hb
  go_loopw [7] (fun i wr => ∃ (j : Nat) (x : MV), j ≤ n ∧ i = .int .i64 j ∧ x.p = g ∧ Live w wr x ((l.take j).foldl opSet [])) (fun i _ => n - (intOf i).toNat)
  case atStart => exact ⟨0, _, by omega, rfl, Hg.out.symm, H0.out⟩
  case round =>
    obtain ⟨j, x, hj, rfl, hp, hL⟩ := hrel
    have HL := Lib.hid hL
    have Hlen := Lib.hid (foldTake_len l j (by omega))
    clear hL
    by_cases hlt : j < n
    · obtain ⟨y, hy⟩ : ∃ y, l[j]? = some y := ⟨_, List.getElem?_eq_getElem (by rw [Hn.out]; omega)⟩
      obtain ⟨b, o, rfl, hc⟩ := (Hl.out.keep HL.out.old).2.2.2 (by omega)
      obtain ⟨_, c1, c2⟩ := hc j y hy
      have Hsn := Lib.hid (foldl_take_succ (f := opSet) (b := ([] : List Pr)) hy)
      clear hc hy
      go_wp2_with fail
      go_still_tail 11, (by kernel_rfl)
      change wpList _ _ _ _ _ wr.drew
      have HLd : Hid (Live w wr.drew x ((l.take j).foldl opSet [])) := HL.out.keep (Mod.refl _ wr).drew
      clear c1 c2 HL
      generalize wr.drew = wd at *
      have Hs := Lib.hid (live_set w _ _ _ HLd.out (by have := Hlen.out; omega) y.k y.v)
      rw [hp] at Hs
      go_wp2_with fail
      refine Hs.out.mono ?_
      rintro e w3 ⟨rfl, x', hp', hL', _⟩
      have HL' := Lib.hid hL'
      have hpx : x'.p = g := hp'
      clear hL' hp' hp Hs
      go_wp2
      go_roundw
      case rel => exact ⟨j + 1, x', by omega, by go_num, hpx, by rw [Hsn.out]; exact HL'.out⟩
      case measure => simp [intOf]; omega
    · obtain rfl : j = n := by omega
      have hall : l.take j = l := List.take_of_length_le (by rw [Hn.out]; omega)
      rw [hall] at HL Hlen
      have Hsrt := Lib.hid (opSet_srt l [] List.Pairwise.nil)
      obtain ⟨L, hLe⟩ : ∃ L, l.foldl opSet [] = L := ⟨_, rfl⟩
      rw [hLe] at HL Hlen Hsrt
      clear hall hLe Hl Hn H0 Hg
      have Ht := Lib.hid (live_all w _ _ _ HL.out (by have := Hlen.out; omega) 0)
      rw [hp] at Ht
      go_wp2_with fail
      refine Ht.out.mono ?_
      rintro e w3 ⟨B, d, rfl, hpl, hnew, hm3⟩
      have HW := Lib.hid (Want.of HL.out hpl hnew)
      have HL3 := Lib.hid (HL.out.keep hm3)
      have Hget := Lib.hid (get_ok w3 _ L HL3.out.rd Hsrt.out (by have := Hlen.out; omega) k)
      rw [hp] at Hget
      clear Ht hpl hnew hm3 HL
      go_wp2_with fail
      refine Hget.out.mono ?_
      rintro e w4 ⟨rfl, hm4⟩
      have HW4 := Lib.hid (HW.out.keep hm4)
      have HL4 := Lib.hid (HL3.out.keep hm4)
      clear Hget hm4 HW HL3
      have Hm : ∀ (v : ByteArray) (o : Option ByteArray), mGet k L = o → gotV (mGet k L) = .tuple #[.string (o.getD ⟨#[]⟩), .bool o.isSome] := fun _ o e => by rw [e]; rfl
      cases hgk : mGet k L with
      | none =>
        have hv : gotV none = .tuple #[.string ⟨#[]⟩, .bool false] := rfl
        rw [hv]
        have Hdel := Lib.hid (live_del w _ _ _ HL4.out (by have := Hlen.out; omega) k)
        rw [hp, hgk, mDel_none hgk] at Hdel
        clear Hm hv hgk
        go_wp2_with fail
        refine Hdel.out.mono ?_
        rintro e w5 ⟨rfl, x5, hp5, hL5, hM5, hN5⟩
        have HW5 := Lib.hid (HW4.out.step hM5 hN5)
        have HL5 := Lib.hid hL5
        have Ht := Lib.hid (live_all w _ _ _ hL5 (by have := Hlen.out; omega) 0)
        rw [hp5] at Ht
        clear hL5 hM5 hN5 HW4 HL4 Hdel
        go_wp2_with fail
        refine Ht.out.mono ?_
        rintro e w6 ⟨B6, d6, rfl, hpl6, _, hm6⟩
        have HW6 := Lib.hid (HW5.out.keep hm6)
        have HL6 := Lib.hid (HL5.out.keep hm6)
        have Hsame := Lib.hid (same_ok w6 _ _ _ _ _ _ _ _ hpl6 HW6.out.pl (by have := Hlen.out; omega) (by have := Hlen.out; omega))
        rw [eqP_self] at Hsame
        clear hpl6 hm6 HW5 HL5 Ht
        go_wp2_with fail
        refine Hsame.out.mono ?_
        rintro e w7 ⟨rfl, q, rfl⟩
        go_wp2
        go_ret
        exact ⟨rfl, (HL6.out.drewN q).old.below (Nat.le_refl _) (fun _ _ => id)⟩
      | some v =>
        have hv : gotV (some v) = .tuple #[.string v, .bool true] := rfl
        rw [hv]
        have Hset := Lib.hid (live_set w _ _ _ HL4.out (by have := Hlen.out; omega) k v)
        rw [hp, hgk, mSet_same hgk] at Hset
        have Hgk := Lib.hid hgk
        clear Hm hv hgk
        go_wp2_with fail
        refine Hset.out.mono ?_
        rintro e w5 ⟨rfl, x5, hp5, hL5, hM5, hN5⟩
        have HW5 := Lib.hid (HW4.out.step hM5 hN5)
        have HL5 := Lib.hid hL5
        have Ht := Lib.hid (live_all w _ _ _ hL5 (by have := Hlen.out; omega) 0)
        rw [hp5] at Ht
        clear hL5 hM5 hN5 HW4 HL4 Hset hp
        go_wp2_with fail
        refine Ht.out.mono ?_
        rintro e w6 ⟨B6, d6, rfl, hpl6, _, hm6⟩
        have HW6 := Lib.hid (HW5.out.keep hm6)
        have HL6 := Lib.hid (HL5.out.keep hm6)
        have Hsame := Lib.hid (same_ok w6 _ _ _ _ _ _ _ _ hpl6 HW6.out.pl (by have := Hlen.out; omega) (by have := Hlen.out; omega))
        rw [eqP_self] at Hsame
        clear hpl6 hm6 HW5 HL5 Ht
        go_wp2_with fail
        refine Hsame.out.mono ?_
        rintro e w7 ⟨rfl, q, rfl⟩
        have HW7 : Hid (Want (w6.drewN q) x5 B L.length d L) := HW6.out.keep ((Mod.refl _ w6).drewN q)
        have HL7 := Lib.hid (HL6.out.drewN q)
        clear HW6 HL6 Hsame
        obtain ⟨w7, hw7⟩ : ∃ w7, w7 = w6.drewN q := ⟨_, rfl⟩
        rw [← hw7] at HW7 HL7 ⊢
        clear hw7
        obtain ⟨e1, e2, e3⟩ := mSet_mDel Hsrt.out Hgk.out
        have Hdel := Lib.hid (live_del w _ _ _ HL7.out (by have := Hlen.out; omega) k)
        rw [hp5, Hgk.out] at Hdel
        have E1 := Lib.hid e1
        have E2 := Lib.hid e2
        have E3 := Lib.hid e3
        clear e1 e2 e3
        go_wp2_with fail
        refine Hdel.out.mono ?_
        rintro e w8 ⟨rfl, x8, hp8, hL8, hM8, hN8⟩
        have HW8 := Lib.hid (HW7.out.step hM8 hN8)
        have HL8 := Lib.hid hL8
        have Hlen8 := Lib.hid (len_ok w8 _ _ hL8.rd)
        rw [hp8] at Hlen8
        clear hL8 hM8 hN8 HW7 HL7 Hdel hp5
        go_wp2_with fail
        refine Hlen8.out.mono ?_
        rintro e w9 ⟨rfl, rfl⟩
        have Hset := Lib.hid (live_set w _ _ _ HL8.out (by have := E3.out; have := Hlen.out; omega) k v)
        rw [hp8, E2.out, E1.out] at Hset
        clear Hlen8
        go_wp2_with fail
        refine Hset.out.mono ?_
        rintro e w10 ⟨rfl, x10, hp10, hL10, hM10, hN10⟩
        have HW10 := Lib.hid (HW8.out.step hM10 hN10)
        have HL10 := Lib.hid hL10
        have Ht := Lib.hid (live_all w _ _ _ hL10 (by have := Hlen.out; omega) 0)
        rw [hp10] at Ht
        clear hL10 hM10 hN10 HW8 HL8 Hset hp8 hp10
        have hlen : wrap64 ((L.length : Int) - 1) = ((mDel k L).length : Int) := by
          have := E3.out
          have := Hlen.out
          unfold wrap64; omega
        go_wp2_with fail
        refine Ht.out.mono ?_
        rintro e w11 ⟨B11, d11, rfl, hpl11, _, hm11⟩
        have HW11 := Lib.hid (HW10.out.keep hm11)
        have HL11 := Lib.hid (HL10.out.keep hm11)
        have Hsame := Lib.hid (same_ok w11 _ _ _ _ _ _ _ _ hpl11 HW11.out.pl (by have := Hlen.out; omega) (by have := Hlen.out; omega))
        rw [eqP_self] at Hsame
        clear hpl11 hm11 HW10 HL10 Ht
        go_wp2_with fail
        refine Hsame.out.mono ?_
        rintro e w12 ⟨rfl, q12, rfl⟩
        go_wp2
        go_ret
        exact ⟨rfl, (HL11.out.drewN q12).old.below (Nat.le_refl _) (fun _ _ => id)⟩
end Go.Proofs.Ytallokaboldflaa
