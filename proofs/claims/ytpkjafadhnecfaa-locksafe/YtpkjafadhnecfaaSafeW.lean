/-
  LockSafe: whatever is granted, and dropped, safe locks stay safe.
-/
import Derived.Test.YtpkjafadhnecfaaKAw
namespace Go.Proofs.Ytpkjafadhnecfaa
open Go Go.RowKit

/-- The locks that are held ahead of a round. -/
structure Lks (w wr : World) (A : Option Addr) (k c j : Nat) (ms : List Tr) : Prop where
  tl : Tl wr A k c ms
  sf : sfB ms = true
  le : k ≤ j
  old : Mod (fun _ => False) w wr
theorem Lks.keep {w a b : World} {A : Option Addr} {k c j : Nat} {ms : List Tr} (h : Lks w a A k c j ms) (hm : Mod (fun _ => False) a b) : Lks w b A k c j ms :=
  ⟨h.tl.keep hm, h.sf, h.le, h.old.trans hm (fun _ _ h => h)⟩
theorem Lks.next {w a : World} {A : Option Addr} {k c j : Nat} {ms : List Tr} (h : Lks w a A k c j ms) : Lks w a A k c (j + 1) ms := ⟨h.tl, h.sf, Nat.le_succ_of_le h.le, h.old⟩

set_option maxRecDepth 100000 in
set_option maxHeartbeats 6400000 in
theorem safe_walk (W : World) (A0 : Option Addr) (n c0 : Nat) (l : List Tr) (h : Tl W A0 n c0 l) :
    Calls Try.prog 5 #[.slice A0 n c0] W fun e w' => e = .returned (.bool true) ∧ Below W.heap.size W w' := by
  by_cases hbig : 100 < n
  · have hgt : decide ((100 : Int) < (n : Int)) = true := by rw [decide_eq_true_eq]; omega
    clear hbig
    go_enter Try.func5, Try.ntmps5
    go_wp2_with fail
    refine (awake_ok _).mono ?_
    rintro e w1 ⟨rfl, hm1⟩
    have HM1 := Lib.hid hm1
    clear hm1
    go_wp2
    go_ret
    exact ⟨rfl, HM1.out.below (Nat.le_refl _) (fun _ _ => id)⟩
  have hn : n ≤ 1000 := by omega
  have hgt : decide ((100 : Int) < (n : Int)) = false := by rw [decide_eq_false_iff_not]; omega
  have hn100 : n ≤ 100 := by omega
  clear hbig
  have HX := Lib.hid h
  clear h
  go_enter Try.func5, Try.ntmps5
  go_wp2_with fail
  refine (awake_ok _).mono ?_
  rintro e w1 ⟨rfl, hm1⟩
  have HM1 := Lib.hid hm1
  clear hm1
  have HL0 : Hid (Lks w1 w1 none 0 0 0 []) := ⟨Tl.nil _ _ _, rfl, Nat.le_refl _, Mod.refl _ _⟩
  go_wp2
  go_loopw [4, 5] (fun m i wr => ∃ (j : Nat) (A : Option Addr) (k c : Nat) (ms : List Tr), j ≤ n ∧ i = .int .i64 j ∧ m = .slice A k c ∧ Lks w1 wr A k c j ms) (fun _ i _ => n - (intOf i).toNat)
  case atStart => exact ⟨0, none, 0, 0, [], Nat.zero_le _, rfl, rfl, HL0.out⟩
  case round =>
    obtain ⟨j, A, k, c, ms, hj, rfl, rfl, hr⟩ := hrel
    have Hr := Lib.hid hr
    clear hr HL0
    by_cases hlt : j < n
    · obtain ⟨b, o, hS, hc⟩ := (HX.out.keep (HM1.out.trans Hr.out.old (fun _ _ h => h))).cells (by omega)
      rw [hS]
      obtain ⟨s0, s1, s2⟩ := hc j hlt
      have hkj : k ≤ j := Hr.out.le
      have hk : k ≤ 1000 := by omega
      have Hkl : Hid (ms.length = k) := Hr.out.tl.len
      generalize hT : atS l j = s at *
      clear hT hc hS
      have Hr2 := Lib.hid (Hr.out.keep ((Mod.refl _ wr).alloc (.cells #[.int .i64 s.a, .int .i64 s.b, .int .i64 s.c] 37)))
      have Hb2 : Hid (RBx (wr.alloc (.cells #[.int .i64 s.a, .int .i64 s.b, .int .i64 s.c] 37)) wr.heap.size 37 s) := RBx.new wr _ s
      by_cases hm0 : s.c = 0
      · have hd : (s.c == 0) = true := by simpa using hm0
        have HD := Lib.hid (drop_ok _ A k c ms Hr2.out.tl hk s.a)
        unfold FdAns at HD
        have Hfl : Hid ((ms.filter (drF s.a)).length ≤ k) := by
          show _ ≤ _
          have := List.length_filter_le (drF s.a) ms
          have := Hkl.out
          omega
        have Hsf2 := Lib.hid (drop_safe Hr2.out.sf s.a)
        generalize ms.filter (drF s.a) = fs at *
        clear hm0
        go_wp2_with fail
        refine HD.out.mono ?_
        rintro e w3 ⟨B, cB, rfl, hB, hm3⟩
        have HL3 : Hid (Lks w1 w3 B fs.length cB (j + 1) fs) := ⟨hB.tl, Hsf2.out, by have := Hfl.out; omega, Hr2.out.old.trans hm3 (fun _ _ h => h)⟩
        clear hB hm3 HD s0 s1 s2
        go_wp2_with fail
        refine (safe_ok _ _ _ _ _ HL3.out.tl (by have := HL3.out.le; omega)).mono ?_
        rintro e wz ⟨rfl, hmz⟩
        have Hz := Lib.hid (HL3.out.keep hmz)
        have Hsf := Lib.hid HL3.out.sf
        rw [Hsf.out]
        clear hmz
        go_wp2
        go_roundw
        case rel => exact ⟨j + 1, B, fs.length, cB, fs, by omega, by go_num, rfl, Hz.out⟩
        case measure => simp [intOf]; omega
      · have hd : (s.c == 0) = false := by simpa using hm0
        have G := Lib.hid (grant_ok _ A k c ms Hr2.out.tl hk s.a s.b s.c)
        have BL := Lib.hid (fun V (hV : Tl V A k c ms) => blockers_ok V A k c ms hV hk s.a s.b s.c)
        have Hgs : Hid (blks ms s.a s.b s.c = [] → sfB (grt ms s.a s.b s.c) = true) := fun h => grant_safe Hr2.out.sf h
        have Hgt : Hid ((grt ms s.a s.b s.c).length ≤ k + 1) := by
          show _ ≤ _
          have := gr_len (owF s.a s.b) (gH ms s.a s.b s.c) ms
          have := Hkl.out
          unfold grt
          omega
        unfold GrAns at G
        unfold BkAns at BL
        clear hm0
        cases ho : okA s.a s.b s.c with
        | false =>
          rw [(grE_arg ho).1, (grE_arg ho).2] at G
          clear ho Hgs Hgt
          generalize blks ms s.a s.b s.c = bs at *
          go_wp2_with fail
          refine G.out.mono ?_
          rintro e w3 ⟨B, cB, rfl, hB, hm3⟩
          have HL3 := Lib.hid (Hr2.out.keep hm3).next
          obtain ⟨e0, e1, e2⟩ := (Hb2.out.keep hm3).cells
          clear hB hm3 G s0 s1 s2
          go_wp2_with fail
          refine (BL.out _ HL3.out.tl).mono ?_
          rintro e w4 ⟨C, cC, rfl, hC, hm4⟩
          have HL4 := Lib.hid (HL3.out.keep hm4)
          clear hC hm4 BL HL3 e0 e1 e2
          go_wp2_with fail
          refine (safe_ok _ _ _ _ _ HL4.out.tl (by have := HL4.out.le; omega)).mono ?_
          rintro e wz ⟨rfl, hmz⟩
          have Hz := Lib.hid (HL4.out.keep hmz)
          have Hsf := Lib.hid HL4.out.sf
          rw [Hsf.out]
          clear hmz
          go_wp2
          go_roundw
          case rel => exact ⟨j + 1, A, k, c, ms, by omega, by go_num, rfl, Hz.out⟩
          case measure => simp [intOf]; omega
        | true =>
          by_cases hb : blks ms s.a s.b s.c = []
          · rw [(grE_yes ho hb).1, (grE_yes ho hb).2] at G
            have Hsg := Lib.hid (Hgs.out hb)
            rw [hb] at BL
            clear ho hb Hgs
            generalize grt ms s.a s.b s.c = gs at *
            go_wp2_with fail
            refine G.out.mono ?_
            rintro e w3 ⟨B, cB, rfl, hB, hm3⟩
            have HL3 := Lib.hid (Hr2.out.keep hm3).next
            have HG3 : Hid (Lks w1 w3 B gs.length cB (j + 1) gs) := ⟨hB.tl, Hsg.out, by have := Hgt.out; omega, Hr2.out.old.trans hm3 (fun _ _ h => h)⟩
            obtain ⟨e0, e1, e2⟩ := (Hb2.out.keep hm3).cells
            clear hB hm3 G s0 s1 s2
            go_wp2_with fail
            refine (BL.out _ HL3.out.tl).mono ?_
            rintro e w4 ⟨C, cC, rfl, hC, hm4⟩
            have HG4 := Lib.hid (HG3.out.keep hm4)
            clear hC hm4 BL HL3 HG3 e0 e1 e2
            go_wp2_with fail
            refine (safe_ok _ _ _ _ _ HG4.out.tl (by have := HG4.out.le; omega)).mono ?_
            rintro e wz ⟨rfl, hmz⟩
            have Hz := Lib.hid (HG4.out.keep hmz)
            have Hsf := Lib.hid HG4.out.sf
            rw [Hsf.out]
            clear hmz
            go_wp2
            go_roundw
            case rel => exact ⟨j + 1, B, gs.length, cB, gs, by omega, by go_num, rfl, Hz.out⟩
            case measure => simp [intOf]; omega
          · rw [(grE_state ho hb).1, (grE_state ho hb).2] at G
            have hbl : 0 < (blks ms s.a s.b s.c).length := List.length_pos_iff.2 hb
            clear ho hb Hgs Hgt
            generalize blks ms s.a s.b s.c = bs at *
            have hfree : (((bs.length : Nat) : Int) == 0) = false := by simp; intro e; rw [e] at hbl; simp at hbl
            clear hbl
            go_wp2_with fail
            refine G.out.mono ?_
            rintro e w3 ⟨B, cB, rfl, hB, hm3⟩
            have HL3 := Lib.hid (Hr2.out.keep hm3).next
            obtain ⟨e0, e1, e2⟩ := (Hb2.out.keep hm3).cells
            clear hB hm3 G s0 s1 s2
            go_wp2_with fail
            refine (BL.out _ HL3.out.tl).mono ?_
            rintro e w4 ⟨C, cC, rfl, hC, hm4⟩
            have HL4 := Lib.hid (HL3.out.keep hm4)
            clear hC hm4 BL HL3 e0 e1 e2
            go_wp2_with fail
            refine (safe_ok _ _ _ _ _ HL4.out.tl (by have := HL4.out.le; omega)).mono ?_
            rintro e wz ⟨rfl, hmz⟩
            have Hz := Lib.hid (HL4.out.keep hmz)
            have Hsf := Lib.hid HL4.out.sf
            rw [Hsf.out]
            clear hmz
            go_wp2
            go_roundw
            case rel => exact ⟨j + 1, A, k, c, ms, by omega, by go_num, rfl, Hz.out⟩
            case measure => simp [intOf]; omega
    · obtain rfl : j = n := by omega
      have HMf := Lib.hid (HM1.out.trans Hr.out.old (fun _ _ h => h))
      go_wp2
      go_ret
      exact ⟨rfl, HMf.out.below (Nat.le_refl _) (fun _ _ => id)⟩
end Go.Proofs.Ytpkjafadhnecfaa
