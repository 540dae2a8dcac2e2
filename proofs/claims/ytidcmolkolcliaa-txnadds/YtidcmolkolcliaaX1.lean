/-
  Package txn: within, mayValue, mayChange, Size, savepoints (slices.IsSorted, maySaves); the reference's value, Change, Size.
-/
import Derived.Test.YtidcmolkolcliaaXRow
import Derived.Deep.RegionHeld3
import Derived.BigQuiet
namespace Go.Proofs.Ytidcmolkolcliaa
open Go Go.RowKit

theorem calls_quiet {P : Program} {f : FuncId} {args : Array Value} {w : World} {n : Nat} {v : Value}
    (h : Calls P f args (w.drewN n) fun e w' => e = .returned v ∧ w' = w.drewN n) : Calls P f args (w.drewN n) fun e w'' => e = .returned v ∧ ∃ m, w'' = w.drewN m :=
  h.mono fun _ _ ⟨he, hw⟩ => ⟨he, n, hw⟩
def srtB (S : List Int) : Bool := (List.range S.length).all (fun i => decide (i = 0) || decide (atI S (i - 1) ≤ atI S i))
theorem srtB_iff {S : List Int} : srtB S = true ↔ ∀ i, 0 < i → i < S.length → atI S (i - 1) ≤ atI S i := by
  unfold srtB
  rw [List.all_eq_true]
  simp only [List.mem_range, Bool.or_eq_true, decide_eq_true_eq]
  constructor
  · intro h i h0 hi
    rcases h i hi with e | e
    · omega
    · exact e
  · intro h i hi
    by_cases e : i = 0
    · exact .inl e
    · exact .inr (h i (by omega) hi)
theorem srtB_no {S : List Int} {i : Nat} (h0 : 0 < i) (hi : i < S.length) (h : ¬ atI S (i - 1) ≤ atI S i) : srtB S = false := by
  cases hc : srtB S with
  | false => rfl
  | true => exact absurd (srtB_iff.1 hc i h0 hi) h
theorem sL_srt {S : List Int} {k : Nat} (h : srtB S = false) : sL S k = false := by
  cases hc : sL S k with
  | false => rfl
  | true =>
    have := srtB_iff.2 (fun i h0 hi => sL_rises hc i (i - 1) (by omega) hi)
    rw [h] at this
    cases this
theorem sL_long {S : List Int} {k : Nat} (h : 4 < S.length) : sL S k = false := by
  unfold sL
  rw [decide_eq_false (by omega), Bool.false_and]
theorem sL_nil (k : Nat) : sL [] k = true := rfl
theorem sL_is {S : List Int} {k : Nat} (h4 : S.length ≤ 4) (h : srtB S = true) (h0 : 0 < S.length) : sL S k = (decide (0 ≤ atI S 0) && decide (atI S (S.length - 1) ≤ (k : Int))) := by
  by_cases a : 0 ≤ atI S 0
  · by_cases b : atI S (S.length - 1) ≤ (k : Int)
    · rw [decide_eq_true a, decide_eq_true b]
      exact sL_of h4 (srtB_iff.1 h) (fun _ => ⟨a, b⟩)
    · rw [decide_eq_true a, decide_eq_false b]
      cases hc : sL S k with
      | false => rfl
      | true => exact absurd (sL_bd hc (i := S.length - 1) (by omega)).2 b
  · rw [decide_eq_false a]
    cases hc : sL S k with
    | false => rfl
    | true => exact absurd (sL_bd hc h0).1 a

set_option maxRecDepth 100000 in
set_option maxHeartbeats 3200000 in
theorem within_ok (w : World) (n l u : Int) :
    Calls Try.prog 36 #[.int .i64 n, .int .i64 l, .int .i64 u] w fun e w' => e = .returned (.bool (inB n l u)) ∧ w' = w := by
  unfold inB
  by_cases h1 : l ≤ n
  · go_enter Try.func36, Try.ntmps36
    go_wp2
    go_ret
    exact ⟨by simp [h1], rfl⟩
  · have hd : decide (l ≤ n) = false := by simpa using h1
    go_enter Try.func36, Try.ntmps36
    go_wp2
    go_ret
    exact ⟨by simp, rfl⟩
set_option maxRecDepth 100000 in
set_option maxHeartbeats 3200000 in
theorem isNaN_ok (w : World) (n : Int) :
    Calls Try.prog 49 #[.int .i64 n] w fun e w' => e = .returned (.bool false) ∧ w' = w := by
  have q : (n != n) = false := by simp
  go_enter Try.func49, Try.ntmps49
  go_wp2
  go_ret
  exact ⟨rfl, rfl⟩
set_option maxRecDepth 100000 in
set_option maxHeartbeats 3200000 in
theorem less_ok (w : World) (a b : Int) :
    Calls Try.prog 48 #[.int .i64 a, .int .i64 b] w fun e w' => e = .returned (.bool (decide (a < b))) ∧ w' = w := by
  have H := Lib.hid (fun V => isNaN_ok V a)
  go_enter Try.func48, Try.ntmps48
  go_wp2_with fail
  refine (H.out _).mono ?_
  rintro e w' ⟨rfl, hw⟩
  subst w'
  go_wp2
  go_ret
  exact ⟨rfl, rfl⟩
set_option maxRecDepth 100000 in
set_option maxHeartbeats 3200000 in
theorem sorted_ok (w : World) (A : Option Addr) (n c : Nat) (S : List Int) (h : Il w A n c S) (hn : n ≤ 1000) :
    Calls Try.prog 46 #[.slice A n c] w fun e w' => e = .returned (.bool (srtB S)) ∧ Mod (fun _ => False) w w' := by
  have HX := Lib.hid h
  have Hlen := Lib.hid h.len
  clear h
  go_enter Try.func46, Try.ntmps46
  go_wp2
  go_loopw [3] (fun k wr => ∃ j : Int, k = .int .i64 j ∧ -1 ≤ j ∧ j < n ∧ (∀ i : Nat, 0 < i → j < i → i < n → atI S (i - 1) ≤ atI S i) ∧ Mod (fun _ => False) w wr) (fun k _ => (intOf k).toNat)
  case atStart => exact ⟨(n : Int) - 1, rfl, by omega, by omega, fun i _ h1 h2 => by omega, Mod.refl _ _⟩
  case round =>
    obtain ⟨j, rfl, hj1, hj2, hs, hm⟩ := hrel
    have HS := Lib.hid hs
    have HM := Lib.hid hm
    clear hs hm
    by_cases h0 : 0 < j
    · obtain ⟨q, rfl⟩ : ∃ q : Nat, j = (q : Int) := ⟨j.toNat, by omega⟩
      obtain ⟨b, o, hA, hc⟩ := (HX.out.keep HM.out).2.2 (by omega)
      have s1 := hc q _ (atI_at (by rw [Hlen.out]; omega))
      have s0 := hc (q - 1) _ (atI_at (by rw [Hlen.out]; omega))
      have e1 : IntKind.i64.wrap ((q : Int) - 1) = ((q - 1 : Nat) : Int) := by rw [IntKind.wrap_i64]; omega
      have l1 : q - 1 < n := by omega
      have l2 : q < n := by omega
      rw [hA]
      clear hc hA
      by_cases hlt : atI S q < atI S (q - 1)
      · have hd : decide (atI S q < atI S (q - 1)) = true := decide_eq_true hlt
        have HQ := Lib.hid (fun V => less_ok V (atI S q) (atI S (q - 1)))
        rw [hd] at HQ
        have Hno : Hid (srtB S = false) := srtB_no (i := q) (by omega) (by rw [Hlen.out]; omega) (by omega)
        clear hlt
        go_wp2_with fail
        go_quiet ((go_at_call 48; exact calls_quiet (HQ.out _)))
        go_wp2
        go_ret
        exact ⟨by rw [Hno.out]; rfl, HM.out.drewN _⟩
      · have hd : decide (atI S q < atI S (q - 1)) = false := decide_eq_false hlt
        have HQ := Lib.hid (fun V => less_ok V (atI S q) (atI S (q - 1)))
        rw [hd] at HQ
        have Hs2 : Hid (∀ i : Nat, 0 < i → (q : Int) - 1 < i → i < n → atI S (i - 1) ≤ atI S i) := fun i h1 h2 h3 => by
          rcases Nat.lt_or_ge q i with h | h
          · exact HS.out i h1 (by omega) h3
          · obtain rfl : i = q := by omega
            omega
        clear hlt
        go_wp2_with fail
        go_quiet ((go_at_call 48; exact calls_quiet (HQ.out _)))
        go_wp2
        go_roundw
        case rel => exact ⟨(q : Int) - 1, by go_num, by omega, by omega, Hs2.out, HM.out.drewN _⟩
        case measure => simp [intOf]; omega
    · have hd : decide (0 < j) = false := decide_eq_false h0
      have Hyes : Hid (srtB S = true) := srtB_iff.2 (fun i h1 h2 => HS.out i h1 (by omega) (by rw [← Hlen.out]; exact h2))
      clear h0
      go_wp2
      go_ret
      exact ⟨by rw [Hyes.out]; rfl, HM.out⟩
set_option maxRecDepth 100000 in
set_option maxHeartbeats 3200000 in
theorem maySaves_ok (w : World) (A : Option Addr) (n c : Nat) (S : List Int) (h : Il w A n c S) (k : Nat) (hn : n ≤ 1000) :
    Calls Try.prog 39 #[.slice A n c, .int .i64 (k : Int)] w fun e w' => e = .returned (.bool (sL S k)) ∧ Mod (fun _ => False) w w' := by
  have hlen := h.len
  have HX := Lib.hid h
  have HS := Lib.hid (sorted_ok w A n c S h hn)
  obtain ⟨v, hv⟩ : ∃ v, sL S k = v := ⟨_, rfl⟩
  rw [hv]
  have Hv := Lib.hid hv
  have Hlen := Lib.hid hlen
  clear h hv hlen
  by_cases h4 : 4 < n
  · have hd : decide ((4 : Int) < (n : Int)) = true := decide_eq_true (by omega)
    have He : Hid (v = false) := by rw [← Hv.out]; exact sL_long (by rw [Hlen.out]; exact h4)
    rw [He.out]
    clear h4
    go_enter Try.func39, Try.ntmps39
    go_wp2
    go_ret
    exact ⟨rfl, Mod.refl _ _⟩
  have hd : decide ((4 : Int) < (n : Int)) = false := decide_eq_false (by omega)
  cases hs : srtB S with
  | false =>
    rw [hs] at HS
    have He : Hid (v = false) := by rw [← Hv.out]; exact sL_srt hs
    rw [He.out]
    clear hs h4
    go_enter Try.func39, Try.ntmps39
    go_wp2_with fail
    refine HS.out.mono ?_
    rintro e w' ⟨rfl, hm⟩
    have HM := Lib.hid hm
    clear hm
    go_wp2
    go_ret
    exact ⟨rfl, HM.out⟩
  | true =>
  rw [hs] at HS
  by_cases h0 : n = 0
  · subst h0
    have He : Hid (v = true) := by rw [← Hv.out, List.eq_nil_of_length_eq_zero Hlen.out]; rfl
    rw [He.out]
    clear hs h4
    go_enter Try.func39, Try.ntmps39
    go_wp2_with fail
    refine HS.out.mono ?_
    rintro e w' ⟨rfl, hm⟩
    have HM := Lib.hid hm
    clear hm
    go_wp2
    go_ret
    exact ⟨rfl, HM.out⟩
  have hd0 : decide (n = 0) = false := decide_eq_false h0
  have hd1 : ((n : Int) == 0) = false := by simpa using h0
  have He : Hid (v = (decide (0 ≤ atI S 0) && decide (atI S (n - 1) ≤ (k : Int)))) := by
    rw [← Hv.out, sL_is (by rw [Hlen.out]; omega) hs (by rw [Hlen.out]; omega), Hlen.out]
    exact Lib.hid rfl
  have e1 : (n : Int) - 1 = ((n - 1 : Nat) : Int) := by omega
  clear hs
  by_cases a : 0 ≤ atI S 0
  · by_cases b : atI S (n - 1) ≤ (k : Int)
    · have Hf : Hid (v = true) := by rw [He.out, decide_eq_true a, decide_eq_true b]; exact Lib.hid rfl
      rw [Hf.out]
      have q1 : decide (0 ≤ atI S 0) = true := decide_eq_true a
      have q2 : decide (atI S (n - 1) ≤ (k : Int)) = true := decide_eq_true b
      clear a b
      go_enter Try.func39, Try.ntmps39
      go_wp2_with fail
      refine HS.out.mono ?_
      rintro e w2 ⟨rfl, hm⟩
      obtain ⟨b, o, hA, hc⟩ := (HX.out.keep hm).2.2 (by omega)
      have s0 := hc 0 _ (atI_at (by rw [Hlen.out]; omega))
      have s1 := hc (n - 1) _ (atI_at (by rw [Hlen.out]; omega))
      rw [Nat.add_zero] at s0
      rw [hA]
      have HM := Lib.hid hm
      clear hm hc hA
      go_wp2
      go_ret
      exact ⟨rfl, HM.out⟩
    · have Hf : Hid (v = false) := by rw [He.out, decide_eq_true a, decide_eq_false b]; exact Lib.hid rfl
      rw [Hf.out]
      have q1 : decide (0 ≤ atI S 0) = true := decide_eq_true a
      have q2 : decide (atI S (n - 1) ≤ (k : Int)) = false := decide_eq_false b
      clear a b
      go_enter Try.func39, Try.ntmps39
      go_wp2_with fail
      refine HS.out.mono ?_
      rintro e w2 ⟨rfl, hm⟩
      obtain ⟨b, o, hA, hc⟩ := (HX.out.keep hm).2.2 (by omega)
      have s0 := hc 0 _ (atI_at (by rw [Hlen.out]; omega))
      have s1 := hc (n - 1) _ (atI_at (by rw [Hlen.out]; omega))
      rw [Nat.add_zero] at s0
      rw [hA]
      have HM := Lib.hid hm
      clear hm hc hA
      go_wp2
      go_ret
      exact ⟨rfl, HM.out⟩
  · have Hf : Hid (v = false) := by rw [He.out, decide_eq_false a]; exact Lib.hid rfl
    rw [Hf.out]
    have q1 : decide (0 ≤ atI S 0) = false := decide_eq_false a
    clear a
    go_enter Try.func39, Try.ntmps39
    go_wp2_with fail
    refine HS.out.mono ?_
    rintro e w2 ⟨rfl, hm⟩
    obtain ⟨b, o, hA, hc⟩ := (HX.out.keep hm).2.2 (by omega)
    have s0 := hc 0 _ (atI_at (by rw [Hlen.out]; omega))
    rw [Nat.add_zero] at s0
    rw [hA]
    have HM := Lib.hid hm
    clear hm hc hA
    go_wp2
    go_ret
    exact ⟨rfl, HM.out⟩
end Go.Proofs.Ytidcmolkolcliaa
