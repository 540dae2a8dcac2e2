/-
  More contracts of package byt: Take.
-/
import Derived.Test.YtpkgeidenkjnfaaByt2r
namespace Go.Proofs.Ytpkgeidenkjnfaa
open Go Go.RowKit

theorem take_nil (w : World) :
    Calls Try.prog 43 #[.pointer none] w fun e w' => e = .returned (.tuple #[.slice none 0 0, .int .i64 6]) ∧ w = w' := by
  go_enter Try.func43, Try.ntmps43
  go_wp2_with (go_at_call 45; refine (left_nil _).mono ?_; rintro e w' ⟨rfl, rfl⟩)
  go_ret2
  exact ⟨rfl, rfl⟩

set_option maxHeartbeats 400000 in
theorem take_short (w : World) (g : Nat) (A : Option Addr) (n c : Nat) (xs : List UInt8) (h : Rd w g A n c xs) (hn : n < 1 + (xs.getD 0 0).toNat) :
    Calls Try.prog 43 #[.pointer (some ⟨g, 0, none⟩)] w fun e w' => e = .returned (.tuple #[.slice none 0 0, .int .i64 6]) ∧ w = w' := by
  have h1 := h.cell
  by_cases h0 : n = 0
  · subst h0
    clear hn
    go_enter Try.func43, Try.ntmps43
    go_wp2_with (go_at_call 45; refine (left_ok _ g _ 0 c xs h).mono ?_; rintro e w' ⟨rfl, rfl⟩)
    go_ret2
    exact ⟨rfl, rfl⟩
  · obtain ⟨b, o, rfl, hcell⟩ := h.2.1.2.2 (by omega)
    obtain ⟨x, hx⟩ : ∃ x : Nat, (xs.getD 0 0).toNat = x := ⟨_, rfl⟩
    have hc0 : w.cell? ⟨b, o, none⟩ = some (.int .u8 (x : Int)) := by rw [← hx]; exact hcell 0 (by omega)
    have hb : ((n : Int) == 0) = false := by simp; omega
    have hx1 := (xs.getD 0 0).toNat_lt
    rw [hx] at hn hx1
    have hlt : (n : Int) < 1 + (x : Int) := by omega
    have hx2 : (x : Int) < 256 := by omega
    have hn0 : (0 : Int) < n := by omega
    clear hcell hn hx h0 hx1
    go_enter Try.func43, Try.ntmps43
    go_wp2_with (go_at_call 45; refine (left_ok _ g _ n c xs h).mono ?_; rintro e w' ⟨rfl, rfl⟩)
    go_ret2
    exact ⟨rfl, rfl⟩

set_option maxHeartbeats 800000 in
set_option maxRecDepth 100000 in
theorem take_ok (w : World) (g : Nat) (A : Option Addr) (n c : Nat) (xs : List UInt8) (h : Rd w g A n c xs) (hc : c ≤ maxLen) (h0 : 0 < n) (x : Nat) (hx : (xs.getD 0 0).toNat = x) (hn : 1 + x ≤ n) :
    Calls Try.prog 43 #[.pointer (some ⟨g, 0, none⟩)] w fun e w' => e = .returned (.tuple #[.slice (some ⟨w.heap.size, 0, none⟩) x x, .int .i64 0]) ∧
      ∃ w1, Fresh w w1 ((xs.drop 1).take x) ∧ Got w1 g A n c (1 + x) xs w' := by
  have h1 := h.cell
  have h2 := h.frozen
  have hlt := h.lt
  obtain ⟨b, o, rfl, hcell⟩ := h.2.1.2.2 (by omega)
  have hc0 : w.cell? ⟨b, o, none⟩ = some (.int .u8 (x : Int)) := by rw [← hx]; exact hcell 0 (by omega)
  have hb : ((n : Int) == 0) = false := by simp; omega
  have hx1 := (xs.getD 0 0).toNat_lt
  rw [hx] at hx1
  have hx2 : (x : Int) < 256 := by omega
  have hn0 : (0 : Int) < n := by omega
  have hn1 : 1 + (x : Int) ≤ n := by omega
  have hC := h.2.1.cap
  have hC1 : (n : Int) ≤ c := by omega
  have hsub : Sl w (some ⟨b, o + 1, none⟩) x (c - 1) ((xs.drop 1).take x) := by
    refine ⟨by simp [h.2.1.len]; omega, by omega, fun _ => ⟨b, o + 1, rfl, fun j hj => ?_⟩⟩
    rw [Nat.add_assoc, hcell (1 + j) (by omega)]
    simp [hj, Nat.add_comm]
  have ht : (1 + (x : Int)).toNat = 1 + x := by omega
  have hn2 : 1 + (x : Int) ≤ c := by omega
  have Hh := Lib.hid h
  have Hn := Lib.hid hn
  have Hc := Lib.hid hc
  clear hcell hx hx1 hc hn
  obtain ⟨A1, hA1, hsub1⟩ : ∃ A1, A1 = (if c = 1 then some ⟨b, o, none⟩ else some ⟨b, o + 1, none⟩) ∧ Sl w A1 x (c - 1) ((xs.drop 1).take x) := by
    refine ⟨_, rfl, ?_⟩
    split
    · obtain rfl : x = 0 := by omega
      exact ⟨by simp, by omega, fun h => absurd h (by omega)⟩
    · exact hsub
  have HA1 := Lib.hid hA1
  clear hA1 hsub
  by_cases hc1 : c = 1
  · have hA2 := HA1.out
    rw [if_pos hc1] at hA2
    obtain rfl : x = 0 := by omega
    obtain rfl : n = 1 := by omega
    subst hc1 hA2
    go_enter Try.func43, Try.ntmps43
    go_wp2_with (go_at_call 45; refine (left_ok _ g _ 1 1 xs h).mono ?_; rintro e w' ⟨rfl, rfl⟩)
    refine (clone_ok _ _ 0 (1 - 1) _ hsub1 (by omega)).mono ?_
    rintro e w1 ⟨rfl, hb1, hz1, hm1⟩
    have hr1 : Rd w1 g (some ⟨b, o, none⟩) 1 1 xs := Hh.out.mod hm1 id (fun _ _ _ => id)
    have hg1 := hr1.cell
    have hg2 := hr1.frozen
    have hcut := hr1.cut (1 + 0) (by omega)
    rw [if_pos rfl] at hcut
    have Hcut := Lib.hid hcut
    have Hf : Hid (Fresh w w1 ((xs.drop 1).take 0)) := ⟨hb1, hz1, hm1⟩
    clear hb1 hz1 hm1 hcut h1 h2 hc0 hr1
    go_wp2
    go_ret2
    exact ⟨rfl, w1, Hf.out, Hcut.out⟩
  · have hA2 := HA1.out
    rw [if_neg hc1] at hA2
    subst hA2
    by_cases hc2 : c = 1 + x
    · obtain rfl : n = 1 + x := by omega
      subst hc2
      rw [show 1 + x - 1 = x by omega] at hsub1
      go_enter Try.func43, Try.ntmps43
      go_wp2_with (go_at_call 45; refine (left_ok _ g _ (1 + x) (1 + x) xs h).mono ?_; rintro e w' ⟨rfl, rfl⟩)
      refine (clone_ok _ _ x x _ hsub1 (by omega)).mono ?_
      rintro e w1 ⟨rfl, hb1, hz1, hm1⟩
      have hr1 : Rd w1 g (some ⟨b, o, none⟩) (1 + x) (1 + x) xs := Hh.out.mod hm1 id (fun _ _ _ => id)
      have hg1 := hr1.cell
      have hg2 := hr1.frozen
      have hcut := hr1.cut (1 + x) (by omega)
      rw [if_pos rfl, Nat.sub_self] at hcut
      have Hcut := Lib.hid hcut
      have Hf : Hid (Fresh w w1 ((xs.drop 1).take x)) := ⟨hb1, hz1, hm1⟩
      clear hb1 hz1 hm1 hcut h1 h2 hc0 hr1
      go_wp2
      go_ret2
      exact ⟨rfl, w1, Hf.out, Hcut.out⟩
    · 
      go_enter Try.func43, Try.ntmps43
      go_wp2_with (go_at_call 45; refine (left_ok _ g _ n c xs h).mono ?_; rintro e w' ⟨rfl, rfl⟩)
      refine (clone_ok _ _ x (c - 1) _ hsub1 (by omega)).mono ?_
      rintro e w1 ⟨rfl, hb1, hz1, hm1⟩
      have hr1 : Rd w1 g (some ⟨b, o, none⟩) n c xs := Hh.out.mod hm1 id (fun _ _ _ => id)
      have hg1 := hr1.cell
      have hg2 := hr1.frozen
      have hcut := hr1.cut (1 + x) (by omega)
      rw [if_neg hc2] at hcut
      have Hcut := Lib.hid hcut
      have Hf : Hid (Fresh w w1 ((xs.drop 1).take x)) := ⟨hb1, hz1, hm1⟩
      clear hb1 hz1 hm1 hcut h1 h2 hc0 hr1
      go_wp2
      go_ret2
      exact ⟨rfl, w1, Hf.out, Hcut.out⟩
end Go.Proofs.Ytpkgeidenkjnfaa
