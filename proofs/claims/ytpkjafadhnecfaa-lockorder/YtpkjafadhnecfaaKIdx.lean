/-
  slices.IndexFunc at locks, with the condition that a lock is one's own.
-/
import Derived.Test.YtpkjafadhnecfaaKFind
namespace Go.Proofs.Ytpkjafadhnecfaa
open Go Go.RowKit

def idxI (f : Tr → Bool) (l : List Tr) : Int := if l.any f then ((l.findIdx f : Nat) : Int) else -1
theorem idx_found {f : Tr → Bool} {l : List Tr} {j : Nat} (hj : j < l.length) (hf : f (atS l j) = true) (hno : ∀ q, q < j → f (atS l q) = false) : idxI f l = (j : Int) := by
  rw [atS_at hj] at hf
  have ha : l.any f = true := List.any_eq_true.2 ⟨_, List.getElem_mem hj, hf⟩
  have hi : l.findIdx f = j := by
    rw [List.findIdx_eq hj]
    refine ⟨hf, fun q hq => ?_⟩
    have := hno q hq
    rwa [atS_at (by omega)] at this
  unfold idxI
  rw [ha, if_pos rfl, hi]
theorem idx_not {f : Tr → Bool} {l : List Tr} (hno : ∀ q, q < l.length → f (atS l q) = false) : idxI f l = -1 := by
  have ha : l.any f = false := by
    rw [List.any_eq_false]
    intro x hx
    obtain ⟨i, hi, rfl⟩ := List.mem_iff_getElem.1 hx
    have := hno i hi
    rw [atS_at hi] at this
    simp [this]
  unfold idxI
  rw [ha]; rfl
theorem idx_any {f : Tr → Bool} {l : List Tr} (h : l.any f = true) : idxI f l = ((l.findIdx f : Nat) : Int) := by unfold idxI; rw [h, if_pos rfl]
theorem idx_none {f : Tr → Bool} {l : List Tr} (h : l.any f = false) : idxI f l = -1 ∧ l.findIdx f = l.length := by
  refine ⟨by unfold idxI; rw [h]; rfl, List.findIdx_eq_length.2 (fun x hx => ?_)⟩
  have := List.any_eq_false.1 h x hx
  simpa using this
theorem idx_le (f : Tr → Bool) : ∀ l : List Tr, l.findIdx f ≤ (l.filter fun y => !f y).length
  | [] => by simp
  | x :: l => by
    rw [List.findIdx_cons]
    cases hx : f x with
    | true => simp
    | false =>
      have := idx_le f l
      simp [hx]
      omega

set_option maxRecDepth 100000 in
set_option maxHeartbeats 1600000 in
theorem idx_ok (w : World) (A0 : Option Addr) (n c0 : Nat) (l : List Tr) (h : Tl w A0 n c0 l) (hn : n ≤ 1000) (g k : Nat) (f : Tr → Bool)
    (HC : ∀ W, Mod (fun _ => False) w W → ∀ s : Tr, Calls Try.prog 45 #[.agg #[.int .i64 s.a, .int .i64 s.b, .int .i64 s.c], .pointer (some ⟨g, 0, none⟩), .pointer (some ⟨k, 0, none⟩)] W fun e w' => e = .returned (.bool (f s)) ∧ Mod (fun _ => False) W w') :
    Calls Try.prog 31 #[.slice A0 n c0, .func (.func 45) #[] #[.pointer (some ⟨g, 0, none⟩), .pointer (some ⟨k, 0, none⟩)]] w fun e w' => e = .returned (.int .i64 (idxI f l)) ∧ Mod (fun _ => False) w w' := by
  have HX := Lib.hid h
  have HK := Lib.hid HC
  have Hl : Hid (l.length = n) := h.len
  clear HC h
  go_enter Try.func31, Try.ntmps31
  go_wp2
  go_loopw [8] (fun i wr => ∃ j : Nat, j ≤ n ∧ i = .int .i64 j ∧ (∀ q, q < j → f (atS l q) = false) ∧ Mod (fun _ => False) w wr) (fun i _ => n - (intOf i).toNat)
  case atStart => exact ⟨0, Nat.zero_le _, rfl, fun q hq => absurd hq (by omega), Mod.refl _ _⟩
  case round =>
    obtain ⟨j, hj, rfl, hno, hr⟩ := hrel
    have Hno := Lib.hid hno
    have Hr := Lib.hid hr
    clear hno hr
    by_cases hlt : j < n
    · obtain ⟨b, o, hS, hc⟩ := (HX.out.keep Hr.out).cells (by omega)
      rw [hS]
      obtain ⟨s0, s1, s2⟩ := hc j hlt
      have Hfd : Hid (f (atS l j) = true → idxI f l = (j : Int)) := fun hf => idx_found (by rw [Hl.out]; exact hlt) hf Hno.out
      have Hst : Hid (f (atS l j) = false → ∀ q, q < j + 1 → f (atS l q) = false) := fun hf q hq => by
        rcases Nat.lt_succ_iff_lt_or_eq.1 hq with h | h
        · exact Hno.out q h
        · rw [h]; exact hf
      generalize hT : atS l j = s at *
      have Hcl := Lib.hid (HK.out _ Hr.out s)
      clear hT hc hS
      cases hf : f s with
      | true =>
        rw [hf] at Hcl
        have Hi := Lib.hid (Hfd.out hf)
        clear hf Hfd Hst
        go_wp2_with fail
        refine Hcl.out.mono ?_
        rintro e w2 ⟨rfl, hm2⟩
        have Hm2 := Lib.hid (Hr.out.trans hm2 (fun _ _ h => h))
        clear hm2 s0 s1 s2
        go_wp2
        go_ret
        exact ⟨by rw [Hi.out]; rfl, Hm2.out⟩
      | false =>
        rw [hf] at Hcl
        have Hi := Lib.hid (Hst.out hf)
        clear hf Hfd Hst
        go_wp2_with fail
        refine Hcl.out.mono ?_
        rintro e w2 ⟨rfl, hm2⟩
        have Hm2 := Lib.hid (Hr.out.trans hm2 (fun _ _ h => h))
        clear hm2 s0 s1 s2
        go_wp2
        go_roundw
        case rel => exact ⟨j + 1, by omega, by go_num, Hi.out, Hm2.out⟩
        case measure => simp [intOf]; omega
    · obtain rfl : j = n := by omega
      have Hi : Hid (idxI f l = -1) := idx_not (fun q hq => Hno.out q (by rw [Hl.out] at hq; exact hq))
      go_wp2
      go_ret
      exact ⟨by rw [Hi.out]; rfl, Hr.out⟩
end Go.Proofs.Ytpkjafadhnecfaa
