/-
  bobbinref12: Holds.
-/
import Derived.Test.YtpkjafadhnecfaaKRef
namespace Go.Proofs.Ytpkjafadhnecfaa
open Go Go.RowKit

theorem has_bit (w : World) (a : Int) (h : I64 a) (t : Nat) (ht : t < 4) (md : Int) (hm : md = ((2 ^ t : Nat) : Int)) :
    Calls Try.prog 34 #[.int .i64 a, .int .i64 md] w fun e w' => e = .returned (.bool ((m4 a).testBit t)) ∧ w' = w := by
  subst hm
  rcases (by omega : t = 0 ∨ t = 1 ∨ t = 2 ∨ t = 3) with rfl | rfl | rfl | rfl
  · exact has_1 w a h
  · exact has_2 w a h
  · exact has_4 w a h
  · exact has_8 w a h
/-- What the first t bits make. -/
def pS (b : Nat) : Nat → Nat
  | 0 => 0
  | t + 1 => pS b t + (if b.testBit t then 2 ^ t else 0)
theorem pS_four {b : Nat} (h : b < 16) : pS b 4 = b := by
  have := by_bits b h
  simp only [pS, Nat.reducePow]
  omega
theorem pS_le (b : Nat) {t : Nat} (h : t ≤ 4) : pS b t ≤ 15 := by
  rcases (by omega : t = 0 ∨ t = 1 ∨ t = 2 ∨ t = 3 ∨ t = 4) with rfl | rfl | rfl | rfl | rfl <;> simp only [pS] <;> (repeat' split) <;> omega
theorem pow_in {t : Nat} (h : t < 4) {md : Int} (hm : md = ((2 ^ t : Nat) : Int)) : 1 ≤ md ∧ md ≤ 8 ∧ md * 2 = ((2 ^ (t + 1) : Nat) : Int) := by
  subst hm
  rcases (by omega : t = 0 ∨ t = 1 ∨ t = 2 ∨ t = 3) with rfl | rfl | rfl | rfl <;> decide
/-- Has one of the first j that are one's own the bit? -/
def hbJ (l : List Tr) (tx res : Int) (t j : Nat) : Bool := ((l.take j).filter (owF tx res)).any fun h => (m4 h.c).testBit t
theorem hbJ_succ {l : List Tr} {tx res : Int} {t j : Nat} (h : j < l.length) : hbJ l tx res t (j + 1) = (hbJ l tx res t j || (owF tx res (atS l j) && (m4 (atS l j).c).testBit t)) := by
  unfold hbJ
  rw [← List.take_append_getElem h, List.filter_append, List.any_append, ← atS_at h]
  congr 1
  cases ho : owF tx res (atS l j) <;> simp [ho]
theorem hbJ_all (l : List Tr) (tx res : Int) (t : Nat) : hbJ l tx res t l.length = (hld l tx res).testBit t := by
  unfold hbJ hld
  rw [List.take_length, orm_bit]

set_option maxRecDepth 100000 in
set_option maxHeartbeats 6400000 in
theorem rholds_ok (w : World) (A0 : Option Addr) (n c0 : Nat) (l : List Tr) (h : Tl w A0 n c0 l) (hn : n ≤ 1000) (ht : ∀ x ∈ l, T64 x) (tx res : Int) :
    Calls Try.prog 20 #[.slice A0 n c0, .int .i64 tx, .int .i64 res] w fun e w' => e = .returned (.int .i64 ((hld l tx res : Nat) : Int)) ∧ Mod (fun _ => False) w w' := by
  have HX := Lib.hid h
  have Hl : Hid (l.length = n) := h.len
  have HT : Hid (∀ i, i < n → I64 (atS l i).c) := fun i hi => by
    have hi' : i < l.length := by rw [Hl.out]; exact hi
    rw [atS_at hi']
    exact (ht _ (List.getElem_mem hi')).2.2
  have Hb := Lib.hid (hld_lt l tx res)
  have Hall : Hid (∀ t, hbJ l tx res t n = (hld l tx res).testBit t) := fun t => by rw [← Hl.out]; exact hbJ_all l tx res t
  clear h ht
  generalize hld l tx res = hh at *
  go_enter Try.func20, Try.ntmps20
  go_wp2
  go_loopw [7, 8] (fun s m wr => ∃ (t : Nat) (md out : Int), t ≤ 4 ∧ md = ((2 ^ t : Nat) : Int) ∧ out = ((pS hh t : Nat) : Int) ∧ m = .int .i64 md ∧ s = .int .i64 out ∧ Mod (fun _ => False) w wr) (fun _ m _ => 32 - (intOf m).toNat)
  case atStart => exact ⟨0, 1, 0, by omega, rfl, rfl, rfl, rfl, Mod.refl _ _⟩
  case round =>
    obtain ⟨t, md, out, ht4, hmd, hout, rfl, rfl, hr⟩ := hrel
    have Hr := Lib.hid hr
    have hob : 0 ≤ out ∧ out ≤ 15 := by have := pS_le hh ht4; omega
    obtain ⟨ho0, ho15⟩ := hob
    have Hout := Lib.hid hout
    clear hr hout
    rcases Nat.lt_or_ge t 4 with hlt4 | hge4
    · obtain ⟨hm1, hm8, hm2⟩ := pow_in hlt4 hmd
      have Hm2 := Lib.hid hm2
      have Hmd := Lib.hid hmd
      have HH := Lib.hid (fun V a ha => has_bit V a ha t hlt4 md hmd)
      clear hm2 hmd ht4
      obtain ⟨wo, hwo⟩ : ∃ wo, wo = wr := ⟨_, rfl⟩
      subst hwo
      go_wp2
      go_loopw [9, 10] (fun p s wr => ∃ j : Nat, j ≤ n ∧ s = .int .i64 j ∧ p = .bool (hbJ l tx res t j) ∧ Mod (fun _ => False) wo wr) (fun _ s _ => n - (intOf s).toNat)
      case atStart => exact ⟨0, Nat.zero_le _, rfl, rfl, Mod.refl _ _⟩
      case round =>
        obtain ⟨j, hj, rfl, rfl, hw⟩ := hrel
        have Hw := Lib.hid hw
        clear hw
        by_cases hlt : j < n
        · obtain ⟨b, o, hS, hc⟩ := (HX.out.keep (Hr.out.trans Hw.out (fun _ _ h => h))).cells (by omega)
          rw [hS]
          obtain ⟨s0, s1, s2⟩ := hc j hlt
          have HI := Lib.hid (HT.out j hlt)
          have Hst : Hid (hbJ l tx res t (j + 1) = (hbJ l tx res t j || (owF tx res (atS l j) && (m4 (atS l j).c).testBit t))) := hbJ_succ (by rw [Hl.out]; exact hlt)
          generalize atS l j = x at *
          have Hcl := Lib.hid (fun V => HH.out V x.c HI.out)
          have How : Hid (owF tx res x = ((x.a == tx) && (x.b == res))) := by show owF tx res x = _; rw [Bool.eq_iff_iff, owF_iff]; simp
          generalize (m4 x.c).testBit t = bt at *
          generalize hbJ l tx res t j = v at *
          clear hc hS
          cases v with
          | true =>
            have Hv : Hid (hbJ l tx res t (j + 1) = true) := by show _ = _; rw [Hst.out]; rfl
            go_wp2_with fail
            refine (Hcl.out _).mono ?_
            rintro e w5 ⟨rfl, h'⟩; subst w5
            go_wp2
            go_roundw
            case rel => exact ⟨j + 1, by omega, by go_num, by rw [Hv.out], Hw.out⟩
            case measure => simp [intOf]; omega
          | false =>
            by_cases ha : x.a = tx
            · have hd : (x.a == tx) = true := by simpa using ha
              clear ha
              by_cases hb : x.b = res
              · have hd2 : (x.b == res) = true := by simpa using hb
                have Hv : Hid (hbJ l tx res t (j + 1) = bt) := by show _ = _; rw [Hst.out, How.out, hd, hd2]; rfl
                clear hb
                go_wp2_with fail
                refine (Hcl.out _).mono ?_
                rintro e w5 ⟨rfl, h'⟩; subst w5
                go_wp2
                go_roundw
                case rel => exact ⟨j + 1, by omega, by go_num, by rw [Hv.out], Hw.out⟩
                case measure => simp [intOf]; omega
              · have hd2 : (x.b == res) = false := by simpa using hb
                have Hv : Hid (hbJ l tx res t (j + 1) = false) := by show _ = _; rw [Hst.out, How.out, hd, hd2]; rfl
                clear hb
                go_wp2_with fail
                refine (Hcl.out _).mono ?_
                rintro e w5 ⟨rfl, h'⟩; subst w5
                go_wp2
                go_roundw
                case rel => exact ⟨j + 1, by omega, by go_num, by rw [Hv.out], Hw.out⟩
                case measure => simp [intOf]; omega
            · have hd : (x.a == tx) = false := by simpa using ha
              have Hv : Hid (hbJ l tx res t (j + 1) = false) := by show _ = _; rw [Hst.out, How.out, hd]; rfl
              clear ha
              go_wp2_with fail
              refine (Hcl.out _).mono ?_
              rintro e w5 ⟨rfl, h'⟩; subst w5
              go_wp2
              go_roundw
              case rel => exact ⟨j + 1, by omega, by go_num, by rw [Hv.out], Hw.out⟩
              case measure => simp [intOf]; omega
        · obtain rfl : j = n := by omega
          have Hj := Lib.hid (Hall.out t)
          generalize hbJ l tx res t j = v at *
          have Hmf := Lib.hid (Hr.out.trans Hw.out (fun _ _ h => h))
          have Hps : Hid (pS hh (t + 1) = pS hh t + (if hh.testBit t then 2 ^ t else 0)) := rfl
          rw [← Hj.out] at Hps
          cases v with
          | true =>
            have Hfin : Hid (out + md = ((pS hh (t + 1) : Nat) : Int)) := by
              show _ = _
              rw [Hps.out, if_pos rfl, Hout.out, Hmd.out]
              omega
            go_wp2
            go_roundw
            case rel => exact ⟨t + 1, _, _, by omega, Hm2.out, Hfin.out, rfl, rfl, Hmf.out⟩
            case measure => simp [intOf]; omega
          | false =>
            have Hfin : Hid (out = ((pS hh (t + 1) : Nat) : Int)) := by
              show _ = _
              rw [Hps.out, Hout.out]
              simp
            go_wp2
            go_roundw
            case rel => exact ⟨t + 1, _, _, by omega, Hm2.out, Hfin.out, rfl, rfl, Hmf.out⟩
            case measure => simp [intOf]; omega
    · obtain rfl : t = 4 := by omega
      have hd : decide (md ≤ 8) = false := by rw [hmd]; decide
      have Hf : Hid (out = ((hh : Nat) : Int)) := by show _ = _; rw [Hout.out, pS_four Hb.out]
      clear hmd
      go_wp2
      go_ret
      exact ⟨by rw [← Hf.out]; rfl, Hr.out⟩
end Go.Proofs.Ytpkjafadhnecfaa
