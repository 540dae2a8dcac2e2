/-
  MasterGreater: of two masters the one of the greater number is read; of two in one sector the last one.
-/
import Derived.Test.YtkigpicjhklioaaQMl
namespace Go.Proofs.Ytkigpicjhklioaa
open Go Go.RowKit

theorem parity (n : Int) : n % 2 = 0 ∨ n % 2 = 1 := by have := mod2 n; omega
/-- What is read of two that were written, one behind the other. -/
theorem rdM_pair (a b : Ms) (ha : a.May) (hb : b.May) (A B : List UInt8) (hA : toldB A 0 = false) (hB : toldB B 1 = false) :
    rdM (([A, B].set (a.no % 2).toNat (secM a)).set (b.no % 2).toNat (secM b)) = if a.no % 2 ≠ b.no % 2 ∧ b.no < a.no then a else b := by
  rcases parity a.no with pa | pa <;> rcases parity b.no with pb | pb
  · rw [pa, pb]
    show lastOf (secM b) B 2 = _
    have hb0 : toldB (secM b) 0 = true := by rw [toldB_sec b hb, decide_eq_true pb]
    rw [lastOf_left _ _ hb0 hB, toldM_sec b hb 0 pb, if_neg (by simp)]
  · rw [pa, pb]
    show lastOf (secM a) (secM b) 2 = _
    have ha0 : toldB (secM a) 0 = true := by rw [toldB_sec a ha, decide_eq_true pa]
    have hb1 : toldB (secM b) 1 = true := by rw [toldB_sec b hb, decide_eq_true pb]
    rw [lastOf_both _ _ ha0 hb1, toldM_sec a ha 0 pa, toldM_sec b hb 1 pb]
    have hne : a.no ≠ b.no := fun e => by rw [e] at pa; omega
    by_cases hlt : a.no < b.no
    · rw [if_pos hlt, if_neg (by omega)]
    · rw [if_neg hlt, if_pos (by omega)]
  · rw [pa, pb]
    show lastOf (secM b) (secM a) 2 = _
    have ha1 : toldB (secM a) 1 = true := by rw [toldB_sec a ha, decide_eq_true pa]
    have hb0 : toldB (secM b) 0 = true := by rw [toldB_sec b hb, decide_eq_true pb]
    rw [lastOf_both _ _ hb0 ha1, toldM_sec a ha 1 pa, toldM_sec b hb 0 pb]
    by_cases hlt : b.no < a.no
    · rw [if_pos hlt, if_pos (by omega)]
    · rw [if_neg hlt, if_neg (by omega)]
  · rw [pa, pb]
    show lastOf A (secM b) 2 = _
    have hb1 : toldB (secM b) 1 = true := by rw [toldB_sec b hb, decide_eq_true pb]
    rw [lastOf_right _ _ hA hb1, toldM_sec b hb 1 pb, if_neg (by simp)]

set_option maxRecDepth 100000 in
set_option maxHeartbeats 1600000 in
theorem greater_walk (a b : Ms) (W : World) :
    Calls Try.prog 7 #[.agg #[.int .i64 a.no, .int .i64 a.ep, .int .i64 a.st, .int .i64 a.ck], .agg #[.int .i64 b.no, .int .i64 b.ep, .int .i64 b.st, .int .i64 b.ck]] W fun e w' => e = .returned (.bool true) ∧ Below W.heap.size W w' := by
  obtain ⟨w2, hw2⟩ : ∃ w2, w2 = (W.alloc (.cells #[.int .i64 a.no, .int .i64 a.ep, .int .i64 a.st, .int .i64 a.ck] 23)).alloc (.cells #[.int .i64 b.no, .int .i64 b.ep, .int .i64 b.st, .int .i64 b.ck] 23) := ⟨_, rfl⟩
  have hm2 : Mod (fun _ => False) W w2 := by rw [hw2]; exact ((Mod.refl _ W).alloc _).alloc _
  have ha2 : InB w2 W.heap.size a := by rw [hw2]; exact (InB.new W a).keep ((Mod.refl _ _).alloc _)
  have hb2 : InB w2 (W.heap.size + 1) b := by
    rw [hw2]
    have := InB.new (W.alloc (.cells #[.int .i64 a.no, .int .i64 a.ep, .int .i64 a.st, .int .i64 a.ck] 23)) b
    simpa using this
  have Hm2 := Lib.hid hm2
  have Ha2 := Lib.hid ha2
  have Hb2 := Lib.hid hb2
  have Hw2 := Lib.hid hw2
  clear hm2 ha2 hb2 hw2
  go_enter Try.func7, Try.ntmps7
  go_wp2_with fail
  rw [← Hw2.out]
  refine (awake_ok w2).mono ?_
  rintro e w3 ⟨rfl, hm3⟩
  have Hm3 := Lib.hid (Hm2.out.trans hm3 (fun _ _ h => h))
  have Ha3 := Lib.hid (Ha2.out.keep hm3)
  have Hb3 := Lib.hid (Hb2.out.keep hm3)
  have Hlt : Hid (W.heap.size + 1 < w3.heap.size) := Hb3.out.lt
  generalize hz : W.heap.size = z at *
  have Hz := Lib.hid hz
  clear hz hm3 Ha2 Hb2 Hm2 Hw2
  obtain ⟨b0, b1, b2, b3⟩ := Ha3.out.bm
  go_wp2_with fail
  have Hma := Lib.hid (may_ok w3 a)
  by_cases hya : mayM a = true
  rotate_left
  · rw [show mayM a = false by simpa using hya] at Hma
    clear hya
    refine Hma.out.mono ?_
    rintro e w4 ⟨rfl, hm4⟩
    have Hm4 := Lib.hid (Hm3.out.trans hm4 (fun _ _ h => h))
    clear hm4
    go_wp2
    go_ret
    exact ⟨rfl, Hm4.out.below (Nat.le_refl _) (fun _ _ => id)⟩
  rw [hya] at Hma
  have Hya := Lib.hid ((mayM_iff a).1 hya)
  clear hya
  refine Hma.out.mono ?_
  rintro e w4 ⟨rfl, hm4⟩
  have Hm4 := Lib.hid (Hm3.out.trans hm4 (fun _ _ h => h))
  have Ha4 := Lib.hid (Ha3.out.keep hm4)
  have Hb4 := Lib.hid (Hb3.out.keep hm4)
  clear hm4 Hm3 Ha3 Hb3 Hma b0 b1 b2 b3
  obtain ⟨b0, b1, b2, b3⟩ := Hb4.out.bm
  go_wp2_with fail
  have Hmb := Lib.hid (may_ok w4 b)
  by_cases hyb : mayM b = true
  rotate_left
  · rw [show mayM b = false by simpa using hyb] at Hmb
    clear hyb
    refine Hmb.out.mono ?_
    rintro e w5 ⟨rfl, hm5⟩
    have Hm5 := Lib.hid (Hm4.out.trans hm5 (fun _ _ h => h))
    clear hm5
    go_wp2
    go_ret
    exact ⟨rfl, Hm5.out.below (Nat.le_refl _) (fun _ _ => id)⟩
  rw [hyb] at Hmb
  have Hyb := Lib.hid ((mayM_iff b).1 hyb)
  clear hyb
  refine Hmb.out.mono ?_
  rintro e w5 ⟨rfl, hm5⟩
  have Hm5 := Lib.hid (Hm4.out.trans hm5 (fun _ _ h => h))
  have Ha5 := Lib.hid (Ha4.out.keep hm5)
  have Hb5 := Lib.hid (Hb4.out.keep hm5)
  have Hnew := Lib.hid (lm_new w5 w5 (Mod.refl _ w5) 2 (by omega) (by omega))
  clear hm5 Hm4 Ha4 Hb4 Hmb b0 b1 b2 b3
  go_wp2_with fail
  refine Hnew.out.mono ?_
  rintro e w6 ⟨x6, rfl, hd6, hm6⟩
  replace hd6 : Dev w5 w6 x6 (Dk.fresh [fill 0, fill 0]) := hd6
  have Hw6 := Lib.hid (lm_write w5 w6 x6 _ hd6 (Nat.le_refl 2) a Hya.out)
  obtain ⟨b0, b1, b2, b3⟩ := (Ha5.out.keep hm6).bm
  clear hd6 hm6 Hnew
  go_wp2_with fail
  refine Hw6.out.mono ?_
  rintro e w7 ⟨rfl, x7, hx7, hd7, _⟩
  have Hw7 := Lib.hid (lm_write w5 w7 x7 _ hd7 (by rw [List.length_set]; exact Nat.le_refl 2) b Hyb.out)
  clear b0 b1 b2 b3 Hw6
  obtain ⟨b0, b1, b2, b3⟩ := (Hb5.out.keep hd7.old).bm
  rw [← hx7]
  clear hd7 hx7
  go_wp2_with fail
  refine Hw7.out.mono ?_
  rintro e w8 ⟨rfl, x8, hx8, hd8, _⟩
  have Hr8 := Lib.hid (lm_read w5 w8 x8 _ hd8 (by rw [List.length_set, List.length_set]; exact Nat.le_refl 2))
  rw [show rdE (([fill 0, fill 0].set (a.no % 2).toNat (secM a)).set (b.no % 2).toNat (secM b)) = 0 by
    unfold rdE
    rw [rdM_pair a b Hya.out Hyb.out _ _ (toldB_zero 0) (toldB_zero 1), if_neg]
    have h1 := Hya.out.n1
    have h2 := Hyb.out.n1
    split <;> omega] at Hr8
  have Hm8 := Lib.hid hd8.old
  have HV := Lib.hid (rdM_pair a b Hya.out Hyb.out _ _ (toldB_zero 0) (toldB_zero 1))
  generalize rdM (([fill 0, fill 0].set (a.no % 2).toNat (secM a)).set (b.no % 2).toNat (secM b)) = V at *
  rw [← hx8]
  clear hd8 hx8 b0 b1 b2 b3 Hw7
  go_wp2_with fail
  refine Hr8.out.mono ?_
  rintro e w9 ⟨rfl, hm9⟩
  have hm9' := Hm8.out.trans hm9 (fun _ _ h => h)
  obtain ⟨p0, p1, p2, p3⟩ := (Ha5.out.keep hm9').bm
  obtain ⟨q0, q1, q2, q3⟩ := (Hb5.out.keep hm9').bm
  have hlt := (Hb5.out.keep hm9').lt
  have hlt' : z < w9.heap.size := by omega
  have Hm9 := Lib.hid (Hm5.out.trans hm9' (fun _ _ h => h))
  have h0a : 0 ≤ a.no := by have := Hya.out.n1; omega
  have h0b : 0 ≤ b.no := by have := Hyb.out.n1; omega
  clear hm9 hm9' Hr8 Hm8 Hm5 Ha5 Hb5
  by_cases hp : a.no % 2 = b.no % 2
  · rw [if_neg (fun h => h.1 hp)] at HV
    obtain rfl : V = b := HV.out
    clear HV
    have hne : (a.no % 2 != V.no % 2) = false := by rw [bne_eq_false_iff_eq]; exact hp
    have hec : ∀ w, (Op.equalIn 10000 23 (.agg #[.int .i64 V.no, .int .i64 V.ep, .int .i64 V.st, .int .i64 V.ck]) (.agg #[.int .i64 V.no, .int .i64 V.ep, .int .i64 V.st, .int .i64 V.ck])).run Try.prog w = .ok true w := fun w => (eq_ms V V w).trans (by rw [eqMs_yes])
    go_wp2
    go_ret
    exact ⟨rfl, (((Hm9.out.alloc _).alloc _).below (Nat.le_refl _) (fun _ _ => id))⟩
  · have hne : (a.no % 2 != b.no % 2) = true := by rw [bne_iff_ne]; exact hp
    by_cases hg : b.no < a.no
    · rw [if_pos ⟨hp, hg⟩] at HV
      obtain rfl : V = a := HV.out
      clear HV hp
      have hec : ∀ w, (Op.equalIn 10000 23 (.agg #[.int .i64 V.no, .int .i64 V.ep, .int .i64 V.st, .int .i64 V.ck]) (.agg #[.int .i64 V.no, .int .i64 V.ep, .int .i64 V.st, .int .i64 V.ck])).run Try.prog w = .ok true w := fun w => (eq_ms V V w).trans (by rw [eqMs_yes])
      go_wp2
      go_ret
      exact ⟨rfl, (((Hm9.out.alloc _).alloc _).below (Nat.le_refl _) (fun _ _ => id))⟩
    · rw [if_neg (fun h => hg h.2)] at HV
      obtain rfl : V = b := HV.out
      clear HV hp
      have hec : ∀ w, (Op.equalIn 10000 23 (.agg #[.int .i64 V.no, .int .i64 V.ep, .int .i64 V.st, .int .i64 V.ck]) (.agg #[.int .i64 V.no, .int .i64 V.ep, .int .i64 V.st, .int .i64 V.ck])).run Try.prog w = .ok true w := fun w => (eq_ms V V w).trans (by rw [eqMs_yes])
      go_wp2
      go_ret
      exact ⟨rfl, (((Hm9.out.alloc _).alloc _).below (Nat.le_refl _) (fun _ _ => id))⟩
end Go.Proofs.Ytkigpicjhklioaa
