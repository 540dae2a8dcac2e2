/-
  MasterEither: of one that was written, and then another one in part, behind a crash either is read.
-/
import Derived.Test.YtkigpicjhklioaaQMl
namespace Go.Proofs.Ytkigpicjhklioaa
open Go Go.RowKit

theorem zero_sec : fill 0 = secOf 0 [] := by decide +kernel
/-- A sector that was written in part, over nothing, tells the master, or nothing. -/
theorem told_part (b : Ms) (hb : b.May) (n : Nat) (hn : n ≤ 256) (i : Int) (h : toldB (partOf (fill 0) (secM b) n) i = true) : partOf (fill 0) (secM b) n = secM b := by
  have ht := told_is h
  rw [zero_sec] at ht h ⊢
  have hne : le 4 (0 : Int).toNat ≠ le 4 b.no.toNat := fun e => by
    have := le4_inj (by omega) (by omega) (by have := hb.n1; omega) hb.n2 e
    have := hb.n1
    omega
  rcases torn_or 0 b.no [] (payl b) n (by simp) (by rw [payl_len]; omega) hn hne ht.2.2.2 with e | e
  · exfalso
    have e' : partOf (secOf 0 []) (secM b) n = secOf 0 [] := e
    rw [e', ← zero_sec, toldB_zero] at h
    cases h
  · exact e
theorem part_none (xs ys : List UInt8) : partOf xs ys 0 = xs := by simp [partOf]

/-- What is read behind the crash, where the second one's sector was written in part. -/
theorem rdM_part (a b : Ms) (ha : a.May) (hb : b.May) (hab : b.no = a.no + 1) (n : Nat) (hn : n ≤ 256) :
    rdM (([fill 0, fill 0, fill 0, fill 0].set (a.no % 2).toNat (secM a)).set (b.no % 2).toNat (partOf (([fill 0, fill 0, fill 0, fill 0].set (a.no % 2).toNat (secM a)).getD (b.no % 2).toNat []) (secM b) n)) = a ∨
    (rdM (([fill 0, fill 0, fill 0, fill 0].set (a.no % 2).toNat (secM a)).set (b.no % 2).toNat (partOf (([fill 0, fill 0, fill 0, fill 0].set (a.no % 2).toNat (secM a)).getD (b.no % 2).toNat []) (secM b) n)) = b ∧ 0 < n) := by
  have hp : (a.no % 2 = 0 ∧ b.no % 2 = 1) ∨ (a.no % 2 = 1 ∧ b.no % 2 = 0) := by omega
  have hn0 : toldB (partOf (fill 0) (secM b) n) 0 = true ∨ toldB (partOf (fill 0) (secM b) n) 1 = true → 0 < n := by
    intro h
    rcases Nat.eq_zero_or_pos n with e | e
    · rw [e, part_none, toldB_zero, toldB_zero] at h; simp at h
    · exact e
  rcases hp with ⟨pa, pb⟩ | ⟨pa, pb⟩
  · rw [pa, pb]
    have ha0 : toldB (secM a) 0 = true := by rw [toldB_sec a ha, decide_eq_true pa]
    show lastOf (secM a) (partOf (fill 0) (secM b) n) 2 = a ∨ (lastOf (secM a) (partOf (fill 0) (secM b) n) 2 = b ∧ 0 < n)
    cases hB : toldB (partOf (fill 0) (secM b) n) 1 with
    | false => left; rw [lastOf_left _ _ ha0 hB, toldM_sec a ha 0 pa]
    | true =>
      right
      refine ⟨?_, hn0 (.inr hB)⟩
      rw [lastOf_both _ _ ha0 hB, toldM_sec a ha 0 pa, told_part b hb n hn 1 hB, toldM_sec b hb 1 pb, if_pos (by omega)]
  · rw [pa, pb]
    have ha1 : toldB (secM a) 1 = true := by rw [toldB_sec a ha, decide_eq_true pa]
    show lastOf (partOf (fill 0) (secM b) n) (secM a) 2 = a ∨ (lastOf (partOf (fill 0) (secM b) n) (secM a) 2 = b ∧ 0 < n)
    cases hB : toldB (partOf (fill 0) (secM b) n) 0 with
    | false => left; rw [lastOf_right _ _ hB ha1, toldM_sec a ha 1 pa]
    | true =>
      right
      refine ⟨?_, hn0 (.inl hB)⟩
      rw [lastOf_both _ _ hB ha1, toldM_sec a ha 1 pa, told_part b hb n hn 0 hB, toldM_sec b hb 0 pb, if_neg (by omega)]
theorem rdM_one (a : Ms) (ha : a.May) : rdM ([fill 0, fill 0, fill 0, fill 0].set (a.no % 2).toNat (secM a)) = a := by
  have hp : a.no % 2 = 0 ∨ a.no % 2 = 1 := by have := mod2 a.no; omega
  rcases hp with pa | pa
  · rw [pa]
    have ha0 : toldB (secM a) 0 = true := by rw [toldB_sec a ha, decide_eq_true pa]
    show lastOf (secM a) (fill 0) 2 = a
    rw [lastOf_left _ _ ha0 (toldB_zero 1), toldM_sec a ha 0 pa]
  · rw [pa]
    have ha1 : toldB (secM a) 1 = true := by rw [toldB_sec a ha, decide_eq_true pa]
    show lastOf (fill 0) (secM a) 2 = a
    rw [lastOf_right _ _ (toldB_zero 0) ha1, toldM_sec a ha 1 pa]

/-- A device that dies: at its first write. -/
theorem arm0_wr (D : List (List UInt8)) (b : Ms) (hb : b.May) (h : 2 ≤ D.length) : wrE ((Dk.fresh D).arm 0) b = 30 ∧ ∀ f, (wrD ((Dk.fresh D).arm 0) b).crash f = Dk.fresh D := by
  have e0 : (Dk.fresh D).arm 0 = ⟨D, [], true, 0, false⟩ := rfl
  rw [e0]
  have hr : (⟨D, [], true, 0, false⟩ : Dk).reach (b.no % 2) = 0 := by
    unfold Dk.reach
    rw [if_neg (by simp), if_pos ⟨(mod2 _).1, by show b.no % 2 < (D.length : Int); have := (mod2 b.no).2; omega⟩]
  have hy : mayM b = true ∧ 2 ≤ (⟨D, [], true, 0, false⟩ : Dk).dur.length := ⟨(mayM_iff b).2 hb, h⟩
  have hs : (⟨D, [], true, 0, false⟩ : Dk).stepE = 30 := rfl
  have hw : (⟨D, [], true, 0, false⟩ : Dk).writeE (b.no % 2) 256 = 30 := by unfold Dk.writeE; rw [if_pos hr, if_pos rfl, hs]
  have hwd : (⟨D, [], true, 0, false⟩ : Dk).write (b.no % 2) (secM b) = ⟨D, [], true, 0, true⟩ := by
    unfold Dk.write
    rw [if_pos ⟨hr, secM_len b⟩, if_neg (by rw [hs]; decide)]
    rfl
  unfold wrE wrD
  rw [if_pos hy, if_pos hy, hw, if_neg (by decide), if_neg (by decide), hwd]
  exact ⟨rfl, fun f => rfl⟩
/-- A device that dies: at the sync behind its first write. -/
theorem arm1_wr (D : List (List UInt8)) (b : Ms) (hb : b.May) (h : 2 ≤ D.length) : wrE ((Dk.fresh D).arm 1) b = 30 ∧ ∀ f, (wrD ((Dk.fresh D).arm 1) b).crash f = Dk.fresh (D.set (b.no % 2).toNat (partOf (D.getD (b.no % 2).toNat []) (secM b) (f 0))) := by
  have e0 : (Dk.fresh D).arm 1 = ⟨D, [], true, 1, false⟩ := rfl
  rw [e0]
  have hr : (⟨D, [], true, 1, false⟩ : Dk).reach (b.no % 2) = 0 := by
    unfold Dk.reach
    rw [if_neg (by simp), if_pos ⟨(mod2 _).1, by show b.no % 2 < (D.length : Int); have := (mod2 b.no).2; omega⟩]
  have hy : mayM b = true ∧ 2 ≤ (⟨D, [], true, 1, false⟩ : Dk).dur.length := ⟨(mayM_iff b).2 hb, h⟩
  have hs : (⟨D, [], true, 1, false⟩ : Dk).stepE = 0 := rfl
  have hw : (⟨D, [], true, 1, false⟩ : Dk).writeE (b.no % 2) 256 = 0 := by unfold Dk.writeE; rw [if_pos hr, if_pos rfl, hs]
  have hwd : (⟨D, [], true, 1, false⟩ : Dk).write (b.no % 2) (secM b) = ⟨D, [((b.no % 2).toNat, secM b)], true, 0, false⟩ := by
    unfold Dk.write
    rw [if_pos ⟨hr, secM_len b⟩, if_pos hs]
    rfl
  unfold wrE wrD
  rw [if_pos hy, if_pos hy, hw, if_pos rfl, if_pos rfl, hwd]
  exact ⟨rfl, fun f => rfl⟩

set_option maxRecDepth 100000 in
set_option maxHeartbeats 1600000 in
theorem either_walk (a b : Ms) (k die : Int) (W : World) :
    Calls Try.prog 5 #[.agg #[.int .i64 a.no, .int .i64 a.ep, .int .i64 a.st, .int .i64 a.ck], .agg #[.int .i64 b.no, .int .i64 b.ep, .int .i64 b.st, .int .i64 b.ck], .int .i64 k, .int .i64 die] W fun e w' => e = .returned (.bool true) ∧ Below W.heap.size W w' := by
  obtain ⟨w2, hw2⟩ : ∃ w2, w2 = (W.alloc (.cells #[.int .i64 a.no, .int .i64 a.ep, .int .i64 a.st, .int .i64 a.ck] 23)).alloc (.cells #[.int .i64 b.no, .int .i64 b.ep, .int .i64 b.st, .int .i64 b.ck] 23) := ⟨_, rfl⟩
  have hm2 : Mod (fun _ => False) W w2 := by rw [hw2]; exact ((Mod.refl _ W).alloc _).alloc _
  have ha2 : InB w2 W.heap.size a := by rw [hw2]; exact (InB.new W a).keep ((Mod.refl _ _).alloc _)
  have hb2 : InB w2 (W.heap.size + 1) b := by
    rw [hw2]
    have := InB.new (W.alloc (.cells #[.int .i64 a.no, .int .i64 a.ep, .int .i64 a.st, .int .i64 a.ck] 23)) b
    simpa using this
  have Hm2 := Lib.hid hm2
  have Ha2 := Lib.hid ha2
  have Hb2 := Lib.hid hb2
  have Hw2 := Lib.hid hw2
  clear hm2 ha2 hb2 hw2
  go_enter Try.func5, Try.ntmps5
  go_wp2_with fail
  rw [← Hw2.out]
  refine (awake_ok w2).mono ?_
  rintro e w3 ⟨rfl, hm3⟩
  have Hm3 := Lib.hid (Hm2.out.trans hm3 (fun _ _ h => h))
  have Ha3 := Lib.hid (Ha2.out.keep hm3)
  have Hb3 := Lib.hid (Hb2.out.keep hm3)
  have Hlt : Hid (W.heap.size + 1 < w3.heap.size) := Hb3.out.lt
  generalize hz : W.heap.size = z at *
  have Hz := Lib.hid hz
  clear hz hm3 Ha2 Hb2 Hm2 Hw2
  obtain ⟨b0, b1, b2, b3⟩ := Ha3.out.bm
  go_wp2_with fail
  have Hma := Lib.hid (may_ok w3 a)
  by_cases hya : mayM a = true
  rotate_left
  · rw [show mayM a = false by simpa using hya] at Hma
    clear hya
    refine Hma.out.mono ?_
    rintro e w4 ⟨rfl, hm4⟩
    have Hm4 := Lib.hid (Hm3.out.trans hm4 (fun _ _ h => h))
    clear hm4
    go_wp2
    go_ret
    exact ⟨rfl, Hm4.out.below (Nat.le_refl _) (fun _ _ => id)⟩
  rw [hya] at Hma
  have Hya := Lib.hid ((mayM_iff a).1 hya)
  clear hya
  refine Hma.out.mono ?_
  rintro e w4 ⟨rfl, hm4⟩
  have Hm4 := Lib.hid (Hm3.out.trans hm4 (fun _ _ h => h))
  have Ha4 := Lib.hid (Ha3.out.keep hm4)
  have Hb4 := Lib.hid (Hb3.out.keep hm4)
  clear hm4 Hm3 Ha3 Hb3 Hma b0 b1 b2 b3
  obtain ⟨b0, b1, b2, b3⟩ := Hb4.out.bm
  go_wp2_with fail
  have Hmb := Lib.hid (may_ok w4 b)
  by_cases hyb : mayM b = true
  rotate_left
  · rw [show mayM b = false by simpa using hyb] at Hmb
    clear hyb
    refine Hmb.out.mono ?_
    rintro e w5 ⟨rfl, hm5⟩
    have Hm5 := Lib.hid (Hm4.out.trans hm5 (fun _ _ h => h))
    clear hm5
    go_wp2
    go_ret
    exact ⟨rfl, Hm5.out.below (Nat.le_refl _) (fun _ _ => id)⟩
  rw [hyb] at Hmb
  have Hyb := Lib.hid ((mayM_iff b).1 hyb)
  clear hyb
  refine Hmb.out.mono ?_
  rintro e w5 ⟨rfl, hm5⟩
  have Hm5 := Lib.hid (Hm4.out.trans hm5 (fun _ _ h => h))
  have Ha5 := Lib.hid (Ha4.out.keep hm5)
  have Hb5 := Lib.hid (Hb4.out.keep hm5)
  have n1 := Hya.out.n1
  have n2 := Hya.out.n2
  by_cases hab : b.no = a.no + 1
  rotate_left
  · have hne : (b.no != a.no + 1) = true := by rw [bne_iff_ne]; exact hab
    obtain ⟨b0, b1, b2, b3⟩ := Hb5.out.bm
    obtain ⟨a0, a1, a2, a3⟩ := Ha5.out.bm
    clear hab hm5
    go_wp2
    go_ret
    exact ⟨rfl, Hm5.out.below (Nat.le_refl _) (fun _ _ => id)⟩
  have hne : (b.no != a.no + 1) = false := by rw [bne_eq_false_iff_eq]; exact hab
  have Hab := Lib.hid hab
  clear hab hm5
  obtain ⟨b0, b1, b2, b3⟩ := Hb5.out.bm
  obtain ⟨a0, a1, a2, a3⟩ := Ha5.out.bm
  by_cases hd0 : 0 ≤ die
  rotate_left
  · have hd : decide (die < 0) = true := by rw [decide_eq_true_eq]; omega
    clear hd0
    go_wp2
    go_ret
    exact ⟨rfl, Hm5.out.below (Nat.le_refl _) (fun _ _ => id)⟩
  by_cases hd1 : die ≤ 1
  rotate_left
  · go_wp2
    go_ret
    exact ⟨rfl, Hm5.out.below (Nat.le_refl _) (fun _ _ => id)⟩
  have Hnew := Lib.hid (lm_new w5 w5 (Mod.refl _ w5) 4 (by omega) (by omega))
  go_wp2_with fail
  refine Hnew.out.mono ?_
  rintro e w6 ⟨x6, rfl, hd6, _⟩
  replace hd6 : Dev w5 w6 x6 (Dk.fresh [fill 0, fill 0, fill 0, fill 0]) := hd6
  have Hw6 := Lib.hid (lm_write w5 w6 x6 _ hd6 (by show 2 ≤ 4; omega) a Hya.out)
  clear b0 b1 b2 b3 a0 a1 a2 a3 Hnew
  obtain ⟨a0, a1, a2, a3⟩ := (Ha5.out.keep hd6.old).bm
  clear hd6
  go_wp2_with fail
  refine Hw6.out.mono ?_
  rintro e w7 ⟨rfl, x7, hx7, hd7, _⟩
  have HDl : Hid (2 ≤ ([fill 0, fill 0, fill 0, fill 0].set (a.no % 2).toNat (secM a)).length) := by show 2 ≤ _; rw [List.length_set]; show 2 ≤ 4; omega
  have Har := Lib.hid (dev_arm w5 w7 x7 _ hd7 die (by omega))
  rw [← hx7]
  clear a0 a1 a2 a3 Hw6 hd7 hx7
  go_wp2_with fail
  refine Har.out.mono ?_
  rintro e w8 ⟨⟨v8, rfl⟩, x8, hx8, hd8, _⟩
  have Hw8 := Lib.hid (mwrite_ok w5 w8 x8 _ hd8 (Nat.zero_le _) b)
  obtain ⟨b0, b1, b2, b3⟩ := (Hb5.out.keep hd8.old).bm
  rw [← hx8]
  clear hd8 hx8 Har
  have HV : Hid (wrE ((Dk.fresh ([fill 0, fill 0, fill 0, fill 0].set (a.no % 2).toNat (secM a))).arm die) b = 30 ∧ ∃ D2, (wrD ((Dk.fresh ([fill 0, fill 0, fill 0, fill 0].set (a.no % 2).toNat (secM a))).arm die) b).crash (keptN [] 0 k) = Dk.fresh D2 ∧ 2 ≤ D2.length ∧ (wrD ((Dk.fresh ([fill 0, fill 0, fill 0, fill 0].set (a.no % 2).toNat (secM a))).arm die) b).pend.length ≤ 1000 ∧ (rdM D2 = a ∨ (rdM D2 = b ∧ die = 1 ∧ 0 < k))) := by
    show _ ∧ _
    have hpl : ∀ d : Dk, d.pend = [] → (wrD d b).pend.length ≤ 1000 := by
      intro d hd
      have h1 := d.write_len (b.no % 2) (secM b)
      rw [hd] at h1
      have h2 : (d.write (b.no % 2) (secM b)).pend.length ≤ 1 := h1
      unfold wrD
      split
      · split
        · unfold Dk.sync
          split
          · omega
          · split
            · simp
            · unfold Dk.stepD
              split
              · split <;> (show (d.write (b.no % 2) (secM b)).pend.length ≤ 1000; omega)
              · omega
        · omega
      · rw [hd]; simp
    have hcase : die = 0 ∨ die = 1 := by omega
    rcases hcase with rfl | rfl
    · have h0 := arm0_wr _ b Hyb.out HDl.out
      exact ⟨h0.1, _, h0.2 _, HDl.out, hpl _ rfl, .inl (rdM_one a Hya.out)⟩
    · have h1 := arm1_wr _ b Hyb.out HDl.out
      refine ⟨h1.1, _, h1.2 _, by rw [List.length_set]; exact HDl.out, hpl _ rfl, ?_⟩
      rcases rdM_part a b Hya.out Hyb.out Hab.out (keptN [] 0 k 0) (keptN_le _ _ _ _) with h | ⟨h, hk⟩
      · exact .inl h
      · refine .inr ⟨h, rfl, ?_⟩
        have he : keptN [] 0 k 0 = (min (max k 0) 256).toNat := by unfold keptN; rw [if_pos (show ((0 : Nat) : Int) = 0 from rfl)]
        rw [he] at hk
        omega
  obtain ⟨hE, D2, hD2, hL2, hP2, hV2⟩ := HV.out
  rw [hE] at Hw8
  generalize wrD ((Dk.fresh ([fill 0, fill 0, fill 0, fill 0].set (a.no % 2).toNat (secM a))).arm die) b = d8 at *
  clear HV hE
  have HD2 := Lib.hid hD2
  have HL2 := Lib.hid hL2
  have HP2 := Lib.hid hP2
  have HV2 := Lib.hid hV2
  clear hD2 hL2 hP2 hV2
  go_wp2_with fail
  refine Hw8.out.mono ?_
  rintro e w9 ⟨rfl, x9, hx9, hd9, _⟩
  have hcr := dev_crash w5 w9 x9 _ hd9 HP2.out none 0 0 [] 0 k (Bl.nil w9) (by omega)
  rw [HD2.out] at hcr
  have Hcr := Lib.hid hcr
  rw [← hx9]
  clear b0 b1 b2 b3 hcr hd9 hx9 Hw8
  go_wp2_with fail
  refine Hcr.out.mono ?_
  rintro e wA ⟨xA, rfl, hdA, _⟩
  have HrA := Lib.hid (lm_read w5 wA xA _ hdA HL2.out)
  have HmA := Lib.hid hdA.old
  clear hdA Hcr
  have HE : Hid (rdE D2 = 0) := by
    show rdE D2 = 0
    unfold rdE
    rw [if_neg]
    have h1 := Hya.out.n1
    have h2 := Hyb.out.n1
    rcases HV2.out with h | ⟨h, _⟩ <;> rw [h] <;> omega
  rw [HE.out] at HrA
  generalize rdM D2 = V at *
  clear HE
  go_wp2_with fail
  refine HrA.out.mono ?_
  rintro e wB ⟨rfl, hmB⟩
  have hmB' := HmA.out.trans hmB (fun _ _ h => h)
  obtain ⟨a0, a1, a2, a3⟩ := (Ha5.out.keep hmB').bm
  obtain ⟨b0, b1, b2, b3⟩ := (Hb5.out.keep hmB').bm
  have hlt := (Hb5.out.keep hmB').lt
  have hlt' : z < wB.heap.size := by omega
  have HmB := Lib.hid (Hm5.out.trans hmB' (fun _ _ h => h))
  have HV := Lib.hid HV2.out
  clear hmB hmB' HrA HmA Ha5 Hb5
  rcases HV2.out with hV | ⟨hV, hdie, hk⟩
  · obtain rfl : V = a := hV
    have hec : ∀ w, (Op.equalIn 10000 23 (.agg #[.int .i64 V.no, .int .i64 V.ep, .int .i64 V.st, .int .i64 V.ck]) (.agg #[.int .i64 V.no, .int .i64 V.ep, .int .i64 V.st, .int .i64 V.ck])).run Try.prog w = .ok true w := fun w => (eq_ms V V w).trans (by rw [eqMs_yes])
    go_wp2
    go_ret
    exact ⟨rfl, (HmB.out.alloc _).below (Nat.le_refl _) (fun _ _ => id)⟩
  · obtain rfl : V = b := hV
    obtain rfl : die = 1 := hdie
    have hec : ∀ w, (Op.equalIn 10000 23 (.agg #[.int .i64 V.no, .int .i64 V.ep, .int .i64 V.st, .int .i64 V.ck]) (.agg #[.int .i64 V.no, .int .i64 V.ep, .int .i64 V.st, .int .i64 V.ck])).run Try.prog w = .ok true w := fun w => (eq_ms V V w).trans (by rw [eqMs_yes])
    have hnV : V ≠ a := fun e => by have h1 := Hab.out; rw [e] at h1; omega
    have hnc : ∀ w, (Op.equalIn 10000 23 (.agg #[.int .i64 V.no, .int .i64 V.ep, .int .i64 V.st, .int .i64 V.ck]) (.agg #[.int .i64 a.no, .int .i64 a.ep, .int .i64 a.st, .int .i64 a.ck])).run Try.prog w = .ok false w := fun w => (eq_ms V a w).trans (by rw [eqMs_no hnV])
    have hkd : decide (0 < k) = true := decide_eq_true hk
    clear hnV hk
    go_wp2
    go_ret
    exact ⟨rfl, (HmB.out.alloc _).below (Nat.le_refl _) (fun _ _ => id)⟩
end Go.Proofs.Ytkigpicjhklioaa
