/-
  The reference: May.
-/
import Derived.Test.YtidcmolkolcliaaXKp
import Derived.BigQuiet
namespace Go.Proofs.Ytidcmolkolcliaa
open Go Go.RowKit

theorem may_head {t : Tp} (h : mayT t = true) : 1 ≤ t.id ∧ t.id ≤ 255 ∧ 1 ≤ t.st ∧ t.st ≤ 3 ∧ 0 ≤ t.f ∧ t.f ≤ 4294967295 ∧ 0 ≤ t.l ∧ t.l ≤ 4294967295 ∧ t.L.length ≤ 6 ∧ t.S.length ≤ 4 := by
  obtain ⟨h1, h2, h3, h4, _, _⟩ := mayT_iff.1 h
  have := inB_iff.1 h1
  have := inB_iff.1 h2
  have := inB_iff.1 h3
  have := inB_iff.1 h4
  have := may_len h
  omega
theorem okC_eq {L : List Cp} {i : Nat} (hi : i < L.length) : okC L i = (cB (atC L i) && decide ((if i = 0 then 0 else (atC L (i - 1)).lsn) < (atC L i).lsn)) := by
  unfold okC folB
  have hl : (L.take i).length = i := by simp; omega
  rw [hl]
  by_cases h0 : i = 0
  · subst h0
    cases hc : cB (atC L 0) with
    | false => rfl
    | true =>
      have h1 : 1 ≤ (atC L 0).lsn := by
        simp only [cB, Bool.and_eq_true] at hc
        exact (inB_iff.1 hc.1.1.1.1).1
      simp
      omega
  · rw [if_neg h0, atC_take (by omega), decide_eq_false h0, Bool.false_or]
set_option maxRecDepth 100000 in
set_option maxHeartbeats 3200000 in
theorem rmay_ok (w : World) (x : TxD) (h : x.At w) :
    Calls Try.prog 23 #[.agg #[.int .i64 x.id, .int .i64 x.st, .int .i64 x.f, .int .i64 x.l, .slice x.A x.n x.c, .slice x.B x.m x.d]] w fun e w' => e = .returned (.bool (mayT x.p)) ∧ Mod (fun _ => False) w w' := by
  obtain ⟨w1, hw1⟩ : ∃ w1, w.alloc (.cells #[.int .i64 x.id, .int .i64 x.st, .int .i64 x.f, .int .i64 x.l, .slice x.A x.n x.c, .slice x.B x.m x.d] 25) = w1 := ⟨_, rfl⟩
  have HB1 : Hid ((x : TxD).In w1 (w.heap.size)) := by
    rw [← hw1]
    have q := TxD.In.new (w) (x)
    exact q.keep (Mod.refl (fun _ => False) _)
  have HM1 : Hid (Mod (fun _ => False) w w1) := by rw [← hw1]; exact (Mod.refl (fun _ => False) w).alloc _
  have hz1 : w.heap.size + 1 ≤ w1.heap.size := by rw [← hw1]; simp
  clear hz1
  obtain ⟨c0, c1, c2, c3, c4, c5⟩ := HB1.out.cells
  have HX := Lib.hid (h.keep HM1.out)
  have HnL := Lib.hid h.nL
  have HnS := Lib.hid h.nS
  have Hll : Hid (x.L.length = x.n) := h.L.len
  have hcap := h.L.cap
  have hcaS := h.S.cap
  have Hhd : Hid (mayT x.p = true → 1 ≤ x.id ∧ x.id ≤ 255 ∧ 1 ≤ x.st ∧ x.st ≤ 3 ∧ 0 ≤ x.f ∧ x.f ≤ 4294967295 ∧ 0 ≤ x.l ∧ x.l ≤ 4294967295 ∧ x.n ≤ 6 ∧ x.m ≤ 4) := fun hm => by
    have := may_head hm
    rw [h.nL, h.nS] at this
    exact this
  have HC : Hid (∀ V, Mod (fun _ => False) w1 V → ∀ y ∈ x.L, Calls Try.prog 34 #[.agg #[.int .i64 y.lsn, .int .i64 y.page, .int .i64 y.key, .bool y.o.is, .slice y.o.B y.o.m y.o.d, .bool y.v.is, .slice y.v.B y.v.m y.v.d]] V fun e w' => e = .returned (.bool (cB y.p)) ∧ Mod (fun _ => False) V w') :=
    fun V hV y hy => rchange_ok V y (((h.keep HM1.out).keep hV).L.ats y hy)
  clear h
  by_cases k0 : x.id < 1
  · have Hno : Hid (mayT x.p = false) := by
      cases hc : mayT x.p with
      | false => exact rfl
      | true => exact absurd (Hhd.out hc) (by omega)
    have e0 : decide (x.id < 1) = true := decide_eq_true k0
    clear k0 HC HX Hhd
    go_enter Try.func23, Try.ntmps23
    go_wp2
    go_ret
    exact ⟨by rw [Hno.out]; rfl, HM1.out⟩
  have e0 : decide (x.id < 1) = false := decide_eq_false k0
  by_cases k1 : 255 < x.id
  · have Hno : Hid (mayT x.p = false) := by
      cases hc : mayT x.p with
      | false => exact rfl
      | true => exact absurd (Hhd.out hc) (by omega)
    have e1 : decide (255 < x.id) = true := decide_eq_true k1
    clear k1 HC HX Hhd
    go_enter Try.func23, Try.ntmps23
    go_wp2
    go_ret
    exact ⟨by rw [Hno.out]; rfl, HM1.out⟩
  have e1 : decide (255 < x.id) = false := decide_eq_false k1
  by_cases k2 : x.st < 1
  · have Hno : Hid (mayT x.p = false) := by
      cases hc : mayT x.p with
      | false => exact rfl
      | true => exact absurd (Hhd.out hc) (by omega)
    have e2 : decide (x.st < 1) = true := decide_eq_true k2
    clear k2 HC HX Hhd
    go_enter Try.func23, Try.ntmps23
    go_wp2
    go_ret
    exact ⟨by rw [Hno.out]; rfl, HM1.out⟩
  have e2 : decide (x.st < 1) = false := decide_eq_false k2
  by_cases k3 : 3 < x.st
  · have Hno : Hid (mayT x.p = false) := by
      cases hc : mayT x.p with
      | false => exact rfl
      | true => exact absurd (Hhd.out hc) (by omega)
    have e3 : decide (3 < x.st) = true := decide_eq_true k3
    clear k3 HC HX Hhd
    go_enter Try.func23, Try.ntmps23
    go_wp2
    go_ret
    exact ⟨by rw [Hno.out]; rfl, HM1.out⟩
  have e3 : decide (3 < x.st) = false := decide_eq_false k3
  by_cases k4 : x.f < 0
  · have Hno : Hid (mayT x.p = false) := by
      cases hc : mayT x.p with
      | false => exact rfl
      | true => exact absurd (Hhd.out hc) (by omega)
    have e4 : decide (x.f < 0) = true := decide_eq_true k4
    clear k4 HC HX Hhd
    go_enter Try.func23, Try.ntmps23
    go_wp2
    go_ret
    exact ⟨by rw [Hno.out]; rfl, HM1.out⟩
  have e4 : decide (x.f < 0) = false := decide_eq_false k4
  by_cases k5 : 4294967295 < x.f
  · have Hno : Hid (mayT x.p = false) := by
      cases hc : mayT x.p with
      | false => exact rfl
      | true => exact absurd (Hhd.out hc) (by omega)
    have e5 : decide (4294967295 < x.f) = true := decide_eq_true k5
    clear k5 HC HX Hhd
    go_enter Try.func23, Try.ntmps23
    go_wp2
    go_ret
    exact ⟨by rw [Hno.out]; rfl, HM1.out⟩
  have e5 : decide (4294967295 < x.f) = false := decide_eq_false k5
  by_cases k6 : x.l < 0
  · have Hno : Hid (mayT x.p = false) := by
      cases hc : mayT x.p with
      | false => exact rfl
      | true => exact absurd (Hhd.out hc) (by omega)
    have e6 : decide (x.l < 0) = true := decide_eq_true k6
    clear k6 HC HX Hhd
    go_enter Try.func23, Try.ntmps23
    go_wp2
    go_ret
    exact ⟨by rw [Hno.out]; rfl, HM1.out⟩
  have e6 : decide (x.l < 0) = false := decide_eq_false k6
  by_cases k7 : 4294967295 < x.l
  · have Hno : Hid (mayT x.p = false) := by
      cases hc : mayT x.p with
      | false => exact rfl
      | true => exact absurd (Hhd.out hc) (by omega)
    have e7 : decide (4294967295 < x.l) = true := decide_eq_true k7
    clear k7 HC HX Hhd
    go_enter Try.func23, Try.ntmps23
    go_wp2
    go_ret
    exact ⟨by rw [Hno.out]; rfl, HM1.out⟩
  have e7 : decide (4294967295 < x.l) = false := decide_eq_false k7
  by_cases k8 : (6 : Int) < (x.n : Int)
  · have Hno : Hid (mayT x.p = false) := by
      cases hc : mayT x.p with
      | false => exact rfl
      | true => exact absurd (Hhd.out hc) (by omega)
    have e8 : decide ((6 : Int) < (x.n : Int)) = true := decide_eq_true k8
    clear k8 HC HX Hhd
    go_enter Try.func23, Try.ntmps23
    go_wp2
    go_ret
    exact ⟨by rw [Hno.out]; rfl, HM1.out⟩
  have e8 : decide ((6 : Int) < (x.n : Int)) = false := decide_eq_false k8
  by_cases k9 : (4 : Int) < (x.m : Int)
  · have Hno : Hid (mayT x.p = false) := by
      cases hc : mayT x.p with
      | false => exact rfl
      | true => exact absurd (Hhd.out hc) (by omega)
    have e9 : decide ((4 : Int) < (x.m : Int)) = true := decide_eq_true k9
    clear k9 HC HX Hhd
    go_enter Try.func23, Try.ntmps23
    go_wp2
    go_ret
    exact ⟨by rw [Hno.out]; rfl, HM1.out⟩
  have e9 : decide ((4 : Int) < (x.m : Int)) = false := decide_eq_false k9
  have Hh : Hid (inB x.id 1 255 = true ∧ inB x.st 1 3 = true ∧ inB x.f 0 4294967295 = true ∧ inB x.l 0 4294967295 = true ∧ x.n ≤ 6 ∧ x.m ≤ 4) :=
    ⟨inB_iff.2 (by omega), inB_iff.2 (by omega), inB_iff.2 (by omega), inB_iff.2 (by omega), by omega, by omega⟩
  have hn6 : x.n ≤ 6 := by omega
  have hm4 : x.m ≤ 4 := by omega
  clear k0 k1 k2 k3 k4 k5 k6 k7 k8 k9 Hhd
  go_enter Try.func23, Try.ntmps23
  go_wp2_with fail
  clear e0 e1 e2 e3 e4 e5 e6 e7 e8 e9 hw1
  go_loopw [3, 4] (fun s k wr => ∃ i : Nat, k = .int .i64 i ∧ s = .int .i64 (if i = 0 then 0 else (atC (pc x.L) (i - 1)).lsn) ∧ i ≤ x.n ∧ (∀ j, j < i → okC (pc x.L) j = true) ∧ Mod (fun _ => False) w1 wr) (fun _ k _ => x.n - (intOf k).toNat)
  case atStart => exact ⟨0, rfl, rfl, by omega, fun j hj => by omega, Mod.refl _ _⟩
  case round =>
    obtain ⟨i, rfl, rfl, hi, hs, hm⟩ := hrel
    have HS := Lib.hid hs
    have HM := Lib.hid hm
    have HI := Lib.hid (HB1.out.keep hm)
    clear hs hm c0 c1 c2 c3 c4 c5
    obtain ⟨c0, c1, c2, c3, c4, c5⟩ := HI.out.cells
    by_cases hlt : i < x.n
    · obtain ⟨y, hy⟩ : ∃ y, x.L[i]? = some y := ⟨_, List.getElem?_eq_getElem (by rw [Hll.out]; exact hlt)⟩
      have hxr := HX.out.keep HM.out
      obtain ⟨b, o, hA, hcs⟩ := hxr.L.cells (by omega)
      have HCs := Lib.hid (hcs i y hy)
      obtain ⟨s0, s1, s2, s3, s4, s5, s6⟩ := hcs i y hy
      have HCy := Lib.hid (HC.out wr HM.out y (List.mem_of_getElem? hy))
      have hac : atC (pc x.L) i = y.p := atC_of (pc_at hy)
      have hok : okC (pc x.L) i = (cB y.p && decide ((if i = 0 then 0 else (atC (pc x.L) (i - 1)).lsn) < y.lsn)) := by
        rw [okC_eq (by rw [pc_len, Hll.out]; exact hlt), hac]
        rfl
      have Hac : Hid (atC (pc x.L) i = y.p) := hac
      have Hok := Lib.hid hok
      have Hno : Hid (okC (pc x.L) i = false → mayT x.p = false) := fun hf => by
        cases hc : mayT x.p with
        | false => rfl
        | true =>
          have h5 := (cL_iff.1 (mayT_iff.1 hc).2.2.2.2.1).2 i (by rw [HnL.out]; exact hlt)
          have h6 : okC x.p.L i = false := hf
          rw [h5] at h6
          cases h6
      have l1 : i < x.c := by omega
      have HA := Lib.hid hA
      rw [hA] at c4
      clear hcs hA hxr hy hok hac
      generalize (if i = 0 then (0 : Int) else (atC (pc x.L) (i - 1)).lsn) = last at *
      go_wp2_with fail
      refine HCy.out.mono ?_
      rintro e w2 ⟨rfl, hm⟩
      have HM2 := Lib.hid (HM.out.trans hm (fun _ _ h => h))
      have HI2 := Lib.hid (HI.out.keep hm)
      have Ht0 := Lib.hid ((HCs.out.keep (hm.block b HCs.out.lt (fun h => h))).c0)
      clear hm s0 s1 s2 s3 s4 s5 s6 c0 c1 c2 c3 c4 c5
      obtain ⟨c0, c1, c2, c3, c4, c5⟩ := HI2.out.cells
      rw [HA.out] at c4
      have t0 := Ht0.out
      cases hcb : cB y.p with
      | false =>
        have Hmf : Hid (mayT x.p = false) := Hno.out (by rw [Hok.out, hcb]; rfl)
        clear hcb
        go_wp2
        go_ret
        exact ⟨by rw [Hmf.out]; rfl, HM1.out.trans HM2.out (fun _ _ h => h)⟩
      | true =>
        by_cases hl : y.lsn ≤ last
        · have hld : decide (y.lsn ≤ last) = true := decide_eq_true hl
          have Hmf : Hid (mayT x.p = false) := Hno.out (by rw [Hok.out, hcb, decide_eq_false (by omega)]; rfl)
          clear hcb hl
          go_wp2
          go_ret
          exact ⟨by rw [Hmf.out]; rfl, HM1.out.trans HM2.out (fun _ _ h => h)⟩
        · have hld : decide (y.lsn ≤ last) = false := decide_eq_false hl
          have HS2 : Hid (∀ j, j < i + 1 → okC (pc x.L) j = true) := fun j hj => by
            rcases Nat.lt_or_ge j i with h | h
            · exact HS.out j h
            · obtain rfl : j = i := by omega
              rw [Hok.out, hcb, decide_eq_true (by omega)]
              rfl
          clear hcb hl
          go_wp2
          go_roundw
          case rel => exact ⟨i + 1, by go_num, by rw [if_neg (by omega), Nat.add_sub_cancel, Hac.out]; rfl, by omega, HS2.out, HM2.out⟩
          case measure => simp [intOf]; omega
    · obtain rfl : i = x.n := by omega
      have HcL : Hid (cL (pc x.L) = true) := cL_iff.2 ⟨by rw [pc_len, Hll.out]; exact hn6, fun j hj => HS.out j (by rw [pc_len, Hll.out] at hj; exact hj)⟩
      clear HS
      generalize (if x.n = 0 then (0 : Int) else (atC (pc x.L) (x.n - 1)).lsn) = last at *
      rename World => V0
      go_wp2_with fail
      go_loopw [6, 7] (fun s k W => ∃ i : Nat, k = .int .i64 i ∧ s = .int .i64 (if i = 0 then 0 else atI x.S (i - 1)) ∧ i ≤ x.m ∧ (∀ j, j < i → okS x.S x.n j = true) ∧ Mod (fun _ => False) V0 W) (fun _ k _ => x.m - (intOf k).toNat)
      case atStart => exact ⟨0, rfl, rfl, by omega, fun j hj => by omega, Mod.refl _ _⟩
      case round =>
        obtain ⟨i, rfl, rfl, hi, hs, hm⟩ := hrel
        have HS := Lib.hid hs
        have HMs := Lib.hid (HM.out.trans hm (fun _ _ h => h))
        have HM0 := Lib.hid hm
        have HI2 := Lib.hid (HI.out.keep hm)
        clear hs hm c0 c1 c2 c3 c4 c5
        obtain ⟨c0, c1, c2, c3, c4, c5⟩ := HI2.out.cells
        by_cases hlt : i < x.m
        · have hxr := HX.out.keep HMs.out
          obtain ⟨b, o, hA, hcs⟩ := hxr.S.2.2 (by omega)
          have s0 := hcs i _ (atI_at (by rw [hxr.S.len]; exact hlt))
          have Hno : Hid (okS x.S x.n i = false → mayT x.p = false) := fun hf => by
            cases hc : mayT x.p with
            | false => rfl
            | true =>
              have h5 := (sL_iff.1 (mayT_iff.1 hc).2.2.2.2.2).2 i (by rw [HnS.out]; exact hlt)
              rw [HnL.out] at h5
              have h6 : okS x.p.S x.n i = false := hf
              rw [h5] at h6
              cases h6
          have Hok : Hid (okS x.S x.n i = (decide ((if i = 0 then 0 else atI x.S (i - 1)) ≤ atI x.S i) && decide (atI x.S i ≤ (x.n : Int)))) := rfl
          have l1 : i < x.d := by omega
          rw [hA] at c5
          clear hcs hA hxr
          generalize hlow : (if i = 0 then (0 : Int) else atI x.S (i - 1)) = low at *
          clear hlow
          by_cases k1 : atI x.S i < low
          · have e1 : decide (atI x.S i < low) = true := decide_eq_true k1
            have Hmf : Hid (mayT x.p = false) := Hno.out (by rw [Hok.out, decide_eq_false (by omega)]; rfl)
            clear k1
            go_wp2_with fail
            go_quiet (fail)
            go_wp2
            go_ret
            exact ⟨by rw [Hmf.out]; rfl, (HM1.out.trans HMs.out (fun _ _ h => h)).drewN _⟩
          · have e1 : decide (atI x.S i < low) = false := decide_eq_false k1
            by_cases k2 : (x.n : Int) < atI x.S i
            · have e2 : decide ((x.n : Int) < atI x.S i) = true := decide_eq_true k2
              have Hmf : Hid (mayT x.p = false) := Hno.out (by rw [Hok.out, decide_eq_true (by omega), decide_eq_false (by omega)]; rfl)
              clear k1 k2
              go_wp2_with fail
              go_quiet (fail)
              go_wp2
              go_ret
              exact ⟨by rw [Hmf.out]; rfl, (HM1.out.trans HMs.out (fun _ _ h => h)).drewN _⟩
            · have e2 : decide ((x.n : Int) < atI x.S i) = false := decide_eq_false k2
              have HS2 : Hid (∀ j, j < i + 1 → okS x.S x.n j = true) := fun j hj => by
                rcases Nat.lt_or_ge j i with h | h
                · exact HS.out j h
                · obtain rfl : j = i := by omega
                  rw [Hok.out, decide_eq_true (by omega), decide_eq_true (by omega)]
                  rfl
              clear k1 k2
              go_wp2_with fail
              go_quiet (fail)
              go_wp2
              go_roundw
              case rel => exact ⟨i + 1, by go_num, by rw [if_neg (by omega), Nat.add_sub_cancel], by omega, HS2.out, HM0.out.drewN _⟩
              case measure => simp [intOf]; omega
        · obtain rfl : i = x.m := by omega
          generalize (if x.m = 0 then (0 : Int) else atI x.S (x.m - 1)) = low at *
          have Hyes : Hid (mayT x.p = true) := mayT_iff.2 ⟨Hh.out.1, Hh.out.2.1, Hh.out.2.2.1, Hh.out.2.2.2.1, HcL.out, by rw [HnL.out]; exact sL_iff.2 ⟨by rw [HnS.out]; exact hm4, fun j hj => HS.out j (by rw [HnS.out] at hj; exact hj)⟩⟩
          go_wp2
          go_ret
          exact ⟨by rw [Hyes.out]; rfl, HM1.out.trans HMs.out (fun _ _ h => h)⟩
end Go.Proofs.Ytidcmolkolcliaa
