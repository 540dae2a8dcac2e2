/-
  PageOdd: of any bytes whatsoever a page is told, or nothing.
-/
import Derived.Test.YtgeodpflaebbgaaLastW
namespace Go.Proofs.Ytgeodpflaebbgaa
open Go Go.RowKit

theorem stamp_self {x : Pg} (h : Good x) : stampP x x.lsn = (0, x) := by
  unfold stampP
  have := h.lsn0
  have := h.lsn1
  rw [if_neg (by omega)]

set_option maxRecDepth 100000 in
set_option maxHeartbeats 8000000 in
theorem odd_walk (A : Option Addr) (n c : Nat) (xs : List UInt8) (w : World) (hA : Sl w A n c xs) (k : Int) (x : VlD) (hx : x.At w) :
    Calls Try.prog 4 #[.slice A n c, .int .i64 k, x.v] w fun e w' => e = .returned (.bool true) ∧ Below w.heap.size w w' := by
  obtain ⟨is, B, m, d, vs⟩ := x
  show Calls Try.prog 4 #[.slice A n c, .int .i64 k, .agg #[.bool is, .slice B m d]] w _
  have hsl : Sl w B m d vs := hx
  have ha : Mod (fun _ => False) w (w.alloc (.cells #[.bool is, .slice B m d] 34)) := (Mod.refl _ w).alloc _
  obtain ⟨w0, hw0⟩ : ∃ w0, w0 = w.alloc (.cells #[.bool is, .slice B m d] 34) := ⟨_, rfl⟩
  rw [← hw0] at ha
  have hbx : w0.heap[w.heap.size]? = some (.cells #[.bool is, .slice B m d] 34 (0, 0)) := by rw [hw0]; exact heap_alloc_new w _
  have Hboxes : Hid (∀ W, Mod (fun _ => False) w0 W → W.cell? ⟨w.heap.size, 0, none⟩ = some (.bool is) ∧ W.cell? ⟨w.heap.size, 1, none⟩ = some (.slice B m d)) := fun W hm => by
    have hb := (hm.block _ (Array.getElem?_eq_some_iff.1 hbx).1 id).trans hbx
    exact ⟨by rw [cell_of_row _ _ _ _ _ _ hb]; rfl, by rw [cell_of_row _ _ _ _ _ _ hb]; rfl⟩
  have HA : Hid (∀ W, Mod (fun _ => False) w0 W → Sl W A n c xs) := fun W hm => (hA.mod ha (fun _ _ _ => id)).mod hm (fun _ _ _ => id)
  have HB : Hid (∀ W, Mod (fun _ => False) w0 W → Sl W B m d vs) := fun W hm => (hsl.mod ha (fun _ _ _ => id)).mod hm (fun _ _ _ => id)
  have hvl := hsl.len
  have hxl := hA.len
  have Ha := Lib.hid ha
  clear hA hx hsl ha hbx
  go_enter Try.func4, Try.ntmps4
  go_wp2_with fail
  rw [← hw0]
  clear hw0
  refine (awake_ok _).mono ?_
  rintro e w2 ⟨rfl, hm1⟩
  have Hm1 := Lib.hid hm1
  obtain ⟨b0, b1⟩ := Hboxes.out w2 hm1
  clear hm1
  have Hend := Lib.hid ((Ha.out.trans Hm1.out (fun _ _ h => h)).below (Nat.le_refl _) (fun _ _ => id))
  by_cases hn : 500 < n
  · go_wp2
    go_ret
    exact ⟨rfl, Hend.out⟩
  by_cases hm100 : 100 < m
  · go_wp2
    go_ret
    exact ⟨rfl, Hend.out⟩
  clear Hend
  have Hall := Lib.hid (pall_ok w2 A n c xs (HA.out w2 Hm1.out))
  cases hdec : dec xs with
  | none =>
    have hcx : cont xs = nonePg := by unfold cont; rw [hdec]; rfl
    rw [hcx] at Hall
    have Hcx := Lib.hid hcx
    have Hdec := Lib.hid hdec
    clear hcx hdec
    have Hlsn : Hid (∀ W, Mod (fun _ => False) w0 W → Calls Try.prog 19 #[.slice A n c] W fun e w' => e = .returned (.int .i64 0) ∧ Mod (fun _ => False) W w') := fun W hm => by
      have := lsn_ok W A n c xs (HA.out W hm); rw [Hcx.out] at this; exact this
    have Hid1 : Hid (∀ W, Mod (fun _ => False) w0 W → Calls Try.prog 23 #[.slice A n c] W fun e w' => e = .returned (.int .i64 0) ∧ Mod (fun _ => False) W w') := fun W hm => by
      have := id_ok W A n c xs (HA.out W hm); rw [Hcx.out] at this; exact this
    have Hus : Hid (∀ W, Mod (fun _ => False) w0 W → Calls Try.prog 24 #[.slice A n c] W fun e w' => e = .returned (.int .i64 0) ∧ Mod (fun _ => False) W w') := fun W hm => by
      have := pused_ok W A n c xs (HA.out W hm); rw [Hcx.out] at this; exact this
    have Hst : Hid (∀ W, Mod (fun _ => False) w0 W → Calls Try.prog 18 #[.slice A n c, .int .i64 0] W fun e w' => e = .returned (.tuple #[.slice none 0 0, .int .i64 1]) ∧ Mod (fun _ => False) W w') := fun W hm => by
      have := stamped_ok W A n c xs (HA.out W hm) 0
      rw [Hdec.out, if_neg (by simp)] at this
      exact this.mono (fun e w' h => by
        rcases h with ⟨h1, _⟩ | ⟨_, h2, h3⟩
        · cases h1
        · exact ⟨h2, h3⟩)
    have Hpu : Hid (∀ W, Mod (fun _ => False) w0 W → Calls Try.prog 20 #[.slice A n c, .int .i64 k, .agg #[.bool is, .slice B m d]] W fun e w' => e = .returned (.tuple #[.slice none 0 0, .int .i64 1]) ∧ Mod (fun _ => False) W w') := fun W hm => by
      have := put_page W A n c xs (HA.out W hm) k is B m d vs (HB.out W hm)
      rw [Hdec.out, if_neg (by simp)] at this
      exact this.mono (fun e w' h => by
        rcases h with ⟨h1, _⟩ | ⟨_, h2, h3⟩
        · cases h1
        · exact ⟨h2, h3⟩)
    have Hma : Hid (∀ W, Mod (fun _ => False) w0 W → Calls Try.prog 21 #[.slice A n c] W fun e w' => e = .returned (.bool false) ∧ Mod (fun _ => False) W w') := fun W hm => by
      have := may_ok W A n c xs (HA.out W hm); rw [Hdec.out] at this; exact this
    have Hge : Hid (∀ W, Mod (fun _ => False) w0 W → Calls Try.prog 22 #[.slice A n c, .int .i64 k] W fun e w' => ∃ B9 d9, e = .returned (.agg #[.bool false, .slice B9 0 d9]) ∧ Mod (fun _ => False) W w') := fun W hm => by
      have := pget_ok W A n c xs (HA.out W hm) k
      rw [Hcx.out] at this
      refine this.mono ?_
      rintro e w' ⟨B9, m9, d9, rfl, hs, _, hm'⟩
      have h0 : m9 = 0 := by rw [← hs.len]; rfl
      subst h0
      exact ⟨B9, d9, rfl, hm'⟩
    go_wp2_with fail
    refine Hall.out.mono ?_
    rintro e w3 ⟨A3, c3, L3, rfl, hk3⟩
    have Hm3 := Lib.hid (Hm1.out.trans hk3.old (fun _ _ h => h))
    clear hk3 b0 b1 Hall
    rw [show nonePg.l.length = 0 from rfl]
    go_wp2_with fail
    refine (Hlsn.out _ Hm3.out).mono ?_
    rintro e w4 ⟨rfl, hm⟩
    have Hm4 := Lib.hid (Hm3.out.trans hm (fun _ _ h => h))
    clear hm
    go_wp2_with fail
    refine (Hst.out _ Hm4.out).mono ?_
    rintro e w5 ⟨rfl, hm⟩
    have Hm5 := Lib.hid (Hm4.out.trans hm (fun _ _ h => h))
    obtain ⟨b0, b1⟩ := Hboxes.out w5 Hm5.out
    clear hm
    go_wp2_with fail
    refine (Hpu.out _ Hm5.out).mono ?_
    rintro e w6 ⟨rfl, hm⟩
    have Hm6 := Lib.hid (Hm5.out.trans hm (fun _ _ h => h))
    clear hm b0 b1
    go_wp2_with fail
    refine (Hma.out _ Hm6.out).mono ?_
    rintro e w7 ⟨rfl, hm⟩
    have Hm7 := Lib.hid (Hm6.out.trans hm (fun _ _ h => h))
    clear hm
    go_wp2_with fail
    refine (Hge.out _ Hm7.out).mono ?_
    rintro e w8 ⟨B9, d9, rfl, hm⟩
    have Hm8 := Lib.hid (Hm7.out.trans hm (fun _ _ h => h))
    have hm9 : Mod (fun _ => False) w0 (w8.alloc (.cells #[.bool false, .slice B9 0 d9] 34)) := Hm8.out.alloc _
    have hb9 : (w8.alloc (.cells #[.bool false, .slice B9 0 d9] 34)).heap[w8.heap.size]? = some (.cells #[.bool false, .slice B9 0 d9] 34 (0, 0)) := heap_alloc_new w8 _
    have Hb9 := Lib.hid hb9
    have Hm9 := Lib.hid hm9
    clear hm hb9 hm9
    have Hi9 := Lib.hid (Hid1.out _ Hm9.out)
    go_wp2_with fail
    obtain ⟨w9, hw9⟩ : ∃ w9, w9 = w8.alloc (.cells #[.bool false, .slice B9 0 d9] 34) := ⟨_, rfl⟩
    rw [← hw9] at Hb9 Hm9 Hi9 ⊢
    clear hw9
    refine Hi9.out.mono ?_
    rintro e w10 ⟨rfl, hm⟩
    have Hm10 := Lib.hid (Hm9.out.trans hm (fun _ _ h => h))
    have Hb10 := Lib.hid ((hm.block _ (Array.getElem?_eq_some_iff.1 Hb9.out).1 id).trans Hb9.out)
    clear hm
    go_wp2_with fail
    refine (Hlsn.out _ Hm10.out).mono ?_
    rintro e w11 ⟨rfl, hm⟩
    have Hm11 := Lib.hid (Hm10.out.trans hm (fun _ _ h => h))
    have Hb11 := Lib.hid ((hm.block _ (Array.getElem?_eq_some_iff.1 Hb10.out).1 id).trans Hb10.out)
    clear hm
    go_wp2_with fail
    refine (Hus.out _ Hm11.out).mono ?_
    rintro e w12 ⟨rfl, hm⟩
    have Hm12 := Lib.hid (Ha.out.trans (Hm11.out.trans hm (fun _ _ h => h)) (fun _ _ h => h))
    have hb12 := (hm.block _ (Array.getElem?_eq_some_iff.1 Hb11.out).1 id).trans Hb11.out
    have x0 : w12.cell? ⟨w8.heap.size, 0, none⟩ = some (.bool false) := by rw [cell_of_row _ _ _ _ _ _ hb12]; rfl
    have x1 : w12.cell? ⟨w8.heap.size, 1, none⟩ = some (.slice B9 0 d9) := by rw [cell_of_row _ _ _ _ _ _ hb12]; rfl
    clear hm hb12
    go_wp2
    go_ret
    exact ⟨rfl, Hm12.out.below (Nat.le_refl _) (fun _ _ => id)⟩
  | some g =>
    obtain ⟨hg, hx248⟩ := dec_good hdec
    have hcx : cont xs = g := by unfold cont; rw [hdec]; rfl
    rw [hcx] at Hall
    obtain rfl : n = 248 := by omega
    have Hcx := Lib.hid hcx
    have Hdec := Lib.hid hdec
    have Hg := Lib.hid hg
    clear hcx hdec hx248
    have Hlsn : Hid (∀ W, Mod (fun _ => False) w0 W → Calls Try.prog 19 #[.slice A 248 c] W fun e w' => e = .returned (.int .i64 g.lsn) ∧ Mod (fun _ => False) W w') := fun W hm => by
      have := lsn_ok W A 248 c xs (HA.out W hm); rw [Hcx.out] at this; exact this
    have Hid1 : Hid (∀ W, Mod (fun _ => False) w0 W → Calls Try.prog 23 #[.slice A 248 c] W fun e w' => e = .returned (.int .i64 g.id) ∧ Mod (fun _ => False) W w') := fun W hm => by
      have := id_ok W A 248 c xs (HA.out W hm); rw [Hcx.out] at this; exact this
    have Hus : Hid (∀ W, Mod (fun _ => False) w0 W → Calls Try.prog 24 #[.slice A 248 c] W fun e w' => e = .returned (.int .i64 (usedL g.l)) ∧ Mod (fun _ => False) W w') := fun W hm => by
      have := pused_ok W A 248 c xs (HA.out W hm); rw [Hcx.out] at this; exact this
    have Hst : Hid (∀ W, Mod (fun _ => False) w0 W → Calls Try.prog 18 #[.slice A 248 c, .int .i64 g.lsn] W fun e w' => ∃ q, e = .returned (.tuple #[.slice (some ⟨q, 0, none⟩) 248 248, .int .i64 0]) ∧ Lv w0 w' q g ∧ Mod (fun _ => False) W w') := fun W hm => by
      have := stamped_ok W A 248 c xs (HA.out W hm) g.lsn
      rw [Hdec.out, Hcx.out, if_pos (by simp), stamp_self Hg.out] at this
      exact this.mono (fun e w' h => by
        rcases h with ⟨_, q, h2, h3⟩ | ⟨h1, _⟩
        · exact ⟨q, h2, ⟨Hg.out, h3.from hm⟩, h3.old⟩
        · exact absurd rfl h1)
    have Hpu : Hid (∀ W, Mod (fun _ => False) w0 W → Calls Try.prog 20 #[.slice A 248 c, .int .i64 k, .agg #[.bool is, .slice B m d]] W fun e w' => (∃ PA pn pc er, e = .returned (.tuple #[.slice PA pn pc, .int .i64 er])) ∧ Mod (fun _ => False) W w') := fun W hm => by
      have := put_page W A 248 c xs (HA.out W hm) k is B m d vs (HB.out W hm)
      exact this.mono (fun e w' h => by
        rcases h with ⟨_, q, h2, h3⟩ | ⟨_, h2, h3⟩
        · exact ⟨⟨_, _, _, _, h2⟩, h3.old⟩
        · exact ⟨⟨_, _, _, _, h2⟩, h3⟩)
    have Hma : Hid (∀ W, Mod (fun _ => False) w0 W → Calls Try.prog 21 #[.slice A 248 c] W fun e w' => e = .returned (.bool true) ∧ Mod (fun _ => False) W w') := fun W hm => by
      have := may_ok W A 248 c xs (HA.out W hm); rw [Hdec.out] at this; exact this
    have hcnt := hg.count
    clear hg
    go_wp2_with fail
    refine Hall.out.mono ?_
    rintro e w3 ⟨A3, c3, L3, rfl, hk3⟩
    have Hm3 := Lib.hid (Hm1.out.trans hk3.old (fun _ _ h => h))
    have HK : Hid (∀ W, Mod (fun _ => False) w3 W → Kv W A3 g.l.length c3 g.l) := fun W hm => hk3.kv.keep hm
    clear hk3 b0 b1 Hall
    go_wp2_with fail
    refine (Hlsn.out _ Hm3.out).mono ?_
    rintro e w4 ⟨rfl, hm⟩
    have Hm34 := Lib.hid hm
    have Hm4 := Lib.hid (Hm3.out.trans hm (fun _ _ h => h))
    clear hm
    go_wp2_with fail
    refine (Hst.out _ Hm4.out).mono ?_
    rintro e w5 ⟨q, rfl, hq5, hm⟩
    have Hm35 := Lib.hid (Hm34.out.trans hm (fun _ _ h => h))
    have Hq5 := Lib.hid hq5
    obtain ⟨b0, b1⟩ := Hboxes.out w5 hq5.old
    clear hm hq5
    go_wp2_with fail
    refine (Hpu.out _ Hq5.out.old).mono ?_
    rintro e w6 ⟨⟨PA, pn, pc, er, rfl⟩, hm⟩
    have Hm36 := Lib.hid (Hm35.out.trans hm (fun _ _ h => h))
    have Hq6 := Lib.hid (Hq5.out.keep hm)
    clear hm b0 b1
    go_wp2_with fail
    refine (Hma.out _ Hq6.out.old).mono ?_
    rintro e w7 ⟨rfl, hm⟩
    have Hm37 := Lib.hid (Hm36.out.trans hm (fun _ _ h => h))
    have Hq7 := Lib.hid (Hq6.out.keep hm)
    clear hm
    go_wp2
    go_loopw [14] (fun i wr => ∃ (j : Nat), j ≤ g.l.length ∧ i = .int .i64 j ∧ Mod (fun _ => False) w7 wr) (fun i _ => g.l.length - (intOf i).toNat)
    case atStart => exact ⟨0, by omega, rfl, Mod.refl _ _⟩
    case round =>
      obtain ⟨j, hj, rfl, hm⟩ := hrel
      have Hm := Lib.hid hm
      have hkv := HK.out wr (Hm37.out.trans hm (fun _ _ h => h))
      clear hm
      by_cases hlt : j < g.l.length
      · obtain ⟨r, hr⟩ : ∃ r, g.l[j]? = some r := ⟨_, List.getElem?_eq_getElem hlt⟩
        obtain ⟨b, o, rfl, A1, m1, d1, a0, a1, hs1⟩ := hkv.at_ hr
        have hmem := List.mem_of_getElem? hr
        obtain ⟨k0, k1⟩ := Hg.out.key r hmem
        have e1 : decide (r.1 < 0) = false := by rw [decide_eq_false_iff_not]; omega
        have e2 : decide (65535 < r.1) = false := by rw [decide_eq_false_iff_not]; omega
        have hm1 : m1 ≤ 32 := by rw [← hs1.len]; exact Hg.out.val r hmem
        have e3 : decide ((32 : Int) < (m1 : Int)) = false := by rw [decide_eq_false_iff_not]; omega
        clear hs1 k0 k1 hm1
        by_cases hj0 : j = 0
        · subst hj0
          clear hkv hr
          have a0' : wr.cell? ⟨b, o, none⟩ = some (.int .i64 r.1) := by simpa using a0
          have a1' : wr.cell? ⟨b, o + 1, none⟩ = some (.slice A1 m1 d1) := by simpa using a1
          clear a0 a1
          go_wp2
          go_quiet (fail)
          have Hm2 := Lib.hid (Hm.out.drewN nq)
          go_wp2
          go_roundw
          case rel => exact ⟨1, by omega, by go_num, Hm2.out⟩
          case measure => simp [intOf]; omega
        · obtain ⟨i, rfl⟩ : ∃ i, j = i + 1 := ⟨j - 1, by omega⟩
          obtain ⟨r', hr'⟩ : ∃ r', g.l[i]? = some r' := ⟨_, List.getElem?_eq_getElem (by omega)⟩
          obtain ⟨b', o', eA, A2, m2, d2, p0, p1, _⟩ := hkv.at_ hr'
          injection eA with eA
          injection eA with eA1 eA2
          subst eA1 eA2
          have hlt' : r'.1 < r.1 := Hg.out.srt.at (by omega) hr' hr
          have e4 : decide (r.1 ≤ r'.1) = false := by rw [decide_eq_false_iff_not]; omega
          clear hkv hr hr' p1 hlt'
          go_wp2
          go_quiet (fail)
          have Hm2 := Lib.hid (Hm.out.drewN nq)
          go_wp2
          go_roundw
          case rel => exact ⟨i + 1 + 1, by omega, by go_num, Hm2.out⟩
          case measure => simp [intOf]; omega
      · obtain rfl : j = g.l.length := by omega
        have Hq8 := Lib.hid (Hq7.out.keep Hm.out)
        have Hm38 := Lib.hid (Hm37.out.trans Hm.out (fun _ _ h => h))
        have Haq := Lib.hid (lv_all Hq8.out)
        clear hkv
        go_wp2_with fail
        refine Haq.out.mono ?_
        rintro e w9 ⟨A9, c9, L9, rfl, hk9⟩
        have Hq9 := Lib.hid (Hq8.out.keep hk9.old)
        have Hm39 := Lib.hid (Hm38.out.trans hk9.old (fun _ _ h => h))
        have Hsm := Lib.hid (ksame_ok w9 A9 A3 g.l.length c9 c3 g.l hk9.kv (HK.out w9 Hm39.out) (fun r hr => by have := Hg.out.val r hr; omega) (by omega))
        clear hk9 Haq
        go_wp2_with fail
        refine Hsm.out.mono ?_
        rintro e w10 ⟨rfl, hm⟩
        have Hq10 := Lib.hid (Hq9.out.keep hm)
        have Hm310 := Lib.hid (Hm39.out.trans hm (fun _ _ h => h))
        clear hm Hsm
        go_wp2_with fail
        refine (Hus.out _ Hq10.out.old).mono ?_
        rintro e w11 ⟨rfl, hm⟩
        have Hq11 := Lib.hid (Hq10.out.keep hm)
        have Hm311 := Lib.hid (Hm310.out.trans hm (fun _ _ h => h))
        have Hru := Lib.hid (rused_ok w11 A3 g.l.length c3 g.l (HK.out w11 Hm311.out) (fun r hr => by have := Hg.out.val r hr; omega) (by omega))
        clear hm
        go_wp2_with fail
        refine Hru.out.mono ?_
        rintro e w12 ⟨rfl, rfl⟩
        go_wp2_with fail
        refine (Hus.out _ Hq11.out.old).mono ?_
        rintro e w13 ⟨rfl, hm⟩
        have Hq13 := Lib.hid (Hq11.out.keep hm)
        have hu240 := Hg.out.used
        have Hiq := Lib.hid (lv_id Hq13.out)
        clear hm
        generalize usedL g.l = U at *
        go_wp2_with fail
        refine Hiq.out.mono ?_
        rintro e w14 ⟨rfl, hm⟩
        have Hq14 := Lib.hid (Hq13.out.keep hm)
        clear hm
        go_wp2_with fail
        refine (Hid1.out _ Hq14.out.old).mono ?_
        rintro e w15 ⟨rfl, hm⟩
        have Hm15 := Lib.hid (Ha.out.trans (Hq14.out.old.trans hm (fun _ _ h => h)) (fun _ _ h => h))
        clear hm
        go_wp2
        go_ret
        exact ⟨by simp, Hm15.out.below (Nat.le_refl _) (fun _ _ => id)⟩
end Go.Proofs.Ytgeodpflaebbgaa
