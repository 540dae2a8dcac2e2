/-
  WaitSteps: who reaches one reaches all that that one reaches; one is reached just if somebody that is waited for is it, or reaches it.
-/
import Derived.Test.YtbdfolopnocjmaaGLaw
namespace Go.Proofs.Ytbdfolopnocjmaa
open Go Go.RowKit

/-- Of some that are waited for one is b, or reaches it. -/
def Stp (E : List (Int × Int)) (b : Int) (zs : List Int) : Prop := ∃ z ∈ zs, z = b ∨ Rch E z b
/-- .. of those that a waits for, by the elements of l. -/
def Stl (E : List (Int × Int)) (l : List Wt) (a b : Int) : Prop := ∃ y ∈ l, y.tx = a ∧ Stp E b y.zs
theorem stl_more {E : List (Int × Int)} {l : List Wt} {a b : Int} {i : Nat} {x : Wt} (hx : l[i]? = some x) : Stl E (l.take (i + 1)) a b ↔ Stl E (l.take i) a b ∨ (x.tx = a ∧ Stp E b x.zs) := by
  unfold Stl
  rw [take_succ_at hx]
  constructor
  · rintro ⟨y, hy, h⟩
    rcases List.mem_append.1 hy with hy | hy
    · exact .inl ⟨y, hy, h⟩
    · rw [List.mem_singleton.1 hy] at h; exact .inr h
  · rintro (⟨y, hy, h⟩ | h)
    · exact ⟨y, List.mem_append_left _ hy, h⟩
    · exact ⟨x, by simp, h⟩
theorem stp_more {E : List (Int × Int)} {b t : Int} {zs : List Int} {k : Nat} (ht : zs[k]? = some t) : Stp E b (zs.take (k + 1)) ↔ Stp E b (zs.take k) ∨ (t = b ∨ Rch E t b) := by
  unfold Stp
  rw [take_succ_at ht]
  constructor
  · rintro ⟨y, hy, h⟩
    rcases List.mem_append.1 hy with hy | hy
    · exact .inl ⟨y, hy, h⟩
    · rw [List.mem_singleton.1 hy] at h; exact .inr h
  · rintro (⟨y, hy, h⟩ | h)
    · exact ⟨y, List.mem_append_left _ hy, h⟩
    · exact ⟨t, by simp, h⟩
theorem stl_all {l : List Wt} {a b : Int} : Stl (edg (ps l)) l a b ↔ Rch (edg (ps l)) a b := by
  rw [rch_iff]
  constructor
  · rintro ⟨y, hy, e, z, hz, h⟩
    exact ⟨z, mem_edg.2 ⟨y.p, List.mem_map.2 ⟨y, hy, rfl⟩, e, hz⟩, h⟩
  · rintro ⟨z, hz, h⟩
    obtain ⟨p, hp, e, hzp⟩ := mem_edg.1 hz
    obtain ⟨y, hy, rfl⟩ := List.mem_map.1 hp
    exact ⟨y, hy, e, z, hzp, h⟩

set_option linter.unusedVariables false in
set_option maxRecDepth 100000 in
set_option maxHeartbeats 6400000 in
theorem steps_walk (W : World) (A0 : Option Addr) (n c0 : Nat) (l : List Wt) (h : Wl W A0 n c0 l) (hk : ∀ x ∈ l, x.ok) (a b c : Int) (ha : I64 a) (hb : I64 b) (hc : I64 c) :
    Calls Try.prog 4 #[.slice A0 n c0, .int .i64 a, .int .i64 b, .int .i64 c] W fun e w' => e = .returned (.bool true) ∧ Below W.heap.size W w' := by
  have HX := Lib.hid h
  have HFw := Lib.hid (fun V (hV : Wl V A0 n c0 l) => few_ok V A0 n c0 l hV)
  cases hfw : fewB l with
  | false =>
    rw [hfw] at HFw
    clear hfw h hk
    go_enter Try.func4, Try.ntmps4
    go_wp2_with fail
    refine (awake_ok _).mono ?_
    rintro e w1 ⟨rfl, hm1⟩
    have HM1 := Lib.hid hm1
    have HX1 := Lib.hid (HX.out.keep hm1)
    clear hm1
    go_wp2_with fail
    refine (HFw.out _ HX1.out).mono ?_
    rintro e w2 ⟨rfl, hw⟩
    subst w2
    clear HFw
    go_wp2
    go_ret
    exact ⟨rfl, HM1.out.below (Nat.le_refl _) (fun _ _ => id)⟩
  | true =>
    rw [hfw] at HFw
    obtain ⟨hl40, he800, hf⟩ := few_of h hfw
    have hn : n ≤ 40 := by rw [← h.len]; exact hl40
    obtain ⟨E, hE⟩ : ∃ E, edg (ps l) = E := ⟨_, rfl⟩
    have R := Lib.hid (fun V (hV : Wl V A0 n c0 l) z (hz : I64 z) y => reach_ok V A0 n c0 l hV hf hk z y hz)
    have Hall : Hid (Stl E l a b ↔ Rch E a b) := by rw [← hE]; exact stl_all
    have HK := Lib.hid hk
    have HL := Lib.hid h.len
    have H20 := Lib.hid (few_n hfw)
    rw [hE] at R
    clear h hk hfw hf hl40 he800 hE
    go_enter Try.func4, Try.ntmps4
    go_wp2_with fail
    refine (awake_ok _).mono ?_
    rintro e w1 ⟨rfl, hm1⟩
    have HM1 := Lib.hid hm1
    have HX1 := Lib.hid (HX.out.keep hm1)
    clear hm1
    go_wp2_with fail
    refine (HFw.out _ HX1.out).mono ?_
    rintro e w2 ⟨rfl, hw⟩
    subst w2
    clear HFw
    go_wp2
    go_loopw [11, 12] (fun sv iv wr => ∃ (i : Nat) (s : Bool), i ≤ n ∧ sv = .bool s ∧ iv = .int .i64 i ∧ (s = true ↔ Stl E (l.take i) a b) ∧ Mod (fun _ => False) W wr) (fun _ iv _ => n - (intOf iv).toNat)
    case atStart => exact ⟨0, false, Nat.zero_le _, rfl, rfl, ⟨fun h => (by cases h), fun h => by obtain ⟨y, hy, _⟩ := h; simp at hy⟩, HM1.out⟩
    case round =>
      obtain ⟨i, s, hi, rfl, rfl, hs, hm⟩ := hrel
      have HS := Lib.hid hs
      have HM := Lib.hid hm
      clear hs hm HM1 HX1
      by_cases hlt : i < n
      · obtain ⟨x, hx⟩ : ∃ x, l[i]? = some x := ⟨_, List.getElem?_eq_getElem (by rw [HL.out]; exact hlt)⟩
        obtain ⟨g, o, hA, hc⟩ := (HX.out.keep HM.out).at_ (by omega)
        have hcell : ∀ X, Mod (fun _ => False) W X → X.cell? ⟨g, o + i * 2, none⟩ = some (.int .i64 x.tx) ∧ X.cell? ⟨g, o + i * 2 + 1, none⟩ = some (.slice x.A x.n x.c) := fun X hX => by
          obtain ⟨b', o', hA', hc'⟩ := (HX.out.keep hX).at_ (by omega)
          rw [hA] at hA'
          injection hA' with hA'
          injection hA' with e1 e2
          subst e1
          subst e2
          exact hc' i x hx
        have Hcell := Lib.hid hcell
        have Hx := Lib.hid hx
        have Hxl := Lib.hid (List.mem_of_getElem? hx)
        have HA0 := Lib.hid hA
        have hR : ∀ V, Wl V A0 n c0 l → ∀ z, I64 z → ∀ y, Calls Try.prog 10 #[.slice A0 n c0, .int .i64 z, .int .i64 y] V (fun e w' => e = .returned (.bool (rch E z y)) ∧ Mod (fun _ => False) V w') := fun V hV z hz y => R.out V hV z hz y
        have HSx : Hid (s = true ↔ Stl E (l.take i) a b ∨ (x.tx = a ∧ Stp E b (x.zs.take 0))) := by
          show _ ↔ _
          rw [HS.out]
          exact ⟨.inl, fun h => h.elim id (fun h => by obtain ⟨_, z, hz, _⟩ := h; simp at hz)⟩
        have hxn : x.n ≤ 20 := H20.out x Hxl.out
        rw [hA] at hR ⊢
        have HR := Lib.hid hR
        clear hc hA hx hcell HS hR
        go_wp2
        go_loopw [11, 13] (fun sv kv wr => ∃ (k : Nat) (s : Bool), k ≤ x.n ∧ sv = .bool s ∧ kv = .int .i64 k ∧ (s = true ↔ Stl E (l.take i) a b ∨ (x.tx = a ∧ Stp E b (x.zs.take k))) ∧ Mod (fun _ => False) W wr) (fun _ kv _ => x.n - (intOf kv).toNat)
        case atStart => exact ⟨0, s, Nat.zero_le _, rfl, rfl, HSx.out, HM.out⟩
        case round =>
          obtain ⟨k, s2, hk, rfl, rfl, hs, hm⟩ := hrel
          have HS2 := Lib.hid hs
          have HM2 := Lib.hid hm
          obtain ⟨r0, r1⟩ := Hcell.out _ hm
          clear hs hm HSx HM
          by_cases hlt2 : k < x.n
          · have q1 : decide ((k : Int) < (x.n : Int)) = true := by rw [decide_eq_true_eq]; omega
            by_cases hta : x.tx = a
            · have q2 : (x.tx == a) = true := by simpa using hta
              have hIl := (HX.out.row x Hxl.out).keep HM2.out
              obtain ⟨B1, o1, hxA, hcz⟩ := hIl.2.2 (by omega)
              obtain ⟨t, ht⟩ : ∃ t, x.zs[k]? = some t := ⟨_, List.getElem?_eq_getElem (by rw [hIl.len]; exact hlt2)⟩
              have r2 := hcz k t ht
              rw [hxA] at r1
              have Hti : Hid (I64 t) := (HK.out x Hxl.out).2 t (List.mem_of_getElem? ht)
              have Ht := Lib.hid ht
              have Hta := Lib.hid hta
              have HxA := Lib.hid hxA
              have HXr : Hid (Wl wr (some ⟨g, o, none⟩) n c0 l) := by
                have := HX.out.keep HM2.out
                rw [HA0.out] at this
                exact this
              have Hnext : Hid (∀ s', (s' = true ↔ (s2 = true ∨ (t = b ∨ Rch E t b))) → (s' = true ↔ Stl E (l.take i) a b ∨ (x.tx = a ∧ Stp E b (x.zs.take (k + 1))))) := fun s' hs' => by
                rw [hs', HS2.out, stp_more Ht.out]
                constructor
                · rintro ((h | ⟨h1, h2⟩) | h)
                  · exact .inl h
                  · exact .inr ⟨h1, .inl h2⟩
                  · exact .inr ⟨Hta.out, .inr h⟩
                · rintro (h | ⟨h1, h2 | h2⟩)
                  · exact .inl (.inl h)
                  · exact .inl (.inr ⟨h1, h2⟩)
                  · exact .inr h2
              clear hcz ht hIl hta hxA
              cases s2 with
              | true =>
                have Hs : Hid (true = true ↔ Stl E (l.take i) a b ∨ (x.tx = a ∧ Stp E b (x.zs.take (k + 1)))) := Hnext.out true ⟨fun _ => .inl rfl, fun _ => rfl⟩
                clear Hnext HS2
                go_wp2
                go_roundw
                case rel => exact ⟨k + 1, true, by omega, rfl, by go_num, Hs.out, HM2.out⟩
                case measure => simp [intOf]; omega
              | false =>
                by_cases htb : t = b
                · have q3 : (t == b) = true := by simpa using htb
                  have Hs : Hid (true = true ↔ Stl E (l.take i) a b ∨ (x.tx = a ∧ Stp E b (x.zs.take (k + 1)))) := Hnext.out true ⟨fun _ => .inr (.inl htb), fun _ => rfl⟩
                  clear Hnext HS2 htb
                  go_wp2
                  go_roundw
                  case rel => exact ⟨k + 1, true, by omega, rfl, by go_num, Hs.out, HM2.out⟩
                  case measure => simp [intOf]; omega
                · have q3 : (t == b) = false := by simpa using htb
                  have Hs : Hid (rch E t b = true ↔ Stl E (l.take i) a b ∨ (x.tx = a ∧ Stp E b (x.zs.take (k + 1)))) := Hnext.out _ (by
                    rw [rch_true]
                    exact ⟨fun h => .inr (.inr h), fun h => h.elim (fun h => (by cases h)) (fun h => h.elim (fun h => absurd h htb) id)⟩)
                  have hrun := HR.out wr HXr.out t Hti.out b
                  have Hrun := Lib.hid hrun
                  obtain ⟨rt, hrt⟩ : ∃ rt, rch E t b = rt := ⟨_, rfl⟩
                  rw [hrt] at Hs Hrun
                  clear Hnext HS2 htb hrun hrt
                  go_wp2_with fail
                  refine Hrun.out.mono ?_
                  rintro e w3 ⟨rfl, hm3⟩
                  have HM3 := Lib.hid (HM2.out.trans hm3 (fun _ _ h => h))
                  clear hm3 HM2 Hrun HXr r0 r1 r2
                  go_wp2
                  go_roundw
                  case rel => exact ⟨k + 1, rt, by omega, rfl, by go_num, Hs.out, HM3.out⟩
                  case measure => simp [intOf]; omega
            · have q2 : (x.tx == a) = false := by simpa using hta
              have Hs : Hid (s2 = true ↔ Stl E (l.take (i + 1)) a b) := by
                show _ ↔ _
                rw [HS2.out, stl_more Hx.out]
                exact ⟨fun h => h.elim .inl (fun h => absurd h.1 hta), fun h => h.elim .inl (fun h => absurd h.1 hta)⟩
              clear HS2 hta
              go_wp2
              go_roundw
              case rel => exact ⟨i + 1, s2, by omega, rfl, by go_num, Hs.out, HM2.out⟩
              case measure => simp [intOf]; omega
          · have q1 : decide ((k : Int) < (x.n : Int)) = false := by rw [decide_eq_false_iff_not]; omega
            have Hs : Hid (s2 = true ↔ Stl E (l.take (i + 1)) a b) := by
              show _ ↔ _
              have e : x.zs.take k = x.zs := List.take_of_length_le (by rw [(HX.out.row x Hxl.out).len]; omega)
              rw [HS2.out, stl_more Hx.out, e]
            clear HS2
            go_wp2
            go_roundw
            case rel => exact ⟨i + 1, s2, by omega, rfl, by go_num, Hs.out, HM2.out⟩
            case measure => simp [intOf]; omega
      · obtain rfl : i = n := by omega
        have hsr : s = rch E a b := by
          rw [Bool.eq_iff_iff, rch_true, HS.out, List.take_of_length_le (by rw [HL.out]; omega)]
          exact Hall.out
        have HXr : Hid (Wl wr A0 i c0 l) := HX.out.keep HM.out
        have Q : Hid (rch E a b = true → rch E b c = true → rch E a c = true) := fun h1 h2 => rch_true.2 ((rch_true.1 h1).trans (rch_true.1 h2))
        have Rab := Lib.hid (fun V (hV : Wl V A0 i c0 l) => R.out V hV a ha b)
        have Rbc := Lib.hid (fun V (hV : Wl V A0 i c0 l) => R.out V hV b hb c)
        have Rac := Lib.hid (fun V (hV : Wl V A0 i c0 l) => R.out V hV a ha c)
        subst hsr
        generalize rch E a b = rab at *
        generalize rch E b c = rbc at *
        generalize rch E a c = rac at *
        clear HS R Hall
        cases rab with
        | false =>
          go_wp2_with fail
          refine (Rab.out _ HXr.out).mono ?_
          rintro e w3 ⟨rfl, hm⟩
          have HX3 := Lib.hid (HXr.out.keep hm)
          have HM3 := Lib.hid (HM.out.trans hm (fun _ _ h => h))
          clear hm HXr HM
          go_wp2_with fail
          refine (Rab.out _ HX3.out).mono ?_
          rintro e w6 ⟨rfl, hm⟩
          have HX6 := Lib.hid (HX3.out.keep hm)
          have HM6 := Lib.hid (HM3.out.trans hm (fun _ _ h => h))
          clear hm HX3 HM3
          go_wp2
          go_ret
          exact ⟨rfl, HM6.out.below (Nat.le_refl _) (fun _ _ => id)⟩
        | true =>
          cases rbc with
          | false =>
            go_wp2_with fail
            refine (Rab.out _ HXr.out).mono ?_
            rintro e w3 ⟨rfl, hm⟩
            have HX3 := Lib.hid (HXr.out.keep hm)
            have HM3 := Lib.hid (HM.out.trans hm (fun _ _ h => h))
            clear hm HXr HM
            go_wp2_with fail
            refine (Rbc.out _ HX3.out).mono ?_
            rintro e w6 ⟨rfl, hm⟩
            have HX6 := Lib.hid (HX3.out.keep hm)
            have HM6 := Lib.hid (HM3.out.trans hm (fun _ _ h => h))
            clear hm HX3 HM3
            go_wp2_with fail
            refine (Rab.out _ HX6.out).mono ?_
            rintro e w9 ⟨rfl, hm⟩
            have HX9 := Lib.hid (HX6.out.keep hm)
            have HM9 := Lib.hid (HM6.out.trans hm (fun _ _ h => h))
            clear hm HX6 HM6
            go_wp2
            go_ret
            exact ⟨rfl, HM9.out.below (Nat.le_refl _) (fun _ _ => id)⟩
          | true =>
            have hrac := Q.out rfl rfl
            subst hrac
            go_wp2_with fail
            refine (Rab.out _ HXr.out).mono ?_
            rintro e w3 ⟨rfl, hm⟩
            have HX3 := Lib.hid (HXr.out.keep hm)
            have HM3 := Lib.hid (HM.out.trans hm (fun _ _ h => h))
            clear hm HXr HM
            go_wp2_with fail
            refine (Rbc.out _ HX3.out).mono ?_
            rintro e w6 ⟨rfl, hm⟩
            have HX6 := Lib.hid (HX3.out.keep hm)
            have HM6 := Lib.hid (HM3.out.trans hm (fun _ _ h => h))
            clear hm HX3 HM3
            go_wp2_with fail
            refine (Rac.out _ HX6.out).mono ?_
            rintro e w9 ⟨rfl, hm⟩
            have HX9 := Lib.hid (HX6.out.keep hm)
            have HM9 := Lib.hid (HM6.out.trans hm (fun _ _ h => h))
            clear hm HX6 HM6
            go_wp2_with fail
            refine (Rab.out _ HX9.out).mono ?_
            rintro e w12 ⟨rfl, hm⟩
            have HX12 := Lib.hid (HX9.out.keep hm)
            have HM12 := Lib.hid (HM9.out.trans hm (fun _ _ h => h))
            clear hm HX9 HM9
            go_wp2
            go_ret
            exact ⟨rfl, HM12.out.below (Nat.le_refl _) (fun _ _ => id)⟩
end Go.Proofs.Ytbdfolopnocjmaa
