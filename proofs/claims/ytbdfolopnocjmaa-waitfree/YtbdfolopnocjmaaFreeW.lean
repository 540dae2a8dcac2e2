/-
  WaitFree: as long as nobody reaches itself, somebody that is waited for, or waits, waits for nobody.
-/
import Derived.Test.YtbdfolopnocjmaaGLaw
namespace Go.Proofs.Ytbdfolopnocjmaa
open Go Go.RowKit

/-- x waits for nobody, by the elements of l. -/
def Idl (l : List Wt) (x : Wt) : Prop := ∀ y ∈ l, y.tx ≠ x.tx ∨ y.n = 0
/-- z waits for somebody. -/
def Wts (l : List Wt) (z : Int) : Prop := ∃ y ∈ l, y.tx = z ∧ 0 < y.n
theorem all_more {l : List Wt} {i : Nat} {x : Wt} (hx : l[i]? = some x) (p : Wt → Prop) : (∀ y ∈ l.take (i + 1), p y) ↔ (∀ y ∈ l.take i, p y) ∧ p x := by
  rw [take_succ_at hx]
  constructor
  · exact fun h => ⟨fun y hy => h y (List.mem_append_left _ hy), h x (by simp)⟩
  · rintro ⟨h1, h2⟩ y hy
    rcases List.mem_append.1 hy with hy | hy
    · exact h1 y hy
    · rw [List.mem_singleton.1 hy]; exact h2
theorem ex_more {l : List Wt} {i : Nat} {x : Wt} (hx : l[i]? = some x) (p : Wt → Prop) : (∃ y ∈ l.take (i + 1), p y) ↔ (∃ y ∈ l.take i, p y) ∨ p x := by
  rw [take_succ_at hx]
  constructor
  · rintro ⟨y, hy, h⟩
    rcases List.mem_append.1 hy with hy | hy
    · exact .inl ⟨y, hy, h⟩
    · rw [List.mem_singleton.1 hy] at h; exact .inr h
  · rintro (⟨y, hy, h⟩ | h)
    · exact ⟨y, List.mem_append_left _ hy, h⟩
    · exact ⟨x, by simp, h⟩

set_option linter.unusedVariables false in
set_option maxRecDepth 100000 in
set_option maxHeartbeats 6400000 in
theorem free_walk (W : World) (A0 : Option Addr) (n c0 : Nat) (l : List Wt) (h : Wl W A0 n c0 l) (hk : ∀ x ∈ l, x.ok) :
    Calls Try.prog 5 #[.slice A0 n c0] W fun e w' => e = .returned (.bool true) ∧ Below W.heap.size W w' := by
  have HX := Lib.hid h
  have HFw := Lib.hid (fun V (hV : Wl V A0 n c0 l) => few_ok V A0 n c0 l hV)
  cases hfw : fewB l with
  | false =>
    rw [hfw] at HFw
    clear hfw h hk
    go_enter Try.func5, Try.ntmps5
    go_wp2_with fail
    refine (awake_ok _).mono ?_
    rintro e w1 ⟨rfl, hm1⟩
    have HM1 := Lib.hid hm1
    have HX1 := Lib.hid (HX.out.keep hm1)
    clear hm1
    go_wp2_with fail
    refine (HFw.out _ HX1.out).mono ?_
    rintro e w2 ⟨rfl, hw⟩
    subst w2
    clear HFw
    go_wp2
    go_ret
    exact ⟨rfl, HM1.out.below (Nat.le_refl _) (fun _ _ => id)⟩
  | true =>
    rw [hfw] at HFw
    obtain ⟨hl40, he800, hf⟩ := few_of h hfw
    have hn : n ≤ 40 := by rw [← h.len]; exact hl40
    have S1 := Lib.hid (fun V (hV : Wl V A0 n c0 l) => still_ok V A0 n c0 l hV hf hk)
    have Hfree : Hid (stl (edg (ps l)) = true → l ≠ [] → (∀ x ∈ l, ¬ Idl l x ∧ ∀ z ∈ x.zs, Wts l z) → False) := fun hs hl hall => some_free hl hs (fun x hx => by
      have hz : ∀ y ∈ l, 0 < y.n → y.zs ≠ [] := fun y hy h0 e => by
        have := (h.row y hy).len
        rw [e] at this
        simp at this
        omega
      refine ⟨?_, fun z hzx => ?_⟩
      · refine Classical.byContradiction fun hn => (hall x hx).1 (fun y hy => ?_)
        by_cases e : y.tx = x.tx
        · by_cases h0 : y.n = 0
          · exact .inr h0
          · exact absurd ⟨y, hy, e, hz y hy (by omega)⟩ hn
        · exact .inl e
      · obtain ⟨y, hy, e, h0⟩ := (hall x hx).2 z hzx
        exact ⟨y, hy, e, hz y hy h0⟩)
    have HL := Lib.hid h.len
    have H20 := Lib.hid (few_n hfw)
    generalize stl (edg (ps l)) = st at *
    clear h hk hfw hf hl40 he800
    cases st with
    | false =>
      go_enter Try.func5, Try.ntmps5
      go_wp2_with fail
      refine (awake_ok _).mono ?_
      rintro e w1 ⟨rfl, hm1⟩
      have HM1 := Lib.hid hm1
      have HX1 := Lib.hid (HX.out.keep hm1)
      clear hm1
      go_wp2_with fail
      refine (HFw.out _ HX1.out).mono ?_
      rintro e w2 ⟨rfl, hw⟩
      subst w2
      clear HFw
      go_wp2_with fail
      refine (S1.out _ HX1.out).mono ?_
      rintro e w2 ⟨rfl, hm⟩
      have HM2 := Lib.hid (HM1.out.trans hm (fun _ _ h => h))
      clear hm HX1 HM1 S1
      go_wp2
      go_ret
      exact ⟨rfl, HM2.out.below (Nat.le_refl _) (fun _ _ => id)⟩
    | true =>
      by_cases hn0 : n = 0
      · have q0 : (((n : Nat) : Int) == 0) = true := by simpa using hn0
        clear hn0
        go_enter Try.func5, Try.ntmps5
        go_wp2_with fail
        refine (awake_ok _).mono ?_
        rintro e w1 ⟨rfl, hm1⟩
        have HM1 := Lib.hid hm1
        have HX1 := Lib.hid (HX.out.keep hm1)
        clear hm1
        go_wp2_with fail
        refine (HFw.out _ HX1.out).mono ?_
        rintro e w2 ⟨rfl, hw⟩
        subst w2
        clear HFw
        go_wp2_with fail
        refine (S1.out _ HX1.out).mono ?_
        rintro e w2 ⟨rfl, hm⟩
        have HM2 := Lib.hid (HM1.out.trans hm (fun _ _ h => h))
        clear hm HX1 HM1 S1
        go_wp2
        go_ret
        exact ⟨rfl, HM2.out.below (Nat.le_refl _) (fun _ _ => id)⟩
      · have q0 : (((n : Nat) : Int) == 0) = false := by simpa using hn0
        have Hfin : Hid ((∀ x ∈ l, ¬ Idl l x ∧ ∀ z ∈ x.zs, Wts l z) → False) := Hfree.out rfl (fun e => by have := HL.out; rw [e] at this; exact hn0 this.symm)
        clear hn0 Hfree
        go_enter Try.func5, Try.ntmps5
        go_wp2_with fail
        refine (awake_ok _).mono ?_
        rintro e w1 ⟨rfl, hm1⟩
        have HM1 := Lib.hid hm1
        have HX1 := Lib.hid (HX.out.keep hm1)
        clear hm1
        go_wp2_with fail
        refine (HFw.out _ HX1.out).mono ?_
        rintro e w2 ⟨rfl, hw⟩
        subst w2
        clear HFw
        go_wp2_with fail
        refine (S1.out _ HX1.out).mono ?_
        rintro e w2 ⟨rfl, hm⟩
        have HM2 := Lib.hid (HM1.out.trans hm (fun _ _ h => h))
        clear hm HX1 HM1 S1
        go_wp2
        go_loopw [5] (fun iv wr => ∃ i : Nat, i ≤ n ∧ iv = .int .i64 i ∧ (∀ x ∈ l.take i, ¬ Idl l x ∧ ∀ z ∈ x.zs, Wts l z) ∧ Mod (fun _ => False) W wr) (fun iv _ => n - (intOf iv).toNat)
        case atStart => exact ⟨0, Nat.zero_le _, rfl, fun x hx => by simp at hx, HM2.out⟩
        case round =>
          obtain ⟨i, hi, rfl, hall, hm⟩ := hrel
          have HAll := Lib.hid hall
          have HM := Lib.hid hm
          clear hall hm HM2
          by_cases hlt : i < n
          · obtain ⟨x, hx⟩ : ∃ x, l[i]? = some x := ⟨_, List.getElem?_eq_getElem (by rw [HL.out]; exact hlt)⟩
            obtain ⟨g, o, hA, _⟩ := (HX.out.keep HM.out).at_ (by omega)
            have HA0 := Lib.hid hA
            have hcell : ∀ X, Mod (fun _ => False) W X → X.cell? ⟨g, o + i * 2, none⟩ = some (.int .i64 x.tx) ∧ X.cell? ⟨g, o + i * 2 + 1, none⟩ = some (.slice x.A x.n x.c) := fun X hX => by
              obtain ⟨b', o', hA', hc'⟩ := (HX.out.keep hX).at_ (by omega)
              rw [HA0.out] at hA'
              injection hA' with hA'
              injection hA' with e1 e2
              subst e1
              subst e2
              exact hc' i x hx
            have Hcx := Lib.hid hcell
            have Hx := Lib.hid hx
            have Hxl := Lib.hid (List.mem_of_getElem? hx)
            have hxn : x.n ≤ 20 := H20.out x Hxl.out
            have hin : (i : Int) < (n : Int) := by omega
            have hi0 : (0 : Int) ≤ (i : Int) := by omega
            rw [hA]
            clear hA hx hcell
            go_wp2
            go_loopw [6, 7] (fun sv kv wr => ∃ (k : Nat) (s : Bool), k ≤ n ∧ sv = .bool s ∧ kv = .int .i64 k ∧ (s = true ↔ ∀ y ∈ l.take k, y.tx ≠ x.tx ∨ y.n = 0) ∧ Mod (fun _ => False) W wr) (fun _ kv _ => n - (intOf kv).toNat)
            case atStart => exact ⟨0, true, Nat.zero_le _, rfl, rfl, ⟨fun _ y hy => by simp at hy, fun _ => rfl⟩, HM.out⟩
            case round =>
              obtain ⟨k, s, hk, rfl, rfl, hs, hm⟩ := hrel
              have HS := Lib.hid hs
              have HMk := Lib.hid hm
              obtain ⟨r0, r1⟩ := Hcx.out _ hm
              clear hs hm HM
              by_cases hlt2 : k < n
              · obtain ⟨y, hy⟩ : ∃ y, l[k]? = some y := ⟨_, List.getElem?_eq_getElem (by rw [HL.out]; exact hlt2)⟩
                have hcell : ∀ X, Mod (fun _ => False) W X → X.cell? ⟨g, o + k * 2, none⟩ = some (.int .i64 y.tx) ∧ X.cell? ⟨g, o + k * 2 + 1, none⟩ = some (.slice y.A y.n y.c) := fun X hX => by
                  obtain ⟨b', o', hA', hc'⟩ := (HX.out.keep hX).at_ (by omega)
                  rw [HA0.out] at hA'
                  injection hA' with hA'
                  injection hA' with e1 e2
                  subst e1
                  subst e2
                  exact hc' k y hy
                obtain ⟨t0, t1⟩ := hcell _ HMk.out
                have hkn : (k : Int) < (n : Int) := by omega
                have hk0 : (0 : Int) ≤ (k : Int) := by omega
                have Hmore : Hid ((∀ z ∈ l.take (k + 1), z.tx ≠ x.tx ∨ z.n = 0) ↔ (s = true ∧ (y.tx ≠ x.tx ∨ y.n = 0))) := by
                  show _ ↔ _
                  rw [all_more hy, HS.out]
                clear hy hcell HS
                cases s with
                | false =>
                  have Hs : Hid (false = true ↔ ∀ z ∈ l.take (k + 1), z.tx ≠ x.tx ∨ z.n = 0) := by
                    show _ ↔ _
                    rw [Hmore.out]; exact ⟨fun h => (by cases h), fun h => h.1⟩
                  clear Hmore
                  go_wp2_with fail
                  go_quiet (fail)
                  go_wp2
                  go_roundw
                  case rel => exact ⟨k + 1, false, by omega, rfl, by go_num, Hs.out, HMk.out.drewN _⟩
                  case measure => simp [intOf]; omega
                | true =>
                  by_cases e : y.tx = x.tx
                  · have q1 : (y.tx != x.tx) = false := by simpa using e
                    by_cases h0 : y.n = 0
                    · have q2 : (((y.n : Nat) : Int) == 0) = true := by simpa using h0
                      have Hs : Hid (true = true ↔ ∀ z ∈ l.take (k + 1), z.tx ≠ x.tx ∨ z.n = 0) := by
                        show _ ↔ _
                        rw [Hmore.out]; exact ⟨fun _ => ⟨rfl, .inr h0⟩, fun _ => rfl⟩
                      clear Hmore e h0
                      go_wp2_with fail
                      go_quiet (fail)
                      go_wp2
                      go_roundw
                      case rel => exact ⟨k + 1, true, by omega, rfl, by go_num, ⟨fun _ => Hs.out.mp (by trivial), fun _ => rfl⟩, HMk.out.drewN _⟩
                      case measure => simp [intOf]; omega
                    · have q2 : (((y.n : Nat) : Int) == 0) = false := by simpa using h0
                      have Hs : Hid (false = true ↔ ∀ z ∈ l.take (k + 1), z.tx ≠ x.tx ∨ z.n = 0) := by
                        show _ ↔ _
                        rw [Hmore.out]; exact ⟨fun h => (by cases h), fun h => h.2.elim (fun h => absurd e h) (fun h => absurd h h0)⟩
                      clear Hmore e h0
                      go_wp2_with fail
                      go_quiet (fail)
                      go_wp2
                      go_roundw
                      case rel => exact ⟨k + 1, false, by omega, rfl, by go_num, Hs.out, HMk.out.drewN _⟩
                      case measure => simp [intOf]; omega
                  · have q1 : (y.tx != x.tx) = true := by simpa using e
                    have Hs : Hid (true = true ↔ ∀ z ∈ l.take (k + 1), z.tx ≠ x.tx ∨ z.n = 0) := by
                      show _ ↔ _
                      rw [Hmore.out]; exact ⟨fun _ => ⟨rfl, .inl e⟩, fun _ => rfl⟩
                    clear Hmore e
                    go_wp2_with fail
                    go_quiet (fail)
                    go_wp2
                    go_roundw
                    case rel => exact ⟨k + 1, true, by omega, rfl, by go_num, ⟨fun _ => Hs.out.mp (by trivial), fun _ => rfl⟩, HMk.out.drewN _⟩
                    case measure => simp [intOf]; omega
              · obtain rfl : k = n := by omega
                cases s with
                | true =>
                  go_wp2
                  go_ret
                  exact ⟨rfl, HMk.out.below (Nat.le_refl _) (fun _ _ => id)⟩
                | false =>
                  have Hidl : Hid (¬ Idl l x) := fun hid => by
                    have := HS.out.2 (fun y hy => hid y (List.mem_of_mem_take hy))
                    cases this
                  clear HS
                  go_wp2
                  go_loopw [8] (fun jv wr => ∃ j : Nat, j ≤ x.n ∧ jv = .int .i64 j ∧ (∀ z ∈ x.zs.take j, Wts l z) ∧ Mod (fun _ => False) W wr) (fun jv _ => x.n - (intOf jv).toNat)
                  case atStart => exact ⟨0, Nat.zero_le _, rfl, fun z hz => by simp at hz, HMk.out⟩
                  case round =>
                    obtain ⟨j, hj, rfl, hw, hm⟩ := hrel
                    have HW := Lib.hid hw
                    have HMj := Lib.hid hm
                    obtain ⟨r0, r1⟩ := Hcx.out _ hm
                    clear hw hm HMk
                    by_cases hltj : j < x.n
                    · have hIl := HX.out.row x Hxl.out
                      obtain ⟨z, hz⟩ : ∃ z, x.zs[j]? = some z := ⟨_, List.getElem?_eq_getElem (by rw [hIl.len]; exact hltj)⟩
                      obtain ⟨B1, o1, hxA, _⟩ := (hIl.keep HMj.out).2.2 (by omega)
                      have hzc : ∀ X, Mod (fun _ => False) W X → X.cell? ⟨B1, o1 + j, none⟩ = some (.int .i64 z) := fun X hX => by
                        obtain ⟨b', o', hA', hc'⟩ := (hIl.keep hX).2.2 (by omega)
                        rw [hxA] at hA'
                        injection hA' with hA'
                        injection hA' with e1 e2
                        subst e1
                        subst e2
                        exact hc' j z hz
                      have Hzc := Lib.hid hzc
                      have Hz := Lib.hid hz
                      have HxA := Lib.hid hxA
                      have hjn : (j : Int) < (x.n : Int) := by omega
                      have hj0 : (0 : Int) ≤ (j : Int) := by omega
                      clear hIl hz hxA hzc
                      go_wp2
                      go_loopw [9, 10] (fun sv kv wr => ∃ (q : Nat) (s : Bool), q ≤ k ∧ sv = .bool s ∧ kv = .int .i64 q ∧ (s = true ↔ ∃ y ∈ l.take q, y.tx = z ∧ 0 < y.n) ∧ Mod (fun _ => False) W wr) (fun _ kv _ => k - (intOf kv).toNat)
                      case atStart => exact ⟨0, false, Nat.zero_le _, rfl, rfl, ⟨fun h => (by cases h), fun h => by obtain ⟨y, hy, _⟩ := h; simp at hy⟩, HMj.out⟩
                      case round =>
                        obtain ⟨q, s, hq, rfl, rfl, hs, hm⟩ := hrel
                        have HS := Lib.hid hs
                        have HMq := Lib.hid hm
                        obtain ⟨r0, r1⟩ := Hcx.out _ hm
                        have r2 := Hzc.out _ hm
                        rw [HxA.out] at r1
                        clear hs hm HMj
                        by_cases hltq : q < k
                        · obtain ⟨y, hy⟩ : ∃ y, l[q]? = some y := ⟨_, List.getElem?_eq_getElem (by rw [HL.out]; exact hltq)⟩
                          have hcell : ∀ X, Mod (fun _ => False) W X → X.cell? ⟨g, o + q * 2, none⟩ = some (.int .i64 y.tx) ∧ X.cell? ⟨g, o + q * 2 + 1, none⟩ = some (.slice y.A y.n y.c) := fun X hX => by
                            obtain ⟨b', o', hA', hc'⟩ := (HX.out.keep hX).at_ (by omega)
                            rw [HA0.out] at hA'
                            injection hA' with hA'
                            injection hA' with e1 e2
                            subst e1
                            subst e2
                            exact hc' q y hy
                          obtain ⟨t0, t1⟩ := hcell _ HMq.out
                          have hqn : (q : Int) < (k : Int) := by omega
                          have hq0 : (0 : Int) ≤ (q : Int) := by omega
                          have Hmore : Hid ((∃ y ∈ l.take (q + 1), y.tx = z ∧ 0 < y.n) ↔ (s = true ∨ (y.tx = z ∧ 0 < y.n))) := by
                            show _ ↔ _
                            rw [ex_more hy (fun y => y.tx = z ∧ 0 < y.n), HS.out]
                          clear hy hcell HS
                          cases s with
                          | true =>
                            have Hs : Hid (true = true ↔ ∃ y ∈ l.take (q + 1), y.tx = z ∧ 0 < y.n) := by
                              show _ ↔ _
                              rw [Hmore.out]; exact ⟨fun _ => .inl rfl, fun _ => rfl⟩
                            clear Hmore
                            go_wp2_with fail
                            go_quiet (fail)
                            go_wp2
                            go_roundw
                            case rel => exact ⟨q + 1, true, by omega, rfl, by go_num, ⟨fun _ => Hs.out.mp (by trivial), fun _ => rfl⟩, HMq.out.drewN _⟩
                            case measure => simp [intOf]; omega
                          | false =>
                            by_cases e : y.tx = z
                            · have q1 : (y.tx == z) = true := by simpa using e
                              by_cases h0 : 0 < y.n
                              · have q2 : decide ((0 : Int) < ((y.n : Nat) : Int)) = true := by rw [decide_eq_true_eq]; omega
                                have q3 : decide (0 < y.n) = true := decide_eq_true h0
                                have Hs : Hid (true = true ↔ ∃ y ∈ l.take (q + 1), y.tx = z ∧ 0 < y.n) := by
                                  show _ ↔ _
                                  rw [Hmore.out]; exact ⟨fun _ => .inr ⟨e, h0⟩, fun _ => rfl⟩
                                clear Hmore e h0
                                go_wp2_with fail
                                go_quiet (fail)
                                go_wp2
                                go_roundw
                                case rel => exact ⟨q + 1, true, by omega, rfl, by go_num, ⟨fun _ => Hs.out.mp (by trivial), fun _ => rfl⟩, HMq.out.drewN _⟩
                                case measure => simp [intOf]; omega
                              · have q2 : decide ((0 : Int) < ((y.n : Nat) : Int)) = false := by rw [decide_eq_false_iff_not]; omega
                                have q3 : decide (0 < y.n) = false := decide_eq_false h0
                                have Hs : Hid (false = true ↔ ∃ y ∈ l.take (q + 1), y.tx = z ∧ 0 < y.n) := by
                                  show _ ↔ _
                                  rw [Hmore.out]; exact ⟨fun h => (by cases h), fun h => h.elim id (fun h => absurd h.2 h0)⟩
                                clear Hmore e h0
                                go_wp2_with fail
                                go_quiet (fail)
                                go_wp2
                                go_roundw
                                case rel => exact ⟨q + 1, false, by omega, rfl, by go_num, Hs.out, HMq.out.drewN _⟩
                                case measure => simp [intOf]; omega
                            · have q1 : (y.tx == z) = false := by simpa using e
                              have Hs : Hid (false = true ↔ ∃ y ∈ l.take (q + 1), y.tx = z ∧ 0 < y.n) := by
                                show _ ↔ _
                                rw [Hmore.out]; exact ⟨fun h => (by cases h), fun h => h.elim id (fun h => absurd h.1 e)⟩
                              clear Hmore e
                              go_wp2_with fail
                              go_quiet (fail)
                              go_wp2
                              go_roundw
                              case rel => exact ⟨q + 1, false, by omega, rfl, by go_num, Hs.out, HMq.out.drewN _⟩
                              case measure => simp [intOf]; omega
                        · obtain rfl : q = k := by omega
                          cases s with
                          | false =>
                            go_wp2
                            go_ret
                            exact ⟨rfl, HMq.out.below (Nat.le_refl _) (fun _ _ => id)⟩
                          | true =>
                            have HW2 : Hid (∀ u ∈ x.zs.take (j + 1), Wts l u) := fun u hu => by
                              rw [take_succ_at Hz.out] at hu
                              rcases List.mem_append.1 hu with hu | hu
                              · exact HW.out u hu
                              · rw [List.mem_singleton.1 hu]
                                obtain ⟨y, hy, h⟩ := HS.out.1 rfl
                                exact ⟨y, List.mem_of_mem_take hy, h⟩
                            clear HS HW
                            go_wp2
                            go_roundw
                            case rel => exact ⟨j + 1, by omega, by go_num, HW2.out, HMq.out⟩
                            case measure => simp [intOf]; omega
                    · obtain rfl : j = x.n := by omega
                      have HAll2 : Hid (∀ y ∈ l.take (i + 1), ¬ Idl l y ∧ ∀ z ∈ y.zs, Wts l z) := by
                        refine (all_more Hx.out (fun y => ¬ Idl l y ∧ ∀ z ∈ y.zs, Wts l z)).2 ⟨HAll.out, Hidl.out, fun z hz => ?_⟩
                        have e : x.zs.take x.n = x.zs := List.take_of_length_le (by rw [(HX.out.row x Hxl.out).len]; omega)
                        have := HW.out
                        rw [e] at this
                        exact this z hz
                      clear HW Hidl HAll
                      go_wp2
                      go_roundw
                      case rel => exact ⟨i + 1, by omega, by go_num, HAll2.out, HMj.out⟩
                      case measure => simp [intOf]; omega
          · obtain rfl : i = n := by omega
            exact (Hfin.out (fun x hx => HAll.out x (by rw [List.take_of_length_le (by rw [HL.out]; omega)]; exact hx))).elim
end Go.Proofs.Ytbdfolopnocjmaa
