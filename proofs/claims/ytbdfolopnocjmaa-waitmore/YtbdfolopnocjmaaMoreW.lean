/-
  WaitMore: who waits for one more reaches no fewer; a circle that is closed by that goes over it.
-/
import Derived.Test.YtbdfolopnocjmaaGLaw
namespace Go.Proofs.Ytbdfolopnocjmaa
open Go Go.RowKit

set_option linter.unusedVariables false in
set_option maxRecDepth 100000 in
set_option maxHeartbeats 6400000 in
theorem more_walk (W : World) (A0 : Option Addr) (n c0 : Nat) (l : List Wt) (h : Wl W A0 n c0 l) (hk : ∀ x ∈ l, x.ok) (a b f t : Int) (ha : I64 a) (hb : I64 b) (hf_ : I64 f) (ht : I64 t) :
    Calls Try.prog 6 #[.slice A0 n c0, .int .i64 a, .int .i64 b, .int .i64 f, .int .i64 t] W fun e w' => e = .returned (.bool true) ∧ Below W.heap.size W w' := by
  have HX := Lib.hid h
  have HFw := Lib.hid (fun V (hV : Wl V A0 n c0 l) => few_ok V A0 n c0 l hV)
  cases hfw : fewB l with
  | false =>
    rw [hfw] at HFw
    clear hfw h hk
    go_enter Try.func6, Try.ntmps6
    go_wp2_with fail
    refine (awake_ok _).mono ?_
    rintro e w1 ⟨rfl, hm1⟩
    have HM1 := Lib.hid hm1
    have HX1 := Lib.hid (HX.out.keep hm1)
    clear hm1
    go_wp2_with fail
    refine (HFw.out _ HX1.out).mono ?_
    rintro e w2 ⟨rfl, hw⟩
    subst w2
    clear HFw
    go_wp2
    go_ret
    exact ⟨rfl, HM1.out.below (Nat.le_refl _) (fun _ _ => id)⟩
  | true =>
    rw [hfw] at HFw
    obtain ⟨hl40, he800, hf⟩ := few_of h hfw
    have hn : n ≤ 40 := by rw [← h.len]; exact hl40
    have R1 := Lib.hid (fun V (hV : Wl V A0 n c0 l) => reach_ok V A0 n c0 l hV hf hk f t hf_)
    have R3 := Lib.hid (fun V (hV : Wl V A0 n c0 l) => reach_ok V A0 n c0 l hV hf hk b a hb)
    have S1 := Lib.hid (fun V (hV : Wl V A0 n c0 l) => still_ok V A0 n c0 l hV hf hk)
    have HM : Hid (∀ B V A c, Wl V A (n + 1) c (l ++ [⟨a, B, 1, 1, [b]⟩]) →
        Calls Try.prog 10 #[.slice A (n + 1) c, .int .i64 f, .int .i64 t] V (fun e w' => e = .returned (.bool (rch (edg (ps l) ++ [(a, b)]) f t)) ∧ Mod (fun _ => False) V w') ∧
        Calls Try.prog 13 #[.slice A (n + 1) c] V (fun e w' => e = .returned (.bool (stl (edg (ps l) ++ [(a, b)]))) ∧ Mod (fun _ => False) V w')) := fun B V A c hV => by
      have hk' : ∀ x ∈ l ++ [(⟨a, B, 1, 1, [b]⟩ : Wt)], x.ok := fun x hx => by
        rcases List.mem_append.1 hx with hx | hx
        · exact hk x hx
        · rw [List.mem_singleton.1 hx]; exact ⟨ha, fun z hz => by rw [List.mem_singleton.1 hz]; exact hb⟩
      have hf' : Few (l ++ [(⟨a, B, 1, 1, [b]⟩ : Wt)]) := ⟨by rw [List.length_append, List.length_singleton]; omega, by rw [edg_snoc, List.length_append, List.length_singleton]; omega⟩
      have h1 := reach_ok V A (n + 1) c _ hV hf' hk' f t hf_
      have h2 := still_ok V A (n + 1) c _ hV hf' hk'
      rw [edg_snoc] at h1 h2
      exact ⟨h1, h2⟩
    have Q1 : Hid (rch (edg (ps l)) f t = true → rch (edg (ps l) ++ [(a, b)]) f t = true) := more_rch
    have Q2 : Hid (stl (edg (ps l)) = true → stl (edg (ps l) ++ [(a, b)]) = false → a ≠ b → rch (edg (ps l)) b a = true) := more_stl
    have HL := Lib.hid h.len
    generalize rch (edg (ps l)) f t = r1 at *
    generalize rch (edg (ps l)) b a = r3 at *
    generalize stl (edg (ps l)) = s1 at *
    generalize rch (edg (ps l) ++ [(a, b)]) f t = r2 at *
    generalize stl (edg (ps l) ++ [(a, b)]) = s2 at *
    clear h hk hfw hf hl40 he800
    go_enter Try.func6, Try.ntmps6
    go_wp2_with fail
    refine (awake_ok _).mono ?_
    rintro e w1 ⟨rfl, hm1⟩
    have HM1 := Lib.hid hm1
    have HX1 := Lib.hid (HX.out.keep hm1)
    clear hm1
    go_wp2_with fail
    refine (HFw.out _ HX1.out).mono ?_
    rintro e w2 ⟨rfl, hw⟩
    subst w2
    clear HFw
    have Hw1 := Lib.hid HM1.out.size
    go_wp2_with (first
      | (at_builtin; refine wpList_appN (.const (.slice none 0 0)) (.tmp 24) wtElem rfl rfl rfl rfl (OwN.nil _ w1.heap.size _ _) HX1.out.src (by omega) (by unfold maxLen; omega) (Nat.le_refl _) ?_; intro A5 c5 w5 h1 h2 h3; rw [Nat.zero_add, List.nil_append] at h1; rw [Nat.zero_add]; obtain ⟨X1, hX1⟩ : ∃ X1, w5.alloc (.cells #[.int .i64 b] 3) = X1 := ⟨_, rfl⟩; obtain ⟨X2, hX2⟩ : ∃ X2, X1.alloc (.cells #[.int .i64 a, .slice (some ⟨w5.heap.size, 0, none⟩) 1 1] 29) = X2 := ⟨_, rfl⟩; obtain ⟨O2, S2', I2, M2, B2⟩ := more_lay h1 h2.size a b hX1 hX2; have H1 := Lib.hid h1; have H2 := Lib.hid h2; clear h1 h2 h3)
      | (at_builtin; refine wpList_appN (.tmp 25) (.tmp 30) wtElem rfl rfl rfl rfl O2.out S2'.out (by omega) (by unfold maxLen; omega) B2.out ?_; intro A6 c6 w6 h1 h2 h3; have H3 := Lib.hid h1; have H4 := Lib.hid h2; clear h1 h2 h3)
      | fail)
    have hM15 : Mod (fun _ => False) w1 w5 := (grown_mod H2.out).mono (fun _ _ e => by cases e)
    have hM16 : Mod (fun _ => False) w1 w6 := (hM15.trans M2.out (fun _ _ h => h)).trans (grown_mod H4.out) (fun i hi e => by have := (OwN.lt O2.out i e).1; omega)
    have HX6 := Lib.hid (HX1.out.keep hM16)
    have HY6 : Hid (Wl w6 A6 (n + 1) c6 (l ++ [⟨a, some ⟨w5.heap.size, 0, none⟩, 1, 1, [b]⟩])) := more_app HL.out (fun k e => (OwN.lt H1.out k e).2) HX6.out.row I2.out H3.out H4.out
    have HM6 := Lib.hid (HM1.out.trans hM16 (fun _ _ h => h))
    clear hM15 hM16 H1 H2 H3 H4 O2 S2' I2 M2 B2 hX1 hX2 HX1 HM1
    refine (R1.out _ HX6.out).mono ?_
    rintro e w7 ⟨rfl, hm⟩
    have HX7 := Lib.hid (HX6.out.keep hm)
    have HY7 := Lib.hid (HY6.out.keep hm)
    have HM7 := Lib.hid (HM6.out.trans hm (fun _ _ h => h))
    clear hm HX6 HY6 HM6 R1
    cases r1 with
    | false =>
      cases s1 with
      | false =>
        go_wp2_with fail
        refine (S1.out _ HX7.out).mono ?_
        rintro e w8 ⟨rfl, hm⟩
        have HX8 := Lib.hid (HX7.out.keep hm)
        have HY8 := Lib.hid (HY7.out.keep hm)
        have HM8 := Lib.hid (HM7.out.trans hm (fun _ _ h => h))
        clear hm HX7 HY7 HM7
        go_wp2
        go_ret
        exact ⟨rfl, HM8.out.below (Nat.le_refl _) (fun _ _ => id)⟩
      | true =>
        cases s2 with
        | true =>
          go_wp2_with fail
          refine (S1.out _ HX7.out).mono ?_
          rintro e w8 ⟨rfl, hm⟩
          have HX8 := Lib.hid (HX7.out.keep hm)
          have HY8 := Lib.hid (HY7.out.keep hm)
          have HM8 := Lib.hid (HM7.out.trans hm (fun _ _ h => h))
          clear hm HX7 HY7 HM7
          go_wp2_with fail
          refine ((HM.out _ _ _ _ HY8.out).2).mono ?_
          rintro e w9 ⟨rfl, hm⟩
          have HX9 := Lib.hid (HX8.out.keep hm)
          have HY9 := Lib.hid (HY8.out.keep hm)
          have HM9 := Lib.hid (HM8.out.trans hm (fun _ _ h => h))
          clear hm HX8 HY8 HM8
          go_wp2
          go_ret
          exact ⟨rfl, HM9.out.below (Nat.le_refl _) (fun _ _ => id)⟩
        | false =>
          by_cases hab : a = b
          · have q : (a == b) = true := by simpa using hab
            clear hab
            go_wp2_with fail
            refine (S1.out _ HX7.out).mono ?_
            rintro e w8 ⟨rfl, hm⟩
            have HX8 := Lib.hid (HX7.out.keep hm)
            have HY8 := Lib.hid (HY7.out.keep hm)
            have HM8 := Lib.hid (HM7.out.trans hm (fun _ _ h => h))
            clear hm HX7 HY7 HM7
            go_wp2_with fail
            refine ((HM.out _ _ _ _ HY8.out).2).mono ?_
            rintro e w9 ⟨rfl, hm⟩
            have HX9 := Lib.hid (HX8.out.keep hm)
            have HY9 := Lib.hid (HY8.out.keep hm)
            have HM9 := Lib.hid (HM8.out.trans hm (fun _ _ h => h))
            clear hm HX8 HY8 HM8
            go_wp2
            go_ret
            exact ⟨rfl, HM9.out.below (Nat.le_refl _) (fun _ _ => id)⟩
          · have q : (a == b) = false := by simpa using hab
            have hr3 := Q2.out rfl rfl hab
            subst hr3
            clear hab
            go_wp2_with fail
            refine (S1.out _ HX7.out).mono ?_
            rintro e w8 ⟨rfl, hm⟩
            have HX8 := Lib.hid (HX7.out.keep hm)
            have HY8 := Lib.hid (HY7.out.keep hm)
            have HM8 := Lib.hid (HM7.out.trans hm (fun _ _ h => h))
            clear hm HX7 HY7 HM7
            go_wp2_with fail
            refine ((HM.out _ _ _ _ HY8.out).2).mono ?_
            rintro e w9 ⟨rfl, hm⟩
            have HX9 := Lib.hid (HX8.out.keep hm)
            have HY9 := Lib.hid (HY8.out.keep hm)
            have HM9 := Lib.hid (HM8.out.trans hm (fun _ _ h => h))
            clear hm HX8 HY8 HM8
            go_wp2_with fail
            refine (R3.out _ HX9.out).mono ?_
            rintro e w10 ⟨rfl, hm⟩
            have HX10 := Lib.hid (HX9.out.keep hm)
            have HY10 := Lib.hid (HY9.out.keep hm)
            have HM10 := Lib.hid (HM9.out.trans hm (fun _ _ h => h))
            clear hm HX9 HY9 HM9
            go_wp2
            go_ret
            exact ⟨rfl, HM10.out.below (Nat.le_refl _) (fun _ _ => id)⟩
    | true =>
      have hr2 := Q1.out rfl
      subst hr2
      go_wp2_with fail
      refine ((HM.out _ _ _ _ HY7.out).1).mono ?_
      rintro e w8 ⟨rfl, hm⟩
      have HX8 := Lib.hid (HX7.out.keep hm)
      have HY8 := Lib.hid (HY7.out.keep hm)
      have HM8 := Lib.hid (HM7.out.trans hm (fun _ _ h => h))
      clear hm HX7 HY7 HM7
      cases s1 with
      | false =>
        go_wp2_with fail
        refine (S1.out _ HX8.out).mono ?_
        rintro e w9 ⟨rfl, hm⟩
        have HX9 := Lib.hid (HX8.out.keep hm)
        have HY9 := Lib.hid (HY8.out.keep hm)
        have HM9 := Lib.hid (HM8.out.trans hm (fun _ _ h => h))
        clear hm HX8 HY8 HM8
        go_wp2
        go_ret
        exact ⟨rfl, HM9.out.below (Nat.le_refl _) (fun _ _ => id)⟩
      | true =>
        cases s2 with
        | true =>
          go_wp2_with fail
          refine (S1.out _ HX8.out).mono ?_
          rintro e w9 ⟨rfl, hm⟩
          have HX9 := Lib.hid (HX8.out.keep hm)
          have HY9 := Lib.hid (HY8.out.keep hm)
          have HM9 := Lib.hid (HM8.out.trans hm (fun _ _ h => h))
          clear hm HX8 HY8 HM8
          go_wp2_with fail
          refine ((HM.out _ _ _ _ HY9.out).2).mono ?_
          rintro e w10 ⟨rfl, hm⟩
          have HX10 := Lib.hid (HX9.out.keep hm)
          have HY10 := Lib.hid (HY9.out.keep hm)
          have HM10 := Lib.hid (HM9.out.trans hm (fun _ _ h => h))
          clear hm HX9 HY9 HM9
          go_wp2
          go_ret
          exact ⟨rfl, HM10.out.below (Nat.le_refl _) (fun _ _ => id)⟩
        | false =>
          by_cases hab : a = b
          · have q : (a == b) = true := by simpa using hab
            clear hab
            go_wp2_with fail
            refine (S1.out _ HX8.out).mono ?_
            rintro e w9 ⟨rfl, hm⟩
            have HX9 := Lib.hid (HX8.out.keep hm)
            have HY9 := Lib.hid (HY8.out.keep hm)
            have HM9 := Lib.hid (HM8.out.trans hm (fun _ _ h => h))
            clear hm HX8 HY8 HM8
            go_wp2_with fail
            refine ((HM.out _ _ _ _ HY9.out).2).mono ?_
            rintro e w10 ⟨rfl, hm⟩
            have HX10 := Lib.hid (HX9.out.keep hm)
            have HY10 := Lib.hid (HY9.out.keep hm)
            have HM10 := Lib.hid (HM9.out.trans hm (fun _ _ h => h))
            clear hm HX9 HY9 HM9
            go_wp2
            go_ret
            exact ⟨rfl, HM10.out.below (Nat.le_refl _) (fun _ _ => id)⟩
          · have q : (a == b) = false := by simpa using hab
            have hr3 := Q2.out rfl rfl hab
            subst hr3
            clear hab
            go_wp2_with fail
            refine (S1.out _ HX8.out).mono ?_
            rintro e w9 ⟨rfl, hm⟩
            have HX9 := Lib.hid (HX8.out.keep hm)
            have HY9 := Lib.hid (HY8.out.keep hm)
            have HM9 := Lib.hid (HM8.out.trans hm (fun _ _ h => h))
            clear hm HX8 HY8 HM8
            go_wp2_with fail
            refine ((HM.out _ _ _ _ HY9.out).2).mono ?_
            rintro e w10 ⟨rfl, hm⟩
            have HX10 := Lib.hid (HX9.out.keep hm)
            have HY10 := Lib.hid (HY9.out.keep hm)
            have HM10 := Lib.hid (HM9.out.trans hm (fun _ _ h => h))
            clear hm HX9 HY9 HM9
            go_wp2_with fail
            refine (R3.out _ HX10.out).mono ?_
            rintro e w11 ⟨rfl, hm⟩
            have HX11 := Lib.hid (HX10.out.keep hm)
            have HY11 := Lib.hid (HY10.out.keep hm)
            have HM11 := Lib.hid (HM10.out.trans hm (fun _ _ h => h))
            clear hm HX10 HY10 HM10
            go_wp2
            go_ret
            exact ⟨rfl, HM11.out.below (Nat.le_refl _) (fun _ _ => id)⟩
end Go.Proofs.Ytbdfolopnocjmaa
