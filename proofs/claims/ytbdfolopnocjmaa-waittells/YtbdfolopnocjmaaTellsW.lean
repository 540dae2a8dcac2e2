/-
  WaitTells: who reaches whom, and whether nobody reaches itself, is what the document says.
-/
import Derived.Test.YtbdfolopnocjmaaGAw
namespace Go.Proofs.Ytbdfolopnocjmaa
open Go Go.RowKit

set_option linter.unusedVariables false in
set_option maxRecDepth 100000 in
set_option maxHeartbeats 6400000 in
theorem tells_walk (W : World) (A0 : Option Addr) (n c0 : Nat) (l : List Wt) (h : Wl W A0 n c0 l) (hk : ∀ x ∈ l, x.ok) (a b : Int) (ha : I64 a) (hb : I64 b) :
    Calls Try.prog 3 #[.slice A0 n c0, .int .i64 a, .int .i64 b] W fun e w' => e = .returned (.bool true) ∧ Below W.heap.size W w' := by
  have HX := Lib.hid h
  have HFw := Lib.hid (fun V (hV : Wl V A0 n c0 l) => few_ok V A0 n c0 l hV)
  cases hfw : fewB l with
  | false =>
    rw [hfw] at HFw
    clear hfw h hk
    go_enter Try.func3, Try.ntmps3
    go_wp2_with fail
    refine (awake_ok _).mono ?_
    rintro e w1 ⟨rfl, hm1⟩
    have HM1 := Lib.hid hm1
    have HX1 := Lib.hid (HX.out.keep hm1)
    clear hm1
    go_wp2_with fail
    refine (HFw.out _ HX1.out).mono ?_
    rintro e w2 ⟨rfl, hw⟩
    subst w2
    clear HFw
    go_wp2
    go_ret
    exact ⟨rfl, HM1.out.below (Nat.le_refl _) (fun _ _ => id)⟩
  | true =>
    rw [hfw] at HFw
    obtain ⟨hl40, he800, hf⟩ := few_of h hfw
    have hn : n ≤ 40 := by rw [← h.len]; exact hl40
    have R1 := Lib.hid (fun V (hV : Wl V A0 n c0 l) => reach_ok V A0 n c0 l hV hf hk a b ha)
    have R2 := Lib.hid (fun V (hV : Wl V A0 n c0 l) => rreach_ok V A0 n c0 l hV hf a b)
    have C1 := Lib.hid (fun V (hV : Wl V A0 n c0 l) => circle_ok V A0 n c0 l hV hf hk a ha)
    have C2 := Lib.hid (fun V (hV : Wl V A0 n c0 l) => rreach_ok V A0 n c0 l hV hf a a)
    have S1 := Lib.hid (fun V (hV : Wl V A0 n c0 l) => still_ok V A0 n c0 l hV hf hk)
    have S2 := Lib.hid (fun V (hV : Wl V A0 n c0 l) => rstill_ok V A0 n c0 l hV hf)
    generalize rch (edg (ps l)) a b = r1 at *
    generalize rch (edg (ps l)) a a = r2 at *
    generalize stl (edg (ps l)) = r3 at *
    have q1 : (r1 == r1) = true := by simp
    have q2 : (r2 == r2) = true := by simp
    have q3 : (r3 == r3) = true := by simp
    clear h hk hfw hf hl40 he800
    go_enter Try.func3, Try.ntmps3
    go_wp2_with fail
    refine (awake_ok _).mono ?_
    rintro e w1 ⟨rfl, hm1⟩
    have HM1 := Lib.hid hm1
    have HX1 := Lib.hid (HX.out.keep hm1)
    clear hm1
    go_wp2_with fail
    refine (HFw.out _ HX1.out).mono ?_
    rintro e w2 ⟨rfl, hw⟩
    subst w2
    clear HFw
    go_wp2_with fail
    refine (R1.out _ HX1.out).mono ?_
    rintro e w2 ⟨rfl, hm⟩
    have HX2 := Lib.hid (HX1.out.keep hm)
    have HM2 := Lib.hid (HM1.out.trans hm (fun _ _ h => h))
    clear hm HX1 HM1 R1
    go_wp2_with fail
    refine (R2.out _ HX2.out).mono ?_
    rintro e w3 ⟨rfl, hm⟩
    have HX3 := Lib.hid (HX2.out.keep hm)
    have HM3 := Lib.hid (HM2.out.trans hm (fun _ _ h => h))
    clear hm HX2 HM2 R2
    go_wp2_with fail
    refine (C1.out _ HX3.out).mono ?_
    rintro e w4 ⟨rfl, hm⟩
    have HX4 := Lib.hid (HX3.out.keep hm)
    have HM4 := Lib.hid (HM3.out.trans hm (fun _ _ h => h))
    clear hm HX3 HM3 C1
    go_wp2_with fail
    refine (C2.out _ HX4.out).mono ?_
    rintro e w5 ⟨rfl, hm⟩
    have HX5 := Lib.hid (HX4.out.keep hm)
    have HM5 := Lib.hid (HM4.out.trans hm (fun _ _ h => h))
    clear hm HX4 HM4 C2
    go_wp2_with fail
    refine (S1.out _ HX5.out).mono ?_
    rintro e w6 ⟨rfl, hm⟩
    have HX6 := Lib.hid (HX5.out.keep hm)
    have HM6 := Lib.hid (HM5.out.trans hm (fun _ _ h => h))
    clear hm HX5 HM5 S1
    go_wp2_with fail
    refine (S2.out _ HX6.out).mono ?_
    rintro e w7 ⟨rfl, hm⟩
    have HX7 := Lib.hid (HX6.out.keep hm)
    have HM7 := Lib.hid (HM6.out.trans hm (fun _ _ h => h))
    clear hm HX6 HM6 S2
    go_wp2
    go_ret
    exact ⟨rfl, HM7.out.below (Nat.le_refl _) (fun _ _ => id)⟩
end Go.Proofs.Ytbdfolopnocjmaa
