/-
  bobbinlaw12.awake: the chapter's examples.
-/
import Derived.Test.YtpkjafadhnecfaaKGrant
import Derived.Test.YtpkjafadhnecfaaKSafe
import Derived.Test.YtpkjafadhnecfaaKSame
namespace Go.Proofs.Ytpkjafadhnecfaa
open Go Go.RowKit

theorem grant_ok (w : World) (A0 : Option Addr) (n c0 : Nat) (l : List Tr) (h : Tl w A0 n c0 l) (hn : n ≤ 1000) (tx res mode : Int) :
    Calls Try.prog 14 #[.slice A0 n c0, .int .i64 tx, .int .i64 res, .int .i64 mode] w fun e w' => GrAns w w' (grL l tx res mode) (grE l tx res mode) e := by
  cases ho : okA tx res mode with
  | false =>
    rw [(grE_arg ho).1, (grE_arg ho).2]
    exact grant_arg w A0 n c0 tx res mode ho
  | true =>
    by_cases hb : blks l tx res mode = []
    · rw [(grE_yes ho hb).1, (grE_yes ho hb).2]
      exact grant_yes w A0 n c0 l h hn tx res mode ho hb
    · rw [(grE_state ho hb).1, (grE_state ho hb).2]
      exact grant_state w A0 n c0 l h hn tx res mode ho hb
theorem grL_len (l : List Tr) (tx res mode : Int) : (grL l tx res mode).length ≤ l.length + 1 := by
  unfold grL
  split
  · exact gr_len _ _ _
  · simp

/-! ### The chapter's examples -/
def la : List Tr := [⟨1, 7, 1⟩]
def lb : List Tr := [⟨1, 7, 1⟩, ⟨2, 7, 1⟩]
theorem aw0 : grE [] 1 7 1 = 0 ∧ grL [] 1 7 1 = la := by
  have h := grE_yes (l := []) (tx := 1) (res := 7) (mode := 1) (by decide +kernel) (blks_nil.2 (by simp))
  exact ⟨h.1, h.2.trans rfl⟩
theorem aw1 : grE la 2 7 1 = 0 ∧ grL la 2 7 1 = lb := by
  have h := grE_yes (l := la) (tx := 2) (res := 7) (mode := 1) (by decide +kernel) (blks_nil.2 (by decide +kernel))
  exact ⟨h.1, h.2.trans rfl⟩
theorem aw2 : blks la 2 7 2 = [1] := by
  refine (blks_is (xs := [1]) (by simp) (fun t => ?_)).symm
  constructor
  · intro h
    obtain rfl := List.mem_singleton.1 h
    exact ⟨⟨1, 7, 1⟩, List.mem_cons_self, rfl, by decide +kernel⟩
  · rintro ⟨h, hm, rfl, _⟩
    obtain rfl := List.mem_singleton.1 hm
    exact List.mem_cons_self
theorem aw3 : blks lb 1 7 2 = [2] := by
  refine (blks_is (xs := [2]) (by simp) (fun t => ?_)).symm
  constructor
  · intro h
    obtain rfl := List.mem_singleton.1 h
    exact ⟨⟨2, 7, 1⟩, List.mem_cons_of_mem _ List.mem_cons_self, rfl, by decide +kernel⟩
  · rintro ⟨h, hm, rfl, hb⟩
    rcases List.mem_cons.1 hm with rfl | hm
    · revert hb; decide +kernel
    · obtain rfl := List.mem_singleton.1 hm
      exact List.mem_cons_self
theorem aw4 : grE lb 1 7 2 = 5 ∧ grL lb 1 7 2 = [] := grE_state (by decide +kernel) (by rw [aw3]; simp)
theorem aw5 : sfB lb = true := by decide +kernel
theorem aw6 : clB 4 8 = true := by decide +kernel

set_option maxRecDepth 100000 in
set_option maxHeartbeats 3200000 in
theorem awake_ok (w : World) : Calls Try.prog 10 #[] w fun e w' => e = .returned (.bool true) ∧ Mod (fun _ => False) w w' := by
  have G0 := Lib.hid (grant_ok w none 0 0 [] (Tl.nil _ _ _) (by omega) 1 7 1)
  have G1 := Lib.hid (fun V A c (h : Tl V A 1 c la) => grant_ok V A 1 c la h (by omega) 2 7 1)
  have G2 := Lib.hid (fun V A c (h : Tl V A 1 c la) => blockers_ok V A 1 c la h (by omega) 2 7 2)
  have G3 := Lib.hid (fun V A c (h : Tl V A 2 c lb) => grant_ok V A 2 c lb h (by omega) 1 7 2)
  have G4 := Lib.hid (fun V A c (h : Tl V A 2 c lb) => blockers_ok V A 2 c lb h (by omega) 1 7 2)
  have G5 := Lib.hid (fun V A c (h : Tl V A 2 c lb) => safe_ok V A 2 c lb h (by omega))
  have G6 := Lib.hid (fun V => clash_ok V 4 8)
  rw [aw0.1, aw0.2] at G0
  rw [aw1.1, aw1.2] at G1
  rw [aw2] at G2
  rw [aw4.1, aw4.2] at G3
  rw [aw3] at G4
  rw [aw5] at G5
  rw [aw6] at G6
  unfold GrAns at G0 G1 G3
  unfold BkAns at G2 G4
  have hla : la.length = 1 := rfl
  have hlb : lb.length = 2 := rfl
  rw [hla] at G0
  rw [hlb] at G1
  clear hla hlb
  go_enter Try.func10, Try.ntmps10
  go_wp2_with fail
  refine G0.out.mono ?_
  rintro e w1 ⟨A, cA, rfl, hA, hm1⟩
  have HA := Lib.hid hA.tl
  have HM := Lib.hid hm1
  clear hA hm1 G0
  go_wp2_with fail
  refine (G1.out _ _ _ HA.out).mono ?_
  rintro e w2 ⟨B, cB, rfl, hB, hm2⟩
  have HB := Lib.hid hB.tl
  have HA2 := Lib.hid (HA.out.keep hm2)
  have HM2 := Lib.hid (HM.out.trans hm2 (fun _ _ h => h))
  clear hB hm2 G1 HA HM
  go_wp2_with fail
  refine (G2.out _ _ _ HA2.out).mono ?_
  rintro e w3 ⟨C, cC, rfl, hC, hm3⟩
  have HC := Lib.hid hC.il
  have HB3 := Lib.hid (HB.out.keep hm3)
  have HM3 := Lib.hid (HM2.out.trans hm3 (fun _ _ h => h))
  clear hC hm3 G2 HA2 HM2 HB
  go_wp2_with fail
  refine (G3.out _ _ _ HB3.out).mono ?_
  rintro e w4 ⟨D, cD, rfl, _, hm4⟩
  have HC4 := Lib.hid (HC.out.keep hm4)
  have HB4 := Lib.hid (HB3.out.keep hm4)
  have HM4 := Lib.hid (HM3.out.trans hm4 (fun _ _ h => h))
  clear hm4 G3 HC HB3 HM3
  go_wp2_with fail
  refine (G4.out _ _ _ HB4.out).mono ?_
  rintro e w5 ⟨E, cE, rfl, hE, hm5⟩
  have HE5 := Lib.hid hE.il
  have HC5 := Lib.hid (HC4.out.keep hm5)
  have HB5 := Lib.hid (HB4.out.keep hm5)
  have HM5 := Lib.hid (HM4.out.trans hm5 (fun _ _ h => h))
  clear hE hm5 G4 HC4 HB4 HM4
  obtain ⟨gC, oC, hC, hcC⟩ := HC5.out.2.2 (by decide)
  obtain ⟨gE, oE, hE, hcE⟩ := HE5.out.2.2 (by decide)
  have c0 := hcC 0 (by decide)
  have e0 := hcE 0 (by decide)
  rw [Nat.add_zero] at c0 e0
  rw [hC, hE]
  change w5.cell? ⟨gC, oC, none⟩ = some (.int .i64 1) at c0
  change w5.cell? ⟨gE, oE, none⟩ = some (.int .i64 2) at e0
  clear hC hE hcC hcE
  go_wp2_with fail
  refine (G5.out _ _ _ HB5.out).mono ?_
  rintro e w6 ⟨rfl, hm6⟩
  have HM6 := Lib.hid (HM5.out.trans hm6 (fun _ _ h => h))
  clear hm6 c0 e0
  go_wp2_with fail
  refine (G6.out _).mono ?_
  rintro e w7 ⟨rfl, h'⟩; subst w7
  go_wp2
  go_ret
  exact ⟨rfl, HM6.out⟩
end Go.Proofs.Ytpkjafadhnecfaa
