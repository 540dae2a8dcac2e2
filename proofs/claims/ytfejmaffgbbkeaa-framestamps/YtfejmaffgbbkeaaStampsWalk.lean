/-
  What a call of the statement FrameStamps does: it answers true, and turns nothing that was there.
-/
import Derived.Test.YtfejmaffgbbkeaaFMath
namespace Go.Proofs.Ytfejmaffgbbkeaa
open Go Go.RowKit

theorem same_quiet {w : World} {A B : Option Addr} {n m c d : Nat} {xs ys : List UInt8} (h : Sl w A n c xs) (k : Sl w B m d ys) (hc : n ≤ 140737488355328) (hd : m ≤ 140737488355328) (q : Nat) :
    Calls Try.prog 13 #[.slice A n c, .slice B m d] (w.drewN q) fun e w' => e = .returned (.bool (eqB xs ys)) ∧ ∃ m, w' = w.drewN m := by
  refine (same_ok (w.drewN q) A B n m c d xs ys (Sl.drewN h q) (Sl.drewN k q) hc hd).mono ?_
  rintro e w' ⟨rfl, p, rfl⟩
  exact ⟨rfl, q + p, World.drewN_drewN _ _ _⟩

/-- A beginning of a slice. -/
theorem Sl.pre {w : World} {b o n c : Nat} {xs : List UInt8} (h : Sl w (some ⟨b, o, none⟩) n c xs) (m : Nat) (hk : m ≤ n) : Sl w (some ⟨b, o, none⟩) m c (xs.take m) := by
  have hc := h.cap
  refine ⟨by simp [h.len]; omega, by omega, fun hp => ⟨b, o, rfl, fun j hj => ?_⟩⟩
  obtain ⟨b', o', e, hcell⟩ := h.2.2 (by omega)
  injection e with e
  injection e with e1 e2
  subst e1; subst e2
  rw [hcell j (by omega)]
  simp [hj]
theorem Sl.cut {w : World} {b o n c : Nat} {xs : List UInt8} (h : Sl w (some ⟨b, o, none⟩) n c xs) (k m : Nat) (hk : k + m ≤ n) : Sl w (some ⟨b, o + k, none⟩) m (c - k) ((xs.drop k).take m) := by
  have hc := h.cap
  refine ⟨by simp [h.len]; omega, by omega, fun hp => ⟨b, o + k, rfl, fun j hj => ?_⟩⟩
  obtain ⟨b', o', e, hcell⟩ := h.2.2 (by omega)
  injection e with e
  injection e with e1 e2
  subst e1; subst e2
  rw [Nat.add_assoc, hcell (k + j) (by omega)]
  simp [hj]
theorem eqB_sec {a b : Int} (a0 : 0 ≤ a) (a1 : a ≤ 4294967295) (b0 : 0 ≤ b) (b1 : b ≤ 4294967295) (xs : List UInt8) : eqB (secOf a xs) (secOf b xs) = (a == b) := by
  by_cases h : a = b
  · subst h
    rw [eqB_self]
    simp
  · have hne : (a == b) = false := by simpa using h
    rw [hne]
    unfold eqB
    rw [decide_eq_false_iff_not]
    intro e
    apply h
    refine le4_inj a0 a1 b0 b1 ?_
    rw [← sec_take a xs, ← sec_take b xs, e]

set_option maxRecDepth 100000 in
set_option maxHeartbeats 3200000 in
theorem stamps_walk (a b : Int) (A : Option Addr) (m c : Nat) (xs : List UInt8) (w : World) (h : Sl w A m c xs) :
    Calls Try.prog 9 #[.int .i64 a, .int .i64 b, .slice A m c] w fun e w' => e = .returned (.bool true) ∧ Below w.heap.size w w' := by
  go_enter Try.func9, Try.ntmps9
  go_wp2_with fail
  refine (awake_ok _).mono ?_
  rintro e w1 ⟨rfl, hm1⟩
  have h1 : Sl w1 A m c xs := h.mod hm1 (fun _ _ _ => id)
  clear h
  by_cases c1 : 248 < m
  · have dc1 : decide ((248 : Int) < m) = true := by simp; omega
    go_wp2
    go_ret
    exact ⟨rfl, hm1.below (Nat.le_refl _) (fun _ _ => id)⟩
  have dc1 : decide ((248 : Int) < m) = false := by simp; omega
  by_cases c2 : a < 0
  · have dc2 : decide (a < 0) = true := by simp; omega
    go_wp2
    go_ret
    exact ⟨rfl, hm1.below (Nat.le_refl _) (fun _ _ => id)⟩
  have dc2 : decide (a < 0) = false := by simp; omega
  by_cases c3 : b < 0
  · have dc3 : decide (b < 0) = true := by simp; omega
    go_wp2
    go_ret
    exact ⟨rfl, hm1.below (Nat.le_refl _) (fun _ _ => id)⟩
  have dc3 : decide (b < 0) = false := by simp; omega
  by_cases c4 : 4294967295 < a
  · have dc4 : decide (4294967295 < a) = true := by simp; omega
    go_wp2
    go_ret
    exact ⟨rfl, hm1.below (Nat.le_refl _) (fun _ _ => id)⟩
  have dc4 : decide (4294967295 < a) = false := by simp; omega
  by_cases c5 : 4294967295 < b
  · have dc5 : decide (4294967295 < b) = true := by simp; omega
    go_wp2
    go_ret
    exact ⟨rfl, hm1.below (Nat.le_refl _) (fun _ _ => id)⟩
  have dc5 : decide (4294967295 < b) = false := by simp; omega
  have a0 : 0 ≤ a := by omega
  have b0 : 0 ≤ b := by omega
  have a1 : a ≤ 4294967295 := by omega
  have b1 : b ≤ 4294967295 := by omega
  have hm : m ≤ 248 := by omega
  have HL := Lib.hid h1.len
  clear c1 c2 c3 c4 c5
  go_wp2_with fail
  refine (seal_ok _ a _ _ _ _ h1 a0 a1 hm).mono ?_
  rintro e w2 ⟨g2, rfl, hs2⟩
  have h2 : Sl w2 A m c xs := h1.mod hs2.2.2 (fun _ _ _ => id)
  have hlx : xs.length ≤ 248 := by rw [HL.out]; exact hm
  have x2 := hs2.sl (secOf_len a xs hlx)
  have hM2 := hm1.trans hs2.2.2 (fun _ _ h => h)
  clear h1 hm1 hs2
  go_wp2_with fail
  refine (seal_ok _ b _ _ _ _ h2 b0 b1 hm).mono ?_
  rintro e w3 ⟨g3, rfl, hs3⟩
  have x3 := x2.mod hs3.2.2 (fun _ _ _ => id)
  have y3 := hs3.sl (secOf_len b xs hlx)
  have hM3 := hM2.trans hs3.2.2 (fun _ _ h => h)
  clear h2 x2 hM2 hs3
  have xm := x3.cut 4 248 (by omega)
  have ym := y3.cut 4 248 (by omega)
  rw [sec_mid a xs hlx, Nat.zero_add] at xm
  rw [sec_mid b xs hlx, Nat.zero_add] at ym
  have Q1 := Lib.hid (same_quiet xm ym (by omega) (by omega))
  have xp := x3.pre 4 (by omega)
  have xe := x3.cut 252 4 (by omega)
  rw [sec_take] at xp
  rw [sec_drop a xs hlx, List.take_of_length_le (by rw [le_length]; omega), Nat.zero_add] at xe
  rw [eqB_self] at Q1
  have He := Lib.hid (eqB_sec a0 a1 b0 b1 xs)
  clear xm ym
  go_wp2_with fail
  go_quiet ((go_at_call 13; exact Q1.out _))
  have hM4 := hM3.drewN nq
  have x4 := x3.drewN nq
  have y4 := y3.drewN nq
  have p4 := xp.drewN nq
  have e4 := xe.drewN nq
  generalize w3.drewN nq = w4 at *
  clear hM3 x3 y3 xp xe Q1
  go_wp2_with fail
  refine (same_ok _ _ _ _ _ _ _ _ _ x4 y4 (by omega) (by omega)).mono ?_
  rintro e w5 ⟨rfl, q, rfl⟩
  rw [He.out]
  have hM5 := hM4.drewN q
  have p5 := p4.drewN q
  have e5 := e4.drewN q
  generalize w4.drewN q = w5 at *
  clear hM4 x4 y4 p4 e4
  have Q2 := Lib.hid (same_quiet p5 e5 (by omega) (by omega))
  rw [eqB_self] at Q2
  go_wp2_with fail
  go_quiet ((go_at_call 13; exact Q2.out _))
  have hM6 := hM5.drewN nq
  generalize w5.drewN nq = w6 at *
  clear hM5 p5 e5 Q2
  by_cases hab : a = b
  · subst hab
    go_wp2
    go_ret
    exact ⟨rfl, hM6.below (Nat.le_refl _) (fun _ _ => id)⟩
  · have hf : (a == b) = false := by simpa using hab
    clear hab
    go_wp2
    go_ret
    exact ⟨rfl, hM6.below (Nat.le_refl _) (fun _ _ => id)⟩
end Go.Proofs.Ytfejmaffgbbkeaa
