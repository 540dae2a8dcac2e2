/-
  MasterLast: of masters whose numbers rise by one the last one is read.
-/
import Derived.Test.YtkigpicjhklioaaQMl
namespace Go.Proofs.Ytkigpicjhklioaa
open Go Go.RowKit

/-- Whatever the two sectors tell has a number below N. -/
structure Low (D : List (List UInt8)) (N : Int) : Prop where
  len : D.length = 2
  l0 : toldB (D.getD 0 []) 0 = true → (toldM (D.getD 0 []) 0).no < N
  l1 : toldB (D.getD 1 []) 1 = true → (toldM (D.getD 1 []) 1).no < N
theorem Low.new (N : Int) : Low [fill 0, fill 0] N :=
  ⟨rfl, fun h => absurd h (by rw [show toldB ([fill 0, fill 0].getD 0 []) 0 = false from toldB_zero 0]; decide), fun h => absurd h (by rw [show toldB ([fill 0, fill 0].getD 1 []) 1 = false from toldB_zero 1]; decide)⟩
theorem Low.put {D : List (List UInt8)} {m : Ms} (h : Low D m.no) (hm : m.May) : rdM (D.set (m.no % 2).toNat (secM m)) = m ∧ Low (D.set (m.no % 2).toNat (secM m)) (m.no + 1) := by
  obtain ⟨hl, h0, h1⟩ := h
  match D, hl with
  | [A, B], _ =>
    have h0 : toldB A 0 = true → (toldM A 0).no < m.no := h0
    have h1 : toldB B 1 = true → (toldM B 1).no < m.no := h1
    have hp : (m.no % 2 = 0 ∨ m.no % 2 = 1) := by have := mod2 m.no; omega
    rcases hp with p | p
    · have hm0 : toldB (secM m) 0 = true := by rw [toldB_sec m hm, decide_eq_true p]
      rw [p]
      constructor
      · show lastOf (secM m) B 2 = m
        cases hB : toldB B 1 with
        | false => rw [lastOf_left _ _ hm0 hB, toldM_sec m hm 0 p]
        | true => rw [lastOf_both _ _ hm0 hB, toldM_sec m hm 0 p, if_neg (by have := h1 hB; omega)]
      · refine ⟨rfl, fun _ => ?_, fun h => ?_⟩
        · show (toldM (secM m) 0).no < _
          rw [toldM_sec m hm 0 p]; omega
        · have := h1 h
          show (toldM B 1).no < _
          omega
    · have hm1 : toldB (secM m) 1 = true := by rw [toldB_sec m hm, decide_eq_true p]
      rw [p]
      constructor
      · show lastOf A (secM m) 2 = m
        cases hA : toldB A 0 with
        | false => rw [lastOf_right _ _ hA hm1, toldM_sec m hm 1 p]
        | true => rw [lastOf_both _ _ hA hm1, toldM_sec m hm 1 p, if_pos (h0 hA)]
      · refine ⟨rfl, fun h => ?_, fun _ => ?_⟩
        · have := h0 h
          show (toldM A 0).no < _
          omega
        · show (toldM (secM m) 1).no < _
          rw [toldM_sec m hm 1 p]; omega

/-- The master of round j. -/
def stepMs (a : Ms) (j : Nat) : Ms := ⟨a.no + j, a.ep, a.st, a.ck⟩

/-- What lies ahead of a round. -/
structure Rnd9 (w5 wr : World) (p g : Nat) (a : Ms) (j : Nat) : Prop where
  box : ∃ Q, InB wr g Q
  dev : ∃ x D, x.p = p ∧ Dev w5 wr x (Dk.fresh D) ∧ Low D (a.no + j)

set_option maxRecDepth 100000 in
set_option maxHeartbeats 1600000 in
theorem last_walk (a : Ms) (n : Int) (W : World) :
    Calls Try.prog 6 #[.agg #[.int .i64 a.no, .int .i64 a.ep, .int .i64 a.st, .int .i64 a.ck], .int .i64 n] W fun e w' => e = .returned (.bool true) ∧ Below W.heap.size W w' := by
  have hm2 : Mod (fun _ => False) W (W.alloc (.cells #[.int .i64 a.no, .int .i64 a.ep, .int .i64 a.st, .int .i64 a.ck] 23)) := (Mod.refl _ W).alloc _
  have Ha2 := Lib.hid (InB.new W a)
  have Hm2 := Lib.hid hm2
  clear hm2
  go_enter Try.func6, Try.ntmps6
  go_wp2_with fail
  refine (awake_ok _).mono ?_
  rintro e w3 ⟨rfl, hm3⟩
  have Hm3 := Lib.hid (Hm2.out.trans hm3 (fun _ _ h => h))
  have Ha3 := Lib.hid (Ha2.out.keep hm3)
  generalize hz : W.heap.size = z at *
  have Hz := Lib.hid hz
  clear hz hm3 Ha2 Hm2
  obtain ⟨b0, b1, b2, b3⟩ := Ha3.out.bm
  go_wp2_with fail
  have Hma := Lib.hid (may_ok w3 a)
  by_cases hya : mayM a = true
  rotate_left
  · rw [show mayM a = false by simpa using hya] at Hma
    clear hya
    refine Hma.out.mono ?_
    rintro e w4 ⟨rfl, hm4⟩
    have Hm4 := Lib.hid (Hm3.out.trans hm4 (fun _ _ h => h))
    clear hm4
    go_wp2
    go_ret
    exact ⟨rfl, Hm4.out.below (Nat.le_refl _) (fun _ _ => id)⟩
  rw [hya] at Hma
  have Hya := Lib.hid ((mayM_iff a).1 hya)
  clear hya
  refine Hma.out.mono ?_
  rintro e w5 ⟨rfl, hm5⟩
  have Hm5 := Lib.hid (Hm3.out.trans hm5 (fun _ _ h => h))
  have Ha5 := Lib.hid (Ha3.out.keep hm5)
  have Hnew := Lib.hid (lm_new w5 w5 (Mod.refl _ w5) 2 (by omega) (by omega))
  clear hm5 Hm3 Ha3 Hma b0 b1 b2 b3
  by_cases hn0 : 0 ≤ n
  rotate_left
  · have hd : decide (n < 0) = true := by rw [decide_eq_true_eq]; omega
    clear hn0
    go_wp2
    go_ret
    exact ⟨rfl, Hm5.out.below (Nat.le_refl _) (fun _ _ => id)⟩
  by_cases hn1 : n ≤ 20
  rotate_left
  · go_wp2
    go_ret
    exact ⟨rfl, Hm5.out.below (Nat.le_refl _) (fun _ _ => id)⟩
  go_wp2_with fail
  refine Hnew.out.mono ?_
  rintro e w6 ⟨x6, rfl, hd6, hm6⟩
  replace hd6 : Dev w5 w6 x6 (Dk.fresh [fill 0, fill 0]) := hd6
  have Hd6 := Lib.hid hd6
  obtain ⟨b0, b1, b2, b3⟩ := (Ha5.out.keep hm6).bm
  have Hs6 := Lib.hid hd6.old.size
  have HR : Hid (Rnd9 w5 (w6.alloc (.cells #[.int .i64 a.no, .int .i64 a.ep, .int .i64 a.st, .int .i64 a.ck] 23)) x6.p w6.heap.size a 0) := ⟨⟨a, InB.new w6 a⟩, x6, _, rfl, hd6.keep ((Mod.refl _ w6).alloc _), Low.new _⟩
  clear hd6 hm6 Hnew
  go_wp2_with fail
  clear b0 b1 b2 b3
  have n1 := Hya.out.n1
  have n2 := Hya.out.n2
  go_loopw [9] (fun i wr => ∃ (j : Nat), j ≤ 21 ∧ (j : Int) ≤ n + 1 ∧ i = .int .i64 j ∧ Rnd9 w5 wr x6.p w6.heap.size a j) (fun i _ => 30 - (intOf i).toNat)
  case atStart => exact ⟨0, by omega, by omega, rfl, HR.out⟩
  case round =>
    obtain ⟨j, hj, hjn, rfl, hr⟩ := hrel
    obtain ⟨⟨Q, hQ⟩, x, D, hx, hd, hlow⟩ := hr
    by_cases hlt : (j : Int) ≤ n
    · obtain ⟨b0, b1, b2, b3⟩ := (Ha5.out.keep hd.old).bm
      obtain ⟨q0, q1, q2, q3⟩ := hQ.bm
      have f0 := hQ.frozen 0
      have f1 := hQ.frozen 1
      have f2 := hQ.frozen 2
      have f3 := hQ.frozen 3
      have hS : InB ((((wr.setCell ⟨w6.heap.size, 0, none⟩ (.int .i64 (a.no + (j : Int)))).setCell ⟨w6.heap.size, 1, none⟩ (.int .i64 a.ep)).setCell ⟨w6.heap.size, 2, none⟩ (.int .i64 a.st)).setCell ⟨w6.heap.size, 3, none⟩ (.int .i64 a.ck)) w6.heap.size (stepMs a j) := (hQ.set (stepMs a j)).1
      have hMs : Mod (fun k => k = w6.heap.size) wr ((((wr.setCell ⟨w6.heap.size, 0, none⟩ (.int .i64 (a.no + (j : Int)))).setCell ⟨w6.heap.size, 1, none⟩ (.int .i64 a.ep)).setCell ⟨w6.heap.size, 2, none⟩ (.int .i64 a.st)).setCell ⟨w6.heap.size, 3, none⟩ (.int .i64 a.ck)) := (hQ.set (stepMs a j)).2
      have hds := hd.storeM hQ Hs6.out hMs
      have HS := Lib.hid hS
      have Hds := Lib.hid hds
      have Hlow : Hid (Low D (stepMs a j).no) := hlow
      have hzg : z ≠ w6.heap.size := by
        have h1 := Ha5.out.lt
        have h2 := Hs6.out
        omega
      have Hx := Lib.hid hx
      clear hd hlow hQ hS hMs hds hx
      go_wp2_with fail
      have Hmm := Lib.hid (may_ok ((((wr.setCell ⟨w6.heap.size, 0, none⟩ (.int .i64 (a.no + (j : Int)))).setCell ⟨w6.heap.size, 1, none⟩ (.int .i64 a.ep)).setCell ⟨w6.heap.size, 2, none⟩ (.int .i64 a.st)).setCell ⟨w6.heap.size, 3, none⟩ (.int .i64 a.ck)) (stepMs a j))
      clear b0 b1 b2 b3 q0 q1 q2 q3 f0 f1 f2 f3
      by_cases hyj : mayM (stepMs a j) = true
      rotate_left
      · rw [show mayM (stepMs a j) = false by simpa using hyj] at Hmm
        clear hyj
        refine Hmm.out.mono ?_
        rintro e w7 ⟨rfl, hm7⟩
        have Hm7 := Lib.hid (Hm5.out.trans (Hds.out.old.trans hm7 (fun _ _ h => h)) (fun _ _ h => h))
        clear hm7
        go_wp2
        go_ret
        exact ⟨rfl, Hm7.out.below (Nat.le_refl _) (fun _ _ => id)⟩
      rw [hyj] at Hmm
      have Hyj := Lib.hid ((mayM_iff _).1 hyj)
      clear hyj
      refine Hmm.out.mono ?_
      rintro e w7 ⟨rfl, hm7⟩
      have Hd7 := Lib.hid (Hds.out.keep hm7)
      have HS7 := Lib.hid (HS.out.keep hm7)
      obtain ⟨q0, q1, q2, q3⟩ := HS7.out.bm
      have Hw7 := Lib.hid (lm_write w5 w7 x D Hd7.out (by rw [Hlow.out.len]; exact Nat.le_refl 2) (stepMs a j) Hyj.out)
      clear hm7 HS Hds Hmm
      rw [← Hx.out]
      go_wp2_with fail
      refine Hw7.out.mono ?_
      rintro e w8 ⟨rfl, x8, hx8, hd8, hm8⟩
      have HS8 := Lib.hid (HS7.out.dev Hd7.out hm8)
      have Hd8 := Lib.hid hd8
      have Hr8 := Lib.hid (lm_read w5 w8 x8 _ hd8 (by rw [List.length_set, Hlow.out.len]; exact Nat.le_refl 2))
      have hput := Hlow.out.put Hyj.out
      rw [show rdE (D.set ((stepMs a j).no % 2).toNat (secM (stepMs a j))) = 0 by
        unfold rdE
        rw [hput.1, if_neg]
        have h1 := Hyj.out.n1
        omega, hput.1] at Hr8
      have Hlow8 : Hid (Low (D.set ((stepMs a j).no % 2).toNat (secM (stepMs a j))) (a.no + ((j + 1 : Nat) : Int))) := by
        have h1 := hput.2
        have h2 : (stepMs a j).no + 1 = a.no + ((j + 1 : Nat) : Int) := by show a.no + (j : Int) + 1 = _; omega
        rw [← h2]
        exact h1
      have Hx8 : Hid (x8.p = x6.p) := hx8.trans Hx.out
      clear hput hx8 hd8 hm8 Hd7 HS7 q0 q1 q2 q3 Hw7 Hlow
      rw [Hx.out]
      rw [Hx8.out] at Hr8
      go_wp2_with fail
      refine Hr8.out.mono ?_
      rintro e w9 ⟨rfl, hm9⟩
      have HS9 := Lib.hid (HS8.out.keep hm9)
      have Hd9 := Lib.hid (Hd8.out.keep hm9)
      obtain ⟨q0, q1, q2, q3⟩ := HS9.out.bm
      have hglt := HS9.out.lt
      have HR9 : Hid (Rnd9 w5 (w9.alloc (.cells #[.int .i64 (stepMs a j).no, .int .i64 (stepMs a j).ep, .int .i64 (stepMs a j).st, .int .i64 (stepMs a j).ck] 23)) x6.p w6.heap.size a (j + 1)) :=
        ⟨⟨_, HS9.out.keep ((Mod.refl _ w9).alloc _)⟩, x8, _, Hx8.out, Hd9.out.keep ((Mod.refl _ w9).alloc _), Hlow8.out⟩
      have hec : ∀ w, (Op.equalIn 10000 23 (.agg #[.int .i64 (stepMs a j).no, .int .i64 (stepMs a j).ep, .int .i64 (stepMs a j).st, .int .i64 (stepMs a j).ck]) (.agg #[.int .i64 (stepMs a j).no, .int .i64 (stepMs a j).ep, .int .i64 (stepMs a j).st, .int .i64 (stepMs a j).ck])).run Try.prog w = .ok true w := fun w => (eq_ms (stepMs a j) (stepMs a j) w).trans (by rw [eqMs_yes])
      clear hm9 HS8 Hd8 Hr8 HS9 Hd9
      go_wp2
      go_roundw
      case rel => exact ⟨j + 1, by omega, by omega, by go_num, HR9.out⟩
      case measure => simp [intOf]; omega
    · clear hQ hlow
      go_wp2
      go_ret
      exact ⟨rfl, (Hm5.out.trans hd.old (fun _ _ h => h)).below (Nat.le_refl _) (fun _ _ => id)⟩
end Go.Proofs.Ytkigpicjhklioaa
