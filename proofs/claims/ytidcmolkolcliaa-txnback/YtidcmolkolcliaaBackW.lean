/-
  The law TxnBack: its walk.
-/
import Derived.Test.YtidcmolkolcliaaXDep
import Derived.Deep.DeepCutAuto
namespace Go.Proofs.Ytidcmolkolcliaa
open Go Go.RowKit

/-- What lies ahead of a round of TxnBack: noted are dl. -/
structure BkFr (w W : World) (x u : TxD) (gU : Nat) (A : Option Addr) (n c : Nat) (dl : List ChD) (K : List Cp) : Prop where
  old : Mod (fun _ => False) w W
  kx : Kp w.heap.size W x
  bx : x.In W w.heap.size
  ku : Kp w.heap.size W u
  bu : u.In W gU
  may : mayT u.p = true
  id : u.p.id = x.p.id
  st : u.p.st = x.p.st
  L : u.p.L = x.p.L ++ K
  S : u.p.S = x.p.S
  own : OwC W w.heap.size A n c dl
theorem bk_len {x u : Tp} {K : List Cp} (h : mayT u = true) (hL : u.L = x.L ++ K) : x.L.length + K.length ≤ 6 := by
  have := (may_len h).1
  rwa [hL, List.length_append] at this
set_option maxRecDepth 100000 in
set_option maxHeartbeats 25600000 in
theorem back_walk (w : World) (x : TxD) (hx : x.At w) (A : Option Addr) (n c : Nat) (l : List ChD) (hl : Cs w A n c l) :
    Calls Try.prog 5 #[.agg #[.int .i64 x.id, .int .i64 x.st, .int .i64 x.f, .int .i64 x.l, .slice x.A x.n x.c, .slice x.B x.m x.d], .slice A n c] w fun e w' => e = .returned (.bool true) ∧ Below w.heap.size w w' := by
  obtain ⟨w1, hw1⟩ : ∃ w1, w.alloc (.cells #[.int .i64 x.id, .int .i64 x.st, .int .i64 x.f, .int .i64 x.l, .slice x.A x.n x.c, .slice x.B x.m x.d] 25) = w1 := ⟨_, rfl⟩
  have HB1 : Hid ((x : TxD).In w1 (w.heap.size)) := by
    rw [← hw1]
    have q := TxD.In.new (w) (x)
    exact q.keep (Mod.refl (fun _ => False) _)
  have HM1 : Hid (Mod (fun _ => False) w w1) := by rw [← hw1]; exact (Mod.refl (fun _ => False) w).alloc _
  have hz1 : w.heap.size + 1 ≤ w1.heap.size := by rw [← hw1]; simp
  have Kx1 := Lib.hid (hx.kp0.keep HM1.out)
  have Hx := Lib.hid hx
  clear hx
  have Hl := Lib.hid hl
  have Hll := Lib.hid hl.len
  have hcap := hl.cap
  clear hl
  have HLt := Lib.hid (fun V (hV : Mod (fun _ => False) w1 V) => llight_ok V x ChD.zero (Kx1.out.keep hV).at_ (ChD.zero_at V))
  have Hsm : Hid ((ltB x.p && smB ChD.zero.p) = true → SmT x.p) := fun h => by
    rw [Bool.and_eq_true] at h
    exact SmT.lt h.1
  generalize (ltB x.p && smB ChD.zero.p) = b1 at *
  cases b1 with
  | false =>
    obtain ⟨c0, c1, c2, c3, c4, c5⟩ : w1.cell? ⟨w.heap.size, 0, none⟩ = some (.int .i64 x.id) ∧ w1.cell? ⟨w.heap.size, 1, none⟩ = some (.int .i64 x.st) ∧ w1.cell? ⟨w.heap.size, 2, none⟩ = some (.int .i64 x.f) ∧ w1.cell? ⟨w.heap.size, 3, none⟩ = some (.int .i64 x.l) ∧ w1.cell? ⟨w.heap.size, 4, none⟩ = some (.slice x.A x.n x.c) ∧ w1.cell? ⟨w.heap.size, 5, none⟩ = some (.slice x.B x.m x.d) := HB1.out.cells
    go_enter Try.func5, Try.ntmps5
    go_wp2_with fail
    refine (awake_ok w1).mono ?_
    rintro e w2 ⟨rfl, hm⟩
    have HM12 := Lib.hid hm
    have HM2 := Lib.hid (HM1.out.trans hm (fun _ _ h => h))
    have hz2 := hm.size
    have HB2 := Lib.hid (HB1.out.keep hm)
    have Kx2 := Lib.hid (Kx1.out.keep hm)
    clear hm hw1 c0 c1 c2 c3 c4 c5
    obtain ⟨c0, c1, c2, c3, c4, c5⟩ : w2.cell? ⟨w.heap.size, 0, none⟩ = some (.int .i64 x.id) ∧ w2.cell? ⟨w.heap.size, 1, none⟩ = some (.int .i64 x.st) ∧ w2.cell? ⟨w.heap.size, 2, none⟩ = some (.int .i64 x.f) ∧ w2.cell? ⟨w.heap.size, 3, none⟩ = some (.int .i64 x.l) ∧ w2.cell? ⟨w.heap.size, 4, none⟩ = some (.slice x.A x.n x.c) ∧ w2.cell? ⟨w.heap.size, 5, none⟩ = some (.slice x.B x.m x.d) := HB2.out.cells
    go_wp2_with fail
    refine (HLt.out _ HM12.out).mono ?_
    rintro e w3 ⟨rfl, hm⟩
    have HM3 := Lib.hid (HM2.out.trans hm (fun _ _ h => h))
    have hz3 := hm.size
    have HB3 := Lib.hid (HB2.out.keep hm)
    have Kx3 := Lib.hid (Kx2.out.keep hm)
    clear hm HM12 c0 c1 c2 c3 c4 c5
    obtain ⟨c0, c1, c2, c3, c4, c5⟩ : w3.cell? ⟨w.heap.size, 0, none⟩ = some (.int .i64 x.id) ∧ w3.cell? ⟨w.heap.size, 1, none⟩ = some (.int .i64 x.st) ∧ w3.cell? ⟨w.heap.size, 2, none⟩ = some (.int .i64 x.f) ∧ w3.cell? ⟨w.heap.size, 3, none⟩ = some (.int .i64 x.l) ∧ w3.cell? ⟨w.heap.size, 4, none⟩ = some (.slice x.A x.n x.c) ∧ w3.cell? ⟨w.heap.size, 5, none⟩ = some (.slice x.B x.m x.d) := HB3.out.cells
    go_wp2
    go_ret
    exact ⟨rfl, HM3.out.below (Nat.le_refl _) (fun _ _ h => h)⟩
  | true =>
  have Hsz := Lib.hid (Kx1.out.at_.sm (Hsm.out (by trivial)))
  clear Hsm
  have HMy := Lib.hid (fun V (hV : Mod (fun _ => False) w1 V) => may_ok V x (Kx1.out.keep hV).at_ Hsz.out.1 Hsz.out.2.1)
  by_cases k0 : (10 : Int) < (n : Int)
  · have e0 : decide ((10 : Int) < (n : Int)) = true := decide_eq_true k0
    have e0' : decide (10 < n) = true := decide_eq_true (by omega)
    clear k0
    obtain ⟨c0, c1, c2, c3, c4, c5⟩ : w1.cell? ⟨w.heap.size, 0, none⟩ = some (.int .i64 x.id) ∧ w1.cell? ⟨w.heap.size, 1, none⟩ = some (.int .i64 x.st) ∧ w1.cell? ⟨w.heap.size, 2, none⟩ = some (.int .i64 x.f) ∧ w1.cell? ⟨w.heap.size, 3, none⟩ = some (.int .i64 x.l) ∧ w1.cell? ⟨w.heap.size, 4, none⟩ = some (.slice x.A x.n x.c) ∧ w1.cell? ⟨w.heap.size, 5, none⟩ = some (.slice x.B x.m x.d) := HB1.out.cells
    go_enter Try.func5, Try.ntmps5
    go_wp2_with fail
    refine (awake_ok w1).mono ?_
    rintro e w2 ⟨rfl, hm⟩
    have HM12 := Lib.hid hm
    have HM2 := Lib.hid (HM1.out.trans hm (fun _ _ h => h))
    have hz2 := hm.size
    have HB2 := Lib.hid (HB1.out.keep hm)
    have Kx2 := Lib.hid (Kx1.out.keep hm)
    clear hm hw1 c0 c1 c2 c3 c4 c5
    obtain ⟨c0, c1, c2, c3, c4, c5⟩ : w2.cell? ⟨w.heap.size, 0, none⟩ = some (.int .i64 x.id) ∧ w2.cell? ⟨w.heap.size, 1, none⟩ = some (.int .i64 x.st) ∧ w2.cell? ⟨w.heap.size, 2, none⟩ = some (.int .i64 x.f) ∧ w2.cell? ⟨w.heap.size, 3, none⟩ = some (.int .i64 x.l) ∧ w2.cell? ⟨w.heap.size, 4, none⟩ = some (.slice x.A x.n x.c) ∧ w2.cell? ⟨w.heap.size, 5, none⟩ = some (.slice x.B x.m x.d) := HB2.out.cells
    go_wp2_with fail
    refine (HLt.out _ HM12.out).mono ?_
    rintro e w3 ⟨rfl, hm⟩
    have HM3 := Lib.hid (HM2.out.trans hm (fun _ _ h => h))
    have hz3 := hm.size
    have HB3 := Lib.hid (HB2.out.keep hm)
    have Kx3 := Lib.hid (Kx2.out.keep hm)
    clear hm HM12 c0 c1 c2 c3 c4 c5
    obtain ⟨c0, c1, c2, c3, c4, c5⟩ : w3.cell? ⟨w.heap.size, 0, none⟩ = some (.int .i64 x.id) ∧ w3.cell? ⟨w.heap.size, 1, none⟩ = some (.int .i64 x.st) ∧ w3.cell? ⟨w.heap.size, 2, none⟩ = some (.int .i64 x.f) ∧ w3.cell? ⟨w.heap.size, 3, none⟩ = some (.int .i64 x.l) ∧ w3.cell? ⟨w.heap.size, 4, none⟩ = some (.slice x.A x.n x.c) ∧ w3.cell? ⟨w.heap.size, 5, none⟩ = some (.slice x.B x.m x.d) := HB3.out.cells
    go_wp2
    go_ret
    exact ⟨rfl, HM3.out.below (Nat.le_refl _) (fun _ _ h => h)⟩
  have e0 : decide ((10 : Int) < (n : Int)) = false := decide_eq_false k0
  have e0' : decide (10 < n) = false := decide_eq_false (by omega)
  have hn10 : n ≤ 10 := by omega
  clear k0
  cases hb2 : mayT x.p with
  | false =>
    rw [hb2] at HMy
    clear hb2
    obtain ⟨c0, c1, c2, c3, c4, c5⟩ : w1.cell? ⟨w.heap.size, 0, none⟩ = some (.int .i64 x.id) ∧ w1.cell? ⟨w.heap.size, 1, none⟩ = some (.int .i64 x.st) ∧ w1.cell? ⟨w.heap.size, 2, none⟩ = some (.int .i64 x.f) ∧ w1.cell? ⟨w.heap.size, 3, none⟩ = some (.int .i64 x.l) ∧ w1.cell? ⟨w.heap.size, 4, none⟩ = some (.slice x.A x.n x.c) ∧ w1.cell? ⟨w.heap.size, 5, none⟩ = some (.slice x.B x.m x.d) := HB1.out.cells
    go_enter Try.func5, Try.ntmps5
    go_wp2_with fail
    refine (awake_ok w1).mono ?_
    rintro e w2 ⟨rfl, hm⟩
    have HM12 := Lib.hid hm
    have HM2 := Lib.hid (HM1.out.trans hm (fun _ _ h => h))
    have hz2 := hm.size
    have HB2 := Lib.hid (HB1.out.keep hm)
    have Kx2 := Lib.hid (Kx1.out.keep hm)
    clear hm hw1 c0 c1 c2 c3 c4 c5
    obtain ⟨c0, c1, c2, c3, c4, c5⟩ : w2.cell? ⟨w.heap.size, 0, none⟩ = some (.int .i64 x.id) ∧ w2.cell? ⟨w.heap.size, 1, none⟩ = some (.int .i64 x.st) ∧ w2.cell? ⟨w.heap.size, 2, none⟩ = some (.int .i64 x.f) ∧ w2.cell? ⟨w.heap.size, 3, none⟩ = some (.int .i64 x.l) ∧ w2.cell? ⟨w.heap.size, 4, none⟩ = some (.slice x.A x.n x.c) ∧ w2.cell? ⟨w.heap.size, 5, none⟩ = some (.slice x.B x.m x.d) := HB2.out.cells
    go_wp2_with fail
    refine (HLt.out _ HM12.out).mono ?_
    rintro e w3 ⟨rfl, hm⟩
    have HM13 := Lib.hid (HM12.out.trans hm (fun _ _ h => h))
    have HM3 := Lib.hid (HM2.out.trans hm (fun _ _ h => h))
    have hz3 := hm.size
    have HB3 := Lib.hid (HB2.out.keep hm)
    have Kx3 := Lib.hid (Kx2.out.keep hm)
    clear hm HM12 c0 c1 c2 c3 c4 c5
    obtain ⟨c0, c1, c2, c3, c4, c5⟩ : w3.cell? ⟨w.heap.size, 0, none⟩ = some (.int .i64 x.id) ∧ w3.cell? ⟨w.heap.size, 1, none⟩ = some (.int .i64 x.st) ∧ w3.cell? ⟨w.heap.size, 2, none⟩ = some (.int .i64 x.f) ∧ w3.cell? ⟨w.heap.size, 3, none⟩ = some (.int .i64 x.l) ∧ w3.cell? ⟨w.heap.size, 4, none⟩ = some (.slice x.A x.n x.c) ∧ w3.cell? ⟨w.heap.size, 5, none⟩ = some (.slice x.B x.m x.d) := HB3.out.cells
    go_wp2_with fail
    refine (HMy.out _ HM13.out).mono ?_
    rintro e w4 ⟨rfl, hm⟩
    have HM4 := Lib.hid (HM3.out.trans hm (fun _ _ h => h))
    have hz4 := hm.size
    have HB4 := Lib.hid (HB3.out.keep hm)
    have Kx4 := Lib.hid (Kx3.out.keep hm)
    clear hm HM13 c0 c1 c2 c3 c4 c5
    obtain ⟨c0, c1, c2, c3, c4, c5⟩ : w4.cell? ⟨w.heap.size, 0, none⟩ = some (.int .i64 x.id) ∧ w4.cell? ⟨w.heap.size, 1, none⟩ = some (.int .i64 x.st) ∧ w4.cell? ⟨w.heap.size, 2, none⟩ = some (.int .i64 x.f) ∧ w4.cell? ⟨w.heap.size, 3, none⟩ = some (.int .i64 x.l) ∧ w4.cell? ⟨w.heap.size, 4, none⟩ = some (.slice x.A x.n x.c) ∧ w4.cell? ⟨w.heap.size, 5, none⟩ = some (.slice x.B x.m x.d) := HB4.out.cells
    go_wp2
    go_ret
    exact ⟨rfl, HM4.out.below (Nat.le_refl _) (fun _ _ h => h)⟩
  | true =>
  rw [hb2] at HMy
  have Hm := Lib.hid hb2
  clear hb2
  obtain ⟨c0, c1, c2, c3, c4, c5⟩ : w1.cell? ⟨w.heap.size, 0, none⟩ = some (.int .i64 x.id) ∧ w1.cell? ⟨w.heap.size, 1, none⟩ = some (.int .i64 x.st) ∧ w1.cell? ⟨w.heap.size, 2, none⟩ = some (.int .i64 x.f) ∧ w1.cell? ⟨w.heap.size, 3, none⟩ = some (.int .i64 x.l) ∧ w1.cell? ⟨w.heap.size, 4, none⟩ = some (.slice x.A x.n x.c) ∧ w1.cell? ⟨w.heap.size, 5, none⟩ = some (.slice x.B x.m x.d) := HB1.out.cells
  go_enter Try.func5, Try.ntmps5
  go_wp2_with fail
  refine (awake_ok w1).mono ?_
  rintro e w2 ⟨rfl, hm⟩
  have HM12 := Lib.hid hm
  have HM2 := Lib.hid (HM1.out.trans hm (fun _ _ h => h))
  have hz2 := hm.size
  have HB2 := Lib.hid (HB1.out.keep hm)
  have Kx2 := Lib.hid (Kx1.out.keep hm)
  clear hm hw1 c0 c1 c2 c3 c4 c5
  obtain ⟨c0, c1, c2, c3, c4, c5⟩ : w2.cell? ⟨w.heap.size, 0, none⟩ = some (.int .i64 x.id) ∧ w2.cell? ⟨w.heap.size, 1, none⟩ = some (.int .i64 x.st) ∧ w2.cell? ⟨w.heap.size, 2, none⟩ = some (.int .i64 x.f) ∧ w2.cell? ⟨w.heap.size, 3, none⟩ = some (.int .i64 x.l) ∧ w2.cell? ⟨w.heap.size, 4, none⟩ = some (.slice x.A x.n x.c) ∧ w2.cell? ⟨w.heap.size, 5, none⟩ = some (.slice x.B x.m x.d) := HB2.out.cells
  go_wp2_with fail
  refine (HLt.out _ HM12.out).mono ?_
  rintro e w3 ⟨rfl, hm⟩
  have HM13 := Lib.hid (HM12.out.trans hm (fun _ _ h => h))
  have HM3 := Lib.hid (HM2.out.trans hm (fun _ _ h => h))
  have hz3 := hm.size
  have HB3 := Lib.hid (HB2.out.keep hm)
  have Kx3 := Lib.hid (Kx2.out.keep hm)
  clear hm HM12 c0 c1 c2 c3 c4 c5
  obtain ⟨c0, c1, c2, c3, c4, c5⟩ : w3.cell? ⟨w.heap.size, 0, none⟩ = some (.int .i64 x.id) ∧ w3.cell? ⟨w.heap.size, 1, none⟩ = some (.int .i64 x.st) ∧ w3.cell? ⟨w.heap.size, 2, none⟩ = some (.int .i64 x.f) ∧ w3.cell? ⟨w.heap.size, 3, none⟩ = some (.int .i64 x.l) ∧ w3.cell? ⟨w.heap.size, 4, none⟩ = some (.slice x.A x.n x.c) ∧ w3.cell? ⟨w.heap.size, 5, none⟩ = some (.slice x.B x.m x.d) := HB3.out.cells
  go_wp2_with fail
  refine (HMy.out _ HM13.out).mono ?_
  rintro e w4 ⟨rfl, hm⟩
  have HM4 := Lib.hid (HM3.out.trans hm (fun _ _ h => h))
  have hz4 := hm.size
  have HB4 := Lib.hid (HB3.out.keep hm)
  have Kx4 := Lib.hid (Kx3.out.keep hm)
  clear hm HM13 c0 c1 c2 c3 c4 c5
  obtain ⟨c0, c1, c2, c3, c4, c5⟩ : w4.cell? ⟨w.heap.size, 0, none⟩ = some (.int .i64 x.id) ∧ w4.cell? ⟨w.heap.size, 1, none⟩ = some (.int .i64 x.st) ∧ w4.cell? ⟨w.heap.size, 2, none⟩ = some (.int .i64 x.f) ∧ w4.cell? ⟨w.heap.size, 3, none⟩ = some (.int .i64 x.l) ∧ w4.cell? ⟨w.heap.size, 4, none⟩ = some (.slice x.A x.n x.c) ∧ w4.cell? ⟨w.heap.size, 5, none⟩ = some (.slice x.B x.m x.d) := HB4.out.cells
  obtain ⟨w5, hw5⟩ : ∃ w5, w4.alloc (.cells #[.int .i64 x.id, .int .i64 x.st, .int .i64 x.f, .int .i64 x.l, .slice x.A x.n x.c, .slice x.B x.m x.d] 25) = w5 := ⟨_, rfl⟩
  have ha5 : Mod (fun _ => False) w4 w5 := by rw [← hw5]; exact (Mod.refl _ w4).alloc _
  have hz5 : w4.heap.size + 1 ≤ w5.heap.size := by rw [← hw5]; simp
  have HU5 : Hid ((x : TxD).In w5 w4.heap.size) := by rw [← hw5]; exact TxD.In.new w4 x
  have HM5 := Lib.hid (HM4.out.trans ha5 (fun _ _ h => h))
  have HB5 := Lib.hid (HB4.out.keep ha5)
  have Kx5 := Lib.hid (Kx4.out.keep ha5)
  clear ha5
  have hgu : w.heap.size + 1 ≤ w4.heap.size := by omega
  have Hnx : Hid (x.n ≤ 6 ∧ x.m ≤ 4) := by
    have h1 := may_len Hm.out
    have h2 := Kx5.out.at_.nL
    have h3 := Kx5.out.at_.nS
    rw [h2, h3] at h1
    exact h1
  have Hln : Hid (x.p.L.length = x.n) := Kx5.out.at_.nL
  have hfr : BkFr w w5 x x w4.heap.size none 0 0 [] (pc []) := ⟨HM5.out, Kx5.out, HB5.out, Kx5.out, HU5.out, Hm.out, rfl, rfl, by simp [pc], rfl, OwN.nil _ _ _ _⟩
  have Hfr := Lib.hid hfr
  have Hdp : Hid (∃ N M, (∀ k, blkOf none = some k → k < N ∨ M ≤ k) ∧ (w4.heap.size < N ∨ M ≤ w4.heap.size) ∧ Dep N M w5 x) := ⟨0, w.heap.size, by simp [blkOf], by omega, (Dep.old Hx.out).still HM5.out⟩
  clear hfr HM2 HM3 HM4 HM5
  obtain ⟨c0, c1, c2, c3, c4, c5⟩ : w5.cell? ⟨w.heap.size, 0, none⟩ = some (.int .i64 x.id) ∧ w5.cell? ⟨w.heap.size, 1, none⟩ = some (.int .i64 x.st) ∧ w5.cell? ⟨w.heap.size, 2, none⟩ = some (.int .i64 x.f) ∧ w5.cell? ⟨w.heap.size, 3, none⟩ = some (.int .i64 x.l) ∧ w5.cell? ⟨w.heap.size, 4, none⟩ = some (.slice x.A x.n x.c) ∧ w5.cell? ⟨w.heap.size, 5, none⟩ = some (.slice x.B x.m x.d) := HB5.out.cells
  generalize hgU : w4.heap.size = gU at *
  go_wp2_with fail
  clear hgU e0 e0' hw5 c0 c1 c2 c3 c4 c5
  go_loopw [8, 9] (fun D k wr => ∃ (i : Nat) (u : TxD) (dA : Option Addr) (dn dc : Nat) (dl : List ChD), k = .int .i64 i ∧ D = .slice dA dn dc ∧ i ≤ n ∧ BkFr w wr x u gU dA dn dc dl (pc dl) ∧ (∃ N M, (∀ k, blkOf dA = some k → k < N ∨ M ≤ k) ∧ (gU < N ∨ M ≤ gU) ∧ Dep N M wr u) ∧ ∀ z ∈ dl, z.At w) (fun _ k _ => n - (intOf k).toNat)
  case atStart => exact ⟨0, x, none, 0, 0, [], rfl, rfl, by omega, Hfr.out, Hdp.out, by simp⟩
  case round =>
    obtain ⟨i, u, dA, dn, dc, dl, rfl, rfl, hi, hf, hdp, hda⟩ := hrel
    have HF := Lib.hid hf
    have HDp := Lib.hid hdp
    have Hda := Lib.hid hda
    clear hf hdp hda Hfr Hdp
    have HM20 := Lib.hid HF.out.old
    have HB20 := Lib.hid HF.out.bx
    have HU20 := Lib.hid HF.out.bu
    have Kx20 := Lib.hid HF.out.kx
    have Ku20 := Lib.hid HF.out.ku
    have Hmu := Lib.hid HF.out.may
    have hz20 : gU + 1 ≤ wr.heap.size := HF.out.bu.lt
    have Hnu := Lib.hid (HF.out.ku.at_.sm (SmT.may HF.out.may))
    have hdl : dl.length = dn := OwC.len HF.out.own
    have hdn : dn ≤ 6 := by have := bk_len HF.out.may HF.out.L; rw [pc_len] at this; omega
    have Hdl := Lib.hid hdl
    clear hdl
    by_cases hlt : i < n
    · obtain ⟨y, hy⟩ : ∃ y, l[i]? = some y := ⟨_, List.getElem?_eq_getElem (by rw [Hll.out]; exact hlt)⟩
      obtain ⟨b, o, hA, hcs⟩ := Hl.out.cells (by omega)
      have Hcw := Lib.hid (hcs i y hy)
      have Hyw := Lib.hid (Hl.out.ats y (List.mem_of_getElem? hy))
      have Hcy : Hid (y.Cells wr b (o + i * 7)) := Hcw.out.keep (HM20.out.block b Hcw.out.lt (fun h => h))
      have Hya := Lib.hid (Hyw.out.keep HM20.out)
      obtain ⟨s0, s1, s2, s3, s4, s5, s6⟩ := Hcy.out
      have l1 : i < c := by omega
      rw [hA]
      clear hcs hA hy
      by_cases k0 : (100 : Int) < (y.o.m : Int)
      · have e0 : decide ((100 : Int) < (y.o.m : Int)) = true := decide_eq_true k0
        have e0' : decide (100 < y.o.m) = true := decide_eq_true (by omega)
        clear k0
        go_wp2
        go_ret
        exact ⟨rfl, HM20.out.below (Nat.le_refl _) (fun _ _ h => h)⟩
      have e0 : decide ((100 : Int) < (y.o.m : Int)) = false := decide_eq_false k0
      have e0' : decide (100 < y.o.m) = false := decide_eq_false (by omega)
      by_cases k1 : (100 : Int) < (y.v.m : Int)
      · have e1 : decide ((100 : Int) < (y.v.m : Int)) = true := decide_eq_true k1
        have e1' : decide (100 < y.v.m) = true := decide_eq_true (by omega)
        clear k0 k1
        go_wp2
        go_ret
        exact ⟨rfl, HM20.out.below (Nat.le_refl _) (fun _ _ h => h)⟩
      have e1 : decide ((100 : Int) < (y.v.m : Int)) = false := decide_eq_false k1
      have e1' : decide (100 < y.v.m) = false := decide_eq_false (by omega)
      clear k0 k1
      obtain ⟨d0, d1, d2, d3, d4, d5⟩ : wr.cell? ⟨gU, 0, none⟩ = some (.int .i64 u.id) ∧ wr.cell? ⟨gU, 1, none⟩ = some (.int .i64 u.st) ∧ wr.cell? ⟨gU, 2, none⟩ = some (.int .i64 u.f) ∧ wr.cell? ⟨gU, 3, none⟩ = some (.int .i64 u.l) ∧ wr.cell? ⟨gU, 4, none⟩ = some (.slice u.A u.n u.c) ∧ wr.cell? ⟨gU, 5, none⟩ = some (.slice u.B u.m u.d) := HU20.out.cells
      have HSt : Hid (∀ V, Mod (fun _ => False) wr V → (V.cell? ⟨gU, 0, none⟩ = some (.int .i64 u.id) ∧ V.cell? ⟨gU, 1, none⟩ = some (.int .i64 u.st) ∧ V.cell? ⟨gU, 2, none⟩ = some (.int .i64 u.f) ∧ V.cell? ⟨gU, 3, none⟩ = some (.int .i64 u.l) ∧ V.cell? ⟨gU, 4, none⟩ = some (.slice u.A u.n u.c) ∧ V.cell? ⟨gU, 5, none⟩ = some (.slice u.B u.m u.d)) ∧ (V.cell? ⟨b, o + i * 7, none⟩ = some (.int .i64 y.lsn) ∧ V.cell? ⟨b, o + i * 7 + 1, none⟩ = some (.int .i64 y.page) ∧ V.cell? ⟨b, o + i * 7 + 2, none⟩ = some (.int .i64 y.key) ∧ V.cell? ⟨b, o + i * 7 + 3, none⟩ = some (.bool y.o.is) ∧ V.cell? ⟨b, o + i * 7 + 4, none⟩ = some (.slice y.o.B y.o.m y.o.d) ∧ V.cell? ⟨b, o + i * 7 + 5, none⟩ = some (.bool y.v.is) ∧ V.cell? ⟨b, o + i * 7 + 6, none⟩ = some (.slice y.v.B y.v.m y.v.d))) := fun V hV => by
        have q3 := Hcy.out.keep (hV.block b Hcy.out.lt (fun h => h))
        exact ⟨(HU20.out.keep hV).cells, q3.c0, q3.c1, q3.c2, q3.c3, q3.c4, q3.c5, q3.c6⟩
      have HNt := Lib.hid (fun V (hV : Mod (fun _ => False) wr V) => (note_ok V u y (Ku20.out.keep hV).at_ (Hya.out.keep hV) Hnu.out.1 Hnu.out.2.1).mono (fun e w' h => NwAns.dn (b0 := w.heap.size) h))
      obtain ⟨v0, hv0⟩ : ∃ v0, wr.drew = v0 := ⟨_, rfl⟩
      have N0 : Hid (Mod (fun _ => False) wr v0) := by rw [← hv0]; exact (Mod.refl _ wr).drew
      have HV0 := Lib.hid hv0
      clear hv0
      go_upto_region 12 with fail
      go_cut [10, 11] from 39 to 81 (fun p E wx => ∃ (q : TxD) (gQ : Nat), p = .pointer (some ⟨gQ, 0, none⟩) ∧ E = .int .i64 (noteE u.p y.p) ∧ wr.heap.size ≤ gQ ∧ q.In wx gQ ∧ Kp w.heap.size wx q ∧ q.p = (if noteE u.p y.p = 0 then noteT u.p y.p else noT) ∧ Mod (fun _ => False) wr wx ∧ ∃ N M, wr.heap.size ≤ N ∧ M ≤ wx.heap.size ∧ Dep N M wx q)
      case first =>
        refine wp_region_held (S := (fun V : World => (V.cell? ⟨gU, 0, none⟩ = some (.int .i64 u.id) ∧ V.cell? ⟨gU, 1, none⟩ = some (.int .i64 u.st) ∧ V.cell? ⟨gU, 2, none⟩ = some (.int .i64 u.f) ∧ V.cell? ⟨gU, 3, none⟩ = some (.int .i64 u.l) ∧ V.cell? ⟨gU, 4, none⟩ = some (.slice u.A u.n u.c) ∧ V.cell? ⟨gU, 5, none⟩ = some (.slice u.B u.m u.d)) ∧ (V.cell? ⟨b, o + i * 7, none⟩ = some (.int .i64 y.lsn) ∧ V.cell? ⟨b, o + i * 7 + 1, none⟩ = some (.int .i64 y.page) ∧ V.cell? ⟨b, o + i * 7 + 2, none⟩ = some (.int .i64 y.key) ∧ V.cell? ⟨b, o + i * 7 + 3, none⟩ = some (.bool y.o.is) ∧ V.cell? ⟨b, o + i * 7 + 4, none⟩ = some (.slice y.o.B y.o.m y.o.d) ∧ V.cell? ⟨b, o + i * 7 + 5, none⟩ = some (.bool y.v.is) ∧ V.cell? ⟨b, o + i * 7 + 6, none⟩ = some (.slice y.v.B y.v.m y.v.d)))) (by kernel_rfl) ?_
        change wpAnyH _ _ _ _ _ _ _ _ wr.drew
        rw [HV0.out]
        have hI := (show (fun V : World => (V.cell? ⟨gU, 0, none⟩ = some (.int .i64 u.id) ∧ V.cell? ⟨gU, 1, none⟩ = some (.int .i64 u.st) ∧ V.cell? ⟨gU, 2, none⟩ = some (.int .i64 u.f) ∧ V.cell? ⟨gU, 3, none⟩ = some (.int .i64 u.l) ∧ V.cell? ⟨gU, 4, none⟩ = some (.slice u.A u.n u.c) ∧ V.cell? ⟨gU, 5, none⟩ = some (.slice u.B u.m u.d)) ∧ (V.cell? ⟨b, o + i * 7, none⟩ = some (.int .i64 y.lsn) ∧ V.cell? ⟨b, o + i * 7 + 1, none⟩ = some (.int .i64 y.page) ∧ V.cell? ⟨b, o + i * 7 + 2, none⟩ = some (.int .i64 y.key) ∧ V.cell? ⟨b, o + i * 7 + 3, none⟩ = some (.bool y.o.is) ∧ V.cell? ⟨b, o + i * 7 + 4, none⟩ = some (.slice y.o.B y.o.m y.o.d) ∧ V.cell? ⟨b, o + i * 7 + 5, none⟩ = some (.bool y.v.is) ∧ V.cell? ⟨b, o + i * 7 + 6, none⟩ = some (.slice y.v.B y.v.m y.v.d))) _ from HSt.out _ N0.out)
        refine rg_take (n := 11) (v := ?_) 0 (some 64) rfl rfl (by kernel_rfl) (by kernel_rfl) (by kernel_rfl) (fun _ _ _ h => h) (by rfl) hI ?_ ?_
        rotate_left
        · ((intro w hSw; (try dsimp only at hSw); go_simp); (try with_reducible rfl))
        try simp only [Act.put, List.setIfInBounds_toArray, List.set_cons_zero, List.set_cons_succ]
        refine rg_take (n := 10) (v := ?_) 1 (some 65) rfl rfl (by kernel_rfl) (by kernel_rfl) (by kernel_rfl) (fun _ _ _ h => h) (by rfl) hI ?_ ?_
        rotate_left
        · ((intro w hSw; (try dsimp only at hSw); go_simp); (try with_reducible rfl))
        try simp only [Act.put, List.setIfInBounds_toArray, List.set_cons_zero, List.set_cons_succ]
        refine rg_take (n := 9) (v := ?_) 2 (some 66) rfl rfl (by kernel_rfl) (by kernel_rfl) (by kernel_rfl) (fun _ _ _ h => h) (by rfl) hI ?_ ?_
        rotate_left
        · ((intro w hSw; (try dsimp only at hSw); go_simp); (try with_reducible rfl))
        try simp only [Act.put, List.setIfInBounds_toArray, List.set_cons_zero, List.set_cons_succ]
        refine rg_take (n := 8) (v := ?_) 3 (some 67) rfl rfl (by kernel_rfl) (by kernel_rfl) (by kernel_rfl) (fun _ _ _ h => h) (by rfl) hI ?_ ?_
        rotate_left
        · ((intro w hSw; (try dsimp only at hSw); go_simp); (try with_reducible rfl))
        try simp only [Act.put, List.setIfInBounds_toArray, List.set_cons_zero, List.set_cons_succ]
        refine rg_take (n := 7) (v := ?_) 4 (some 68) rfl rfl (by kernel_rfl) (by kernel_rfl) (by kernel_rfl) (fun _ _ _ h => h) (by rfl) hI ?_ ?_
        rotate_left
        · ((intro w hSw; (try dsimp only at hSw); go_simp); (try with_reducible rfl))
        try simp only [Act.put, List.setIfInBounds_toArray, List.set_cons_zero, List.set_cons_succ]
        refine rg_two (n := 6) 5 9 rfl rfl (by kernel_rfl) (by rfl) (by rfl) ?_ ?_
        · go_simp
          go_at_call 12
          refine (HNt.out _ N0.out).mono ?_
          rintro e v1 ⟨q, rfl, hk, hp, hm, hd⟩
          have HDp := Lib.hid hd
          clear hd
          have N1 := Lib.hid (N0.out.trans hm (fun _ _ h => h))
          have HK := Lib.hid hk
          have HP := Lib.hid hp
          clear hk hp hm hI
          have hI := (show (fun V : World => (V.cell? ⟨gU, 0, none⟩ = some (.int .i64 u.id) ∧ V.cell? ⟨gU, 1, none⟩ = some (.int .i64 u.st) ∧ V.cell? ⟨gU, 2, none⟩ = some (.int .i64 u.f) ∧ V.cell? ⟨gU, 3, none⟩ = some (.int .i64 u.l) ∧ V.cell? ⟨gU, 4, none⟩ = some (.slice u.A u.n u.c) ∧ V.cell? ⟨gU, 5, none⟩ = some (.slice u.B u.m u.d)) ∧ (V.cell? ⟨b, o + i * 7, none⟩ = some (.int .i64 y.lsn) ∧ V.cell? ⟨b, o + i * 7 + 1, none⟩ = some (.int .i64 y.page) ∧ V.cell? ⟨b, o + i * 7 + 2, none⟩ = some (.int .i64 y.key) ∧ V.cell? ⟨b, o + i * 7 + 3, none⟩ = some (.bool y.o.is) ∧ V.cell? ⟨b, o + i * 7 + 4, none⟩ = some (.slice y.o.B y.o.m y.o.d) ∧ V.cell? ⟨b, o + i * 7 + 5, none⟩ = some (.bool y.v.is) ∧ V.cell? ⟨b, o + i * 7 + 6, none⟩ = some (.slice y.v.B y.v.m y.v.d))) _ from HSt.out _ N1.out)
          refine ⟨hI, ?_⟩
          try simp only [Act.put, List.setIfInBounds_toArray, List.set_cons_zero, List.set_cons_succ]
          refine rg_take (n := 5) (v := ?_) 6 (some 63) rfl rfl (by kernel_rfl) (by kernel_rfl) (by kernel_rfl) (fun _ _ _ h => h) (by rfl) hI ?_ ?_
          rotate_left
          · ((intro w hSw; (try dsimp only at hSw); go_simp); (try with_reducible rfl))
          try simp only [Act.put, List.setIfInBounds_toArray, List.set_cons_zero, List.set_cons_succ]
          refine rg_take (n := 4) (v := ?_) 7 (some 70) rfl rfl (by kernel_rfl) (by kernel_rfl) (by kernel_rfl) (fun _ _ _ h => h) (by rfl) hI ?_ ?_
          rotate_left
          · ((intro w hSw; (try dsimp only at hSw); go_simp); (try with_reducible rfl))
          try simp only [Act.put, List.setIfInBounds_toArray, List.set_cons_zero, List.set_cons_succ]
          refine rg_take (n := 3) (v := ?_) 8 (some 71) rfl rfl (by kernel_rfl) (by kernel_rfl) (by kernel_rfl) (fun _ _ _ h => h) (by rfl) hI ?_ ?_
          rotate_left
          · ((intro w hSw; (try dsimp only at hSw); go_simp); (try with_reducible rfl))
          try simp only [Act.put, List.setIfInBounds_toArray, List.set_cons_zero, List.set_cons_succ]
          obtain ⟨v2, hv2⟩ : ∃ v2, v1.alloc (.cells #[.int .i64 0, .int .i64 0, .int .i64 0, .int .i64 0, .slice none 0 0, .slice none 0 0] 25) = v2 := ⟨_, rfl⟩
          have ha2 : Mod (fun _ => False) v1 v2 := by rw [← hv2]; exact (Mod.refl _ v1).alloc _
          have hi2 : TxD.zero.In v2 v1.heap.size := by rw [← hv2]; exact TxD.In.new v1 TxD.zero
          have N2 := Lib.hid (N1.out.trans ha2 (fun _ _ h => h))
          have hz2 : wr.heap.size ≤ v1.heap.size := N1.out.size
          refine rg_one (n := 2) 9 rfl (by kernel_rfl) (by rfl) ?_
          go_simp
          clear hI
          have hI := (show (fun V : World => (V.cell? ⟨gU, 0, none⟩ = some (.int .i64 u.id) ∧ V.cell? ⟨gU, 1, none⟩ = some (.int .i64 u.st) ∧ V.cell? ⟨gU, 2, none⟩ = some (.int .i64 u.f) ∧ V.cell? ⟨gU, 3, none⟩ = some (.int .i64 u.l) ∧ V.cell? ⟨gU, 4, none⟩ = some (.slice u.A u.n u.c) ∧ V.cell? ⟨gU, 5, none⟩ = some (.slice u.B u.m u.d)) ∧ (V.cell? ⟨b, o + i * 7, none⟩ = some (.int .i64 y.lsn) ∧ V.cell? ⟨b, o + i * 7 + 1, none⟩ = some (.int .i64 y.page) ∧ V.cell? ⟨b, o + i * 7 + 2, none⟩ = some (.int .i64 y.key) ∧ V.cell? ⟨b, o + i * 7 + 3, none⟩ = some (.bool y.o.is) ∧ V.cell? ⟨b, o + i * 7 + 4, none⟩ = some (.slice y.o.B y.o.m y.o.d) ∧ V.cell? ⟨b, o + i * 7 + 5, none⟩ = some (.bool y.v.is) ∧ V.cell? ⟨b, o + i * 7 + 6, none⟩ = some (.slice y.v.B y.v.m y.v.d))) _ from HSt.out _ N2.out)
          refine ⟨hI, ?_⟩
          try simp only [Act.put, List.setIfInBounds_toArray, List.set_cons_zero, List.set_cons_succ]
          have hz0 := hi2
          have g0 := hz0.fz 0
          have g1 := hz0.fz 1
          have g2 := hz0.fz 2
          have g3 := hz0.fz 3
          have g4 := hz0.fz 4
          have g5 := hz0.fz 5
          obtain ⟨r0, r1, r2, r3, r4, r5⟩ : v2.cell? ⟨v1.heap.size, 0, none⟩ = some (.int .i64 0) ∧ v2.cell? ⟨v1.heap.size, 1, none⟩ = some (.int .i64 0) ∧ v2.cell? ⟨v1.heap.size, 2, none⟩ = some (.int .i64 0) ∧ v2.cell? ⟨v1.heap.size, 3, none⟩ = some (.int .i64 0) ∧ v2.cell? ⟨v1.heap.size, 4, none⟩ = some (.slice none 0 0) ∧ v2.cell? ⟨v1.heap.size, 5, none⟩ = some (.slice none 0 0) := hz0.cells
          obtain ⟨v3, hv3⟩ : ∃ v3, (((((v2.setCell ⟨v1.heap.size, 0, none⟩ (.int .i64 q.id)).setCell ⟨v1.heap.size, 1, none⟩ (.int .i64 q.st)).setCell ⟨v1.heap.size, 2, none⟩ (.int .i64 q.f)).setCell ⟨v1.heap.size, 3, none⟩ (.int .i64 q.l)).setCell ⟨v1.heap.size, 4, none⟩ (.slice q.A q.n q.c)).setCell ⟨v1.heap.size, 5, none⟩ (.slice q.B q.m q.d) = v3 := ⟨_, rfl⟩
          have hq0 : stT v2 (v1.heap.size) q = v3 := hv3
          have hs0 : Mod (fun k => k = v1.heap.size) v2 v3 := by rw [← hq0]; exact stT_mod _ _ q
          have HQ : Hid (q.In v3 (v1.heap.size)) := by rw [← hq0]; exact hz0.set q
          have NZ : Hid (Mod (fun _ => False) wr v3) := N2.out.trans hs0 (fun k hk e => by omega)
          have hm3 : Mod (fun _ => False) v1 v3 := ha2.trans hs0 (fun k hk e => by omega)
          have HDZ : Hid (∃ N M, wr.heap.size ≤ N ∧ M ≤ v3.heap.size ∧ Dep N M v3 q) := ⟨v0.heap.size, v1.heap.size, N0.out.size, hm3.size, HDp.out.still hm3⟩
          have HKZ := Lib.hid (HK.out.keep hm3)
          have Hge := Lib.hid hz2
          clear hz0 hq0 hs0 ha2 hi2 hm3 hz2
          refine rg_one (n := 1) 10 rfl (by kernel_rfl) (by rfl) ?_
          go_simp
          clear hI
          have hI := (show (fun V : World => (V.cell? ⟨gU, 0, none⟩ = some (.int .i64 u.id) ∧ V.cell? ⟨gU, 1, none⟩ = some (.int .i64 u.st) ∧ V.cell? ⟨gU, 2, none⟩ = some (.int .i64 u.f) ∧ V.cell? ⟨gU, 3, none⟩ = some (.int .i64 u.l) ∧ V.cell? ⟨gU, 4, none⟩ = some (.slice u.A u.n u.c) ∧ V.cell? ⟨gU, 5, none⟩ = some (.slice u.B u.m u.d)) ∧ (V.cell? ⟨b, o + i * 7, none⟩ = some (.int .i64 y.lsn) ∧ V.cell? ⟨b, o + i * 7 + 1, none⟩ = some (.int .i64 y.page) ∧ V.cell? ⟨b, o + i * 7 + 2, none⟩ = some (.int .i64 y.key) ∧ V.cell? ⟨b, o + i * 7 + 3, none⟩ = some (.bool y.o.is) ∧ V.cell? ⟨b, o + i * 7 + 4, none⟩ = some (.slice y.o.B y.o.m y.o.d) ∧ V.cell? ⟨b, o + i * 7 + 5, none⟩ = some (.bool y.v.is) ∧ V.cell? ⟨b, o + i * 7 + 6, none⟩ = some (.slice y.v.B y.v.m y.v.d))) _ from HSt.out _ NZ.out)
          refine ⟨hI, ?_⟩
          try simp only [Act.put]
          refine rg_take (n := 0) (v := ?_) 11 (some 11) rfl rfl (by kernel_rfl) (by kernel_rfl) (by kernel_rfl) (fun _ _ _ h => h) (by rfl) hI ?_ ?_
          rotate_left
          · ((intro w hSw; (try dsimp only at hSw); go_simp); (try with_reducible rfl))
          try simp only [Act.put, List.setIfInBounds_toArray, List.set_cons_zero, List.set_cons_succ]
          refine wpAnyH_done (by kernel_rfl) ?_ _
          clear hI
          go_wp2_with fail
          go_meet
          exact ⟨q, v1.heap.size, rfl, rfl, Hge.out, HQ.out, HKZ.out, HP.out, NZ.out, HDZ.out⟩
        · obtain ⟨v1, hv1⟩ : ∃ v1, v0.alloc (.cells #[.int .i64 0, .int .i64 0, .int .i64 0, .int .i64 0, .slice none 0 0, .slice none 0 0] 25) = v1 := ⟨_, rfl⟩
          have ha1 : Mod (fun _ => False) v0 v1 := by rw [← hv1]; exact (Mod.refl _ v0).alloc _
          have HI1 : Hid (TxD.zero.In v1 v0.heap.size) := by rw [← hv1]; exact TxD.In.new v0 TxD.zero
          have N1 := Lib.hid (N0.out.trans ha1 (fun _ _ h => h))
          have Hlt : Hid (v0.heap.size < v1.heap.size) := HI1.out.lt
          clear ha1
          go_simp
          clear hI
          have hI := (show (fun V : World => (V.cell? ⟨gU, 0, none⟩ = some (.int .i64 u.id) ∧ V.cell? ⟨gU, 1, none⟩ = some (.int .i64 u.st) ∧ V.cell? ⟨gU, 2, none⟩ = some (.int .i64 u.f) ∧ V.cell? ⟨gU, 3, none⟩ = some (.int .i64 u.l) ∧ V.cell? ⟨gU, 4, none⟩ = some (.slice u.A u.n u.c) ∧ V.cell? ⟨gU, 5, none⟩ = some (.slice u.B u.m u.d)) ∧ (V.cell? ⟨b, o + i * 7, none⟩ = some (.int .i64 y.lsn) ∧ V.cell? ⟨b, o + i * 7 + 1, none⟩ = some (.int .i64 y.page) ∧ V.cell? ⟨b, o + i * 7 + 2, none⟩ = some (.int .i64 y.key) ∧ V.cell? ⟨b, o + i * 7 + 3, none⟩ = some (.bool y.o.is) ∧ V.cell? ⟨b, o + i * 7 + 4, none⟩ = some (.slice y.o.B y.o.m y.o.d) ∧ V.cell? ⟨b, o + i * 7 + 5, none⟩ = some (.bool y.v.is) ∧ V.cell? ⟨b, o + i * 7 + 6, none⟩ = some (.slice y.v.B y.v.m y.v.d))) _ from HSt.out _ N1.out)
          refine ⟨hI, ?_⟩
          try simp only [Act.put, List.setIfInBounds_toArray, List.set_cons_zero, List.set_cons_succ]
          refine rg_one (n := 5) 5 rfl (by kernel_rfl) (by rfl) ?_
          go_simp
          go_at_call 12
          refine (HNt.out _ N1.out).mono ?_
          rintro e v2 ⟨q, rfl, hk, hp, hm, hd⟩
          have HDp := Lib.hid hd
          clear hd
          have N2 := Lib.hid (N1.out.trans hm (fun _ _ h => h))
          have HK := Lib.hid hk
          have HP := Lib.hid hp
          have HI2 := Lib.hid (HI1.out.keep hm)
          have Hmm := Lib.hid hm
          clear hk hp hm hI hv1
          have hI := (show (fun V : World => (V.cell? ⟨gU, 0, none⟩ = some (.int .i64 u.id) ∧ V.cell? ⟨gU, 1, none⟩ = some (.int .i64 u.st) ∧ V.cell? ⟨gU, 2, none⟩ = some (.int .i64 u.f) ∧ V.cell? ⟨gU, 3, none⟩ = some (.int .i64 u.l) ∧ V.cell? ⟨gU, 4, none⟩ = some (.slice u.A u.n u.c) ∧ V.cell? ⟨gU, 5, none⟩ = some (.slice u.B u.m u.d)) ∧ (V.cell? ⟨b, o + i * 7, none⟩ = some (.int .i64 y.lsn) ∧ V.cell? ⟨b, o + i * 7 + 1, none⟩ = some (.int .i64 y.page) ∧ V.cell? ⟨b, o + i * 7 + 2, none⟩ = some (.int .i64 y.key) ∧ V.cell? ⟨b, o + i * 7 + 3, none⟩ = some (.bool y.o.is) ∧ V.cell? ⟨b, o + i * 7 + 4, none⟩ = some (.slice y.o.B y.o.m y.o.d) ∧ V.cell? ⟨b, o + i * 7 + 5, none⟩ = some (.bool y.v.is) ∧ V.cell? ⟨b, o + i * 7 + 6, none⟩ = some (.slice y.v.B y.v.m y.v.d))) _ from HSt.out _ N2.out)
          refine ⟨hI, ?_⟩
          try simp only [Act.put, List.setIfInBounds_toArray, List.set_cons_zero, List.set_cons_succ]
          refine rg_take (n := 4) (v := ?_) 6 (some 63) rfl rfl (by kernel_rfl) (by kernel_rfl) (by kernel_rfl) (fun _ _ _ h => h) (by rfl) hI ?_ ?_
          rotate_left
          · ((intro w hSw; (try dsimp only at hSw); go_simp); (try with_reducible rfl))
          try simp only [Act.put, List.setIfInBounds_toArray, List.set_cons_zero, List.set_cons_succ]
          refine rg_take (n := 3) (v := ?_) 7 (some 70) rfl rfl (by kernel_rfl) (by kernel_rfl) (by kernel_rfl) (fun _ _ _ h => h) (by rfl) hI ?_ ?_
          rotate_left
          · ((intro w hSw; (try dsimp only at hSw); go_simp); (try with_reducible rfl))
          try simp only [Act.put, List.setIfInBounds_toArray, List.set_cons_zero, List.set_cons_succ]
          refine rg_take (n := 2) (v := ?_) 8 (some 71) rfl rfl (by kernel_rfl) (by kernel_rfl) (by kernel_rfl) (fun _ _ _ h => h) (by rfl) hI ?_ ?_
          rotate_left
          · ((intro w hSw; (try dsimp only at hSw); go_simp); (try with_reducible rfl))
          try simp only [Act.put, List.setIfInBounds_toArray, List.set_cons_zero, List.set_cons_succ]
          have hz0 := HI2.out
          have g0 := hz0.fz 0
          have g1 := hz0.fz 1
          have g2 := hz0.fz 2
          have g3 := hz0.fz 3
          have g4 := hz0.fz 4
          have g5 := hz0.fz 5
          obtain ⟨r0, r1, r2, r3, r4, r5⟩ : v2.cell? ⟨v0.heap.size, 0, none⟩ = some (.int .i64 0) ∧ v2.cell? ⟨v0.heap.size, 1, none⟩ = some (.int .i64 0) ∧ v2.cell? ⟨v0.heap.size, 2, none⟩ = some (.int .i64 0) ∧ v2.cell? ⟨v0.heap.size, 3, none⟩ = some (.int .i64 0) ∧ v2.cell? ⟨v0.heap.size, 4, none⟩ = some (.slice none 0 0) ∧ v2.cell? ⟨v0.heap.size, 5, none⟩ = some (.slice none 0 0) := hz0.cells
          obtain ⟨v3, hv3⟩ : ∃ v3, (((((v2.setCell ⟨v0.heap.size, 0, none⟩ (.int .i64 q.id)).setCell ⟨v0.heap.size, 1, none⟩ (.int .i64 q.st)).setCell ⟨v0.heap.size, 2, none⟩ (.int .i64 q.f)).setCell ⟨v0.heap.size, 3, none⟩ (.int .i64 q.l)).setCell ⟨v0.heap.size, 4, none⟩ (.slice q.A q.n q.c)).setCell ⟨v0.heap.size, 5, none⟩ (.slice q.B q.m q.d) = v3 := ⟨_, rfl⟩
          have hq0 : stT v2 (v0.heap.size) q = v3 := hv3
          have hs0 : Mod (fun k => k = v0.heap.size) v2 v3 := by rw [← hq0]; exact stT_mod _ _ q
          have HQ : Hid (q.In v3 (v0.heap.size)) := by rw [← hq0]; exact hz0.set q
          have hge : wr.heap.size ≤ v0.heap.size := N0.out.size
          have NZ : Hid (Mod (fun _ => False) wr v3) := N2.out.trans hs0 (fun k hk e => by omega)
          have HKZ := Lib.hid (HK.out.box HI2.out (by have := HM20.out.size; omega) hs0)
          have Hge := Lib.hid hge
          have HDZ : Hid (∃ N M, wr.heap.size ≤ N ∧ M ≤ v3.heap.size ∧ Dep N M v3 q) := ⟨v1.heap.size, v2.heap.size, N1.out.size, hs0.size, HDp.out.keep hs0 (fun k hk => .inl (by have := Hlt.out; omega))⟩
          clear hz0 hq0 hs0 hge
          refine rg_one (n := 1) 10 rfl (by kernel_rfl) (by rfl) ?_
          go_simp
          clear hI
          have hI := (show (fun V : World => (V.cell? ⟨gU, 0, none⟩ = some (.int .i64 u.id) ∧ V.cell? ⟨gU, 1, none⟩ = some (.int .i64 u.st) ∧ V.cell? ⟨gU, 2, none⟩ = some (.int .i64 u.f) ∧ V.cell? ⟨gU, 3, none⟩ = some (.int .i64 u.l) ∧ V.cell? ⟨gU, 4, none⟩ = some (.slice u.A u.n u.c) ∧ V.cell? ⟨gU, 5, none⟩ = some (.slice u.B u.m u.d)) ∧ (V.cell? ⟨b, o + i * 7, none⟩ = some (.int .i64 y.lsn) ∧ V.cell? ⟨b, o + i * 7 + 1, none⟩ = some (.int .i64 y.page) ∧ V.cell? ⟨b, o + i * 7 + 2, none⟩ = some (.int .i64 y.key) ∧ V.cell? ⟨b, o + i * 7 + 3, none⟩ = some (.bool y.o.is) ∧ V.cell? ⟨b, o + i * 7 + 4, none⟩ = some (.slice y.o.B y.o.m y.o.d) ∧ V.cell? ⟨b, o + i * 7 + 5, none⟩ = some (.bool y.v.is) ∧ V.cell? ⟨b, o + i * 7 + 6, none⟩ = some (.slice y.v.B y.v.m y.v.d))) _ from HSt.out _ NZ.out)
          refine ⟨hI, ?_⟩
          try simp only [Act.put]
          refine rg_take (n := 0) (v := ?_) 11 (some 11) rfl rfl (by kernel_rfl) (by kernel_rfl) (by kernel_rfl) (fun _ _ _ h => h) (by rfl) hI ?_ ?_
          rotate_left
          · ((intro w hSw; (try dsimp only at hSw); go_simp); (try with_reducible rfl))
          try simp only [Act.put, List.setIfInBounds_toArray, List.set_cons_zero, List.set_cons_succ]
          refine wpAnyH_done (by kernel_rfl) ?_ _
          clear hI
          go_wp2_with fail
          go_meet
          exact ⟨q, v0.heap.size, rfl, rfl, Hge.out, HQ.out, HKZ.out, HP.out, NZ.out, HDZ.out⟩
      case rest =>
      obtain ⟨q, gQ, rfl, rfl, hgQ, hqin, hqk, hqp, hqm, hqd⟩ := hcut
      have HQp := Lib.hid hqp
      clear hqp HNt HSt HV0 N0
      have HM21 := Lib.hid (HM20.out.trans hqm (fun _ _ h => h))
      have hz21 := hqm.size
      have HB21 := Lib.hid (HB20.out.keep hqm)
      have HU21 := Lib.hid (HU20.out.keep hqm)
      have HQ21 := Lib.hid hqin
      have Kx21 := Lib.hid (Kx20.out.keep hqm)
      have Ku21 := Lib.hid (Ku20.out.keep hqm)
      have Kq21 := Lib.hid hqk
      have hzq : gQ + 1 ≤ wc.heap.size := hqin.lt
      have HO21 : Hid (OwC wc w.heap.size dA dn dc dl) := OwN.mod HF.out.own hqm (fun _ _ h => h)
      have Hlow : Hid (∀ k, blkOf dA = some k → w.heap.size ≤ k ∧ k < wr.heap.size) := OwN.lt HF.out.own
      have Hqd := Lib.hid hqd
      have Hqm := Lib.hid hqm
      clear hqin hqk hqd hqm s0 s1 s2 s3 s4 s5 s6 e0 e1 e0' e1' d0 d1 d2 d3 d4 d5
      by_cases hF : noteE u.p y.p = 0
      · have Hnt := Lib.hid hF
        clear hF
        have Pq : Hid (q.p = noteT u.p y.p) := by show _ = _; have := HQp.out; rw [Hnt.out] at this; rwa [if_pos rfl] at this
        rw [Hnt.out]
        have hmq : mayT q.p = true := by rw [Pq.out]; exact note_may Hnt.out
        have hLq : q.p.L = x.p.L ++ pc (dl ++ [y]) := by rw [Pq.out, pc, List.map_append, ← List.append_assoc]; show u.p.L ++ [y.p] = _; rw [HF.out.L]; rfl
        have hSq : q.p.S = x.p.S := by rw [Pq.out, ← HF.out.S]; rfl
        have hiq : q.p.id = x.p.id ∧ q.p.st = x.p.st := by rw [Pq.out]; exact ⟨HF.out.id, HF.out.st⟩
        have Hmq := Lib.hid hmq
        have HLq := Lib.hid hLq
        have HSq := Lib.hid hSq
        have Hiq := Lib.hid hiq
        obtain ⟨N, M, hN, hM, hD⟩ := Hqd.out
        have HDq := Lib.hid hD
        clear hmq hLq hSq hiq hD
        obtain ⟨c0, c1, c2, c3, c4, c5⟩ : wc.cell? ⟨gQ, 0, none⟩ = some (.int .i64 q.id) ∧ wc.cell? ⟨gQ, 1, none⟩ = some (.int .i64 q.st) ∧ wc.cell? ⟨gQ, 2, none⟩ = some (.int .i64 q.f) ∧ wc.cell? ⟨gQ, 3, none⟩ = some (.int .i64 q.l) ∧ wc.cell? ⟨gQ, 4, none⟩ = some (.slice q.A q.n q.c) ∧ wc.cell? ⟨gQ, 5, none⟩ = some (.slice q.B q.m q.d) := HQ21.out.cells
        have f0 := HU21.out.fz 0
        have f1 := HU21.out.fz 1
        have f2 := HU21.out.fz 2
        have f3 := HU21.out.fz 3
        have f4 := HU21.out.fz 4
        have f5 := HU21.out.fz 5
        obtain ⟨d0, d1, d2, d3, d4, d5⟩ : wc.cell? ⟨gU, 0, none⟩ = some (.int .i64 u.id) ∧ wc.cell? ⟨gU, 1, none⟩ = some (.int .i64 u.st) ∧ wc.cell? ⟨gU, 2, none⟩ = some (.int .i64 u.f) ∧ wc.cell? ⟨gU, 3, none⟩ = some (.int .i64 u.l) ∧ wc.cell? ⟨gU, 4, none⟩ = some (.slice u.A u.n u.c) ∧ wc.cell? ⟨gU, 5, none⟩ = some (.slice u.B u.m u.d) := HU21.out.cells
        obtain ⟨w22, hw22⟩ : ∃ w22, (((((wc.setCell ⟨gU, 0, none⟩ (.int .i64 q.id)).setCell ⟨gU, 1, none⟩ (.int .i64 q.st)).setCell ⟨gU, 2, none⟩ (.int .i64 q.f)).setCell ⟨gU, 3, none⟩ (.int .i64 q.l)).setCell ⟨gU, 4, none⟩ (.slice q.A q.n q.c)).setCell ⟨gU, 5, none⟩ (.slice q.B q.m q.d) = w22 := ⟨_, rfl⟩
        have hq22 : stT wc (gU) q = w22 := hw22
        have hs22 : Mod (fun k => k = gU) wc w22 := by rw [← hq22]; exact stT_mod wc (gU) q
        have HM22 : Hid (Mod (fun _ => False) w w22) := HM21.out.trans hs22 (fun k _ e => by omega)
        have hz22 := hs22.size
        have HB22 := Lib.hid (HB21.out.mod hs22 (fun e => by omega))
        have HQ22 := Lib.hid (HQ21.out.mod hs22 (fun e => by omega))
        have Kx22 := Lib.hid (Kx21.out.box HU21.out (by omega) hs22)
        have Ku22 := Lib.hid (Ku21.out.box HU21.out (by omega) hs22)
        have Kq22 := Lib.hid (Kq21.out.box HU21.out (by omega) hs22)
        have HU22 : Hid ((q : TxD).In w22 (gU)) := by rw [← hq22]; exact HU21.out.set q
        have HO22 : Hid (OwC w22 w.heap.size dA dn dc dl) := OwN.mod HO21.out hs22 (fun k hk e => OwC.notBox HO21.out HU21.out (e ▸ hk))
        have HD22 := Lib.hid (HDq.out.keep hs22 (fun k e => .inl (by omega)))
        clear hq22 hs22
        have Hc22 : Hid (y.Cells w22 b (o + i * 7)) := Hcw.out.keep (HM22.out.block b Hcw.out.lt (fun h => h))
        obtain ⟨s0, s1, s2, s3, s4, s5, s6⟩ := Hc22.out
        obtain ⟨w23, hw23⟩ : ∃ w23, w22.alloc (.cells #[.int .i64 y.lsn, .int .i64 y.page, .int .i64 y.key, .bool y.o.is, .slice y.o.B y.o.m y.o.d, .bool y.v.is, .slice y.v.B y.v.m y.v.d] 30) = w23 := ⟨_, rfl⟩
        have hm : Mod (fun _ => False) w22 w23 := by rw [← hw23]; exact (Mod.refl _ w22).alloc _
        have Hsrc : Hid (SrcN w23 (some ⟨w22.heap.size, 0, none⟩) 1 7 (chc y)) := by rw [← hw23]; exact SrcN.lit w22 (chc y) 30 (by simpa [chs] using chs_one [y])
        have HM23 := Lib.hid (HM22.out.trans hm (fun _ _ h => h))
        have hz23 := hm.size
        have HB23 := Lib.hid (HB22.out.keep hm)
        have HU23 := Lib.hid (HU22.out.keep hm)
        have HQ23 := Lib.hid (HQ22.out.keep hm)
        have Kx23 := Lib.hid (Kx22.out.keep hm)
        have Ku23 := Lib.hid (Ku22.out.keep hm)
        have Kq23 := Lib.hid (Kq22.out.keep hm)
        have HO23 : Hid (OwC w23 w.heap.size dA dn dc dl) := OwN.mod HO22.out hm (fun _ _ h => h)
        have HD23 := Lib.hid (HD22.out.still hm)
        have Hbs : Hid (w.heap.size ≤ w23.heap.size) := HM23.out.size
        have hM23 : M ≤ w23.heap.size := by omega
        clear hm
        go_wp2_with (at_builtin; refine wpList_appN (.tmp 75) (.tmp 80) chElem rfl rfl rfl rfl HO23.out Hsrc.out (by omega) (by unfold maxLen; omega) Hbs.out ?_; intro A' c' w24 h1 h2 h3; have H1 := Lib.hid h1; have H2 := Lib.hid h2; have H3 := Lib.hid h3; clear h1 h2 h3)
        have hs : Mod (fun k => blkOf dA = some k) w23 w24 := (Mod.refl _ w23).grown H2.out (fun k e _ => e)
        have HM24 : Hid (Mod (fun _ => False) w w24) := HM23.out.trans hs (fun k hk e => by have := (Hlow.out k e).1; omega)
        have hsp : ∀ k, blkOf dA = some k → k < N ∨ M ≤ k := fun k e => .inl (by have := (Hlow.out k e).2; omega)
        have HB24 := Lib.hid (HB23.out.mod hs (OwC.notBox HO23.out HB23.out))
        have HU24 := Lib.hid (HU23.out.mod hs (OwC.notBox HO23.out HU23.out))
        have Kx24 := Lib.hid (Hx.out.kp0.keep HM24.out)
        have Kq24 := Lib.hid (Kq23.out.row HD23.out hs hsp (fun k e => OwC.typed HO23.out k e))
        have HD24 : Hid (∃ N M, (∀ k, blkOf A' = some k → k < N ∨ M ≤ k) ∧ (gU < N ∨ M ≤ gU) ∧ Dep N M w24 q) := ⟨N, M, Dep.sep hsp H3.out hM23, .inl (by omega), HD23.out.keep hs hsp⟩
        have HO24 := Lib.hid (OwC.more H1.out)
        have Hda2 : Hid (∀ z ∈ dl ++ [y], z.At w) := fun z hz => by
          rcases List.mem_append.1 hz with h | h
          · exact Hda.out z h
          · obtain rfl : z = y := by simpa using h
            exact Hyw.out
        clear hs hsp H1 H2 H3 s0 s1 s2 s3 s4 s5 s6 hw22 hw23 c0 c1 c2 c3 c4 c5 d0 d1 d2 d3 d4 d5 f0 f1 f2 f3 f4 f5
        go_wp2
        go_roundw
        case rel => exact ⟨i + 1, q, A', dn + 1, c', dl ++ [y], by go_num, rfl, by omega, ⟨HM24.out, Kx24.out, HB24.out, Kq24.out, HU24.out, Hmq.out, Hiq.out.1, Hiq.out.2, HLq.out, HSq.out, HO24.out⟩, HD24.out, Hda2.out⟩
        case measure => simp [intOf]; omega
      · have hfd : (noteE u.p y.p == 0) = false := by simpa using hF
        clear hF HQp
        have HD21 : Hid (∃ N M, (∀ k, blkOf dA = some k → k < N ∨ M ≤ k) ∧ (gU < N ∨ M ≤ gU) ∧ Dep N M wc u) := by
          obtain ⟨N, M, h1, h2, h3⟩ := HDp.out
          exact ⟨N, M, h1, h2, h3.still Hqm.out⟩
        go_wp2
        go_roundw
        case rel => exact ⟨i + 1, u, dA, dn, dc, dl, by go_num, rfl, by omega, ⟨HM21.out, Kx21.out, HB21.out, Ku21.out, HU21.out, Hmu.out, HF.out.id, HF.out.st, HF.out.L, HF.out.S, HO21.out⟩, HD21.out, Hda.out⟩
        case measure => simp [intOf]; omega
    · obtain rfl : i = n := by omega
      have HO20 := Lib.hid HF.out.own
      have hun : u.n = x.n + dn := by
        have h1 := Ku20.out.at_.nL
        rw [HF.out.L, List.length_append, pc_len, Hdl.out, Hln.out] at h1
        omega
      have hx6 : x.n ≤ 6 := Hnx.out.1
      have ew : IntKind.i64.wrap ((x.n : Int) + (dn : Int)) = (u.n : Int) := by rw [IntKind.wrap_i64]; omega
      have ew2 : IntKind.i64.wrap ((dn : Int) - 1) = (dn : Int) - 1 := by rw [IntKind.wrap_i64]; omega
      have HMu := (may_ok wr u Ku20.out.at_ Hnu.out.1 Hnu.out.2.1)
      rw [Hmu.out] at HMu
      have HMu := Lib.hid HMu
      clear hun
      obtain ⟨d0, d1, d2, d3, d4, d5⟩ : wr.cell? ⟨gU, 0, none⟩ = some (.int .i64 u.id) ∧ wr.cell? ⟨gU, 1, none⟩ = some (.int .i64 u.st) ∧ wr.cell? ⟨gU, 2, none⟩ = some (.int .i64 u.f) ∧ wr.cell? ⟨gU, 3, none⟩ = some (.int .i64 u.l) ∧ wr.cell? ⟨gU, 4, none⟩ = some (.slice u.A u.n u.c) ∧ wr.cell? ⟨gU, 5, none⟩ = some (.slice u.B u.m u.d) := HU20.out.cells
      obtain ⟨c0, c1, c2, c3, c4, c5⟩ : wr.cell? ⟨w.heap.size, 0, none⟩ = some (.int .i64 x.id) ∧ wr.cell? ⟨w.heap.size, 1, none⟩ = some (.int .i64 x.st) ∧ wr.cell? ⟨w.heap.size, 2, none⟩ = some (.int .i64 x.f) ∧ wr.cell? ⟨w.heap.size, 3, none⟩ = some (.int .i64 x.l) ∧ wr.cell? ⟨w.heap.size, 4, none⟩ = some (.slice x.A x.n x.c) ∧ wr.cell? ⟨w.heap.size, 5, none⟩ = some (.slice x.B x.m x.d) := HB20.out.cells
      go_wp2_with fail
      refine HMu.out.mono ?_
      rintro e w21 ⟨rfl, hm⟩
      have HM21 := Lib.hid (HM20.out.trans hm (fun _ _ h => h))
      have hz21 := hm.size
      have HB21 := Lib.hid (HB20.out.keep hm)
      have HU21 := Lib.hid (HU20.out.keep hm)
      have Kx21 := Lib.hid (Kx20.out.keep hm)
      have Ku21 := Lib.hid (Ku20.out.keep hm)
      have HO21 : Hid (OwC w21 w.heap.size dA dn dc dl) := OwN.mod HO20.out hm (fun _ _ h => h)
      clear hm c0 c1 c2 c3 c4 c5 d0 d1 d2 d3 d4 d5
      obtain ⟨d0, d1, d2, d3, d4, d5⟩ : w21.cell? ⟨gU, 0, none⟩ = some (.int .i64 u.id) ∧ w21.cell? ⟨gU, 1, none⟩ = some (.int .i64 u.st) ∧ w21.cell? ⟨gU, 2, none⟩ = some (.int .i64 u.f) ∧ w21.cell? ⟨gU, 3, none⟩ = some (.int .i64 u.l) ∧ w21.cell? ⟨gU, 4, none⟩ = some (.slice u.A u.n u.c) ∧ w21.cell? ⟨gU, 5, none⟩ = some (.slice u.B u.m u.d) := HU21.out.cells
      obtain ⟨c0, c1, c2, c3, c4, c5⟩ : w21.cell? ⟨w.heap.size, 0, none⟩ = some (.int .i64 x.id) ∧ w21.cell? ⟨w.heap.size, 1, none⟩ = some (.int .i64 x.st) ∧ w21.cell? ⟨w.heap.size, 2, none⟩ = some (.int .i64 x.f) ∧ w21.cell? ⟨w.heap.size, 3, none⟩ = some (.int .i64 x.l) ∧ w21.cell? ⟨w.heap.size, 4, none⟩ = some (.slice x.A x.n x.c) ∧ w21.cell? ⟨w.heap.size, 5, none⟩ = some (.slice x.B x.m x.d) := HB21.out.cells
      have hfs : BkFr w w21 x u gU dA dn dc dl ((pc dl).take dn) := ⟨HM21.out, Kx21.out, HB21.out, Ku21.out, HU21.out, Hmu.out, HF.out.id, HF.out.st, by rw [HF.out.L, List.take_of_length_le (by rw [pc_len, Hdl.out]; omega)], HF.out.S, HO21.out⟩
      have Hfs := Lib.hid hfs
      clear hfs
      go_wp2_with fail
      clear ew c0 c1 c2 c3 c4 c5 d0 d1 d2 d3 d4 d5
      go_loopw [12] (fun k W => ∃ (m : Nat) (z : Int) (v : TxD), k = .int .i64 z ∧ z = (m : Int) - 1 ∧ m ≤ dn ∧ BkFr w W x v gU dA dn dc dl ((pc dl).take m)) (fun k _ => (intOf k + 1).toNat)
      case atStart => exact ⟨dn, (dn : Int) - 1, u, rfl, rfl, by omega, Hfs.out⟩
      case round =>
        obtain ⟨m, z, v, rfl, hzm, hj, hf2⟩ := hrel
        have HG := Lib.hid hf2
        clear hf2 Hfs HM20 HB20 HU20 Kx20 Ku20 Hmu hz20 Hnu HF HMu HM21 HB21 HU21 Kx21 Ku21 hz21 HO20 HO21 HDp ew2
        have HM20 := Lib.hid HG.out.old
        have HB20 := Lib.hid HG.out.bx
        have HU20 := Lib.hid HG.out.bu
        have Kx20 := Lib.hid HG.out.kx
        have Kv20 := Lib.hid HG.out.ku
        have Hmv := Lib.hid HG.out.may
        have hz20 : gU + 1 ≤ wr.heap.size := HG.out.bu.lt
        have Hnv := Lib.hid (HG.out.ku.at_.sm (SmT.may HG.out.may))
        have HR20 := Lib.hid HG.out.own
        by_cases hm0 : m = 0
        · subst hm0
          obtain rfl : z = -1 := by omega
          clear hzm hj
          have hgl := HG.out.L
          rw [List.take_zero, List.append_nil] at hgl
          have Hgl := Lib.hid hgl
          clear hgl
          obtain ⟨c0, c1, c2, c3, c4, c5⟩ : wr.cell? ⟨w.heap.size, 0, none⟩ = some (.int .i64 x.id) ∧ wr.cell? ⟨w.heap.size, 1, none⟩ = some (.int .i64 x.st) ∧ wr.cell? ⟨w.heap.size, 2, none⟩ = some (.int .i64 x.f) ∧ wr.cell? ⟨w.heap.size, 3, none⟩ = some (.int .i64 x.l) ∧ wr.cell? ⟨w.heap.size, 4, none⟩ = some (.slice x.A x.n x.c) ∧ wr.cell? ⟨w.heap.size, 5, none⟩ = some (.slice x.B x.m x.d) := HB20.out.cells
          obtain ⟨d0, d1, d2, d3, d4, d5⟩ : wr.cell? ⟨gU, 0, none⟩ = some (.int .i64 v.id) ∧ wr.cell? ⟨gU, 1, none⟩ = some (.int .i64 v.st) ∧ wr.cell? ⟨gU, 2, none⟩ = some (.int .i64 v.f) ∧ wr.cell? ⟨gU, 3, none⟩ = some (.int .i64 v.l) ∧ wr.cell? ⟨gU, 4, none⟩ = some (.slice v.A v.n v.c) ∧ wr.cell? ⟨gU, 5, none⟩ = some (.slice v.B v.m v.d) := HU20.out.cells
          have f0 := HU20.out.fz 0
          have f1 := HU20.out.fz 1
          have f2 := HU20.out.fz 2
          have f3 := HU20.out.fz 3
          have f4 := HU20.out.fz 4
          have f5 := HU20.out.fz 5
          obtain ⟨w21, hw21⟩ : ∃ w21, wr.setCell ⟨gU, 2, none⟩ (.int .i64 x.f) = w21 := ⟨_, rfl⟩
          have hs21 : Mod (fun k => k = gU) wr w21 := by rw [← hw21]; exact (Mod.refl (fun k => k = gU) wr).one (fun _ => rfl) _ _
          have HM21 : Hid (Mod (fun _ => False) w w21) := HM20.out.trans hs21 (fun k _ e => by omega)
          have hz21 := hs21.size
          have HB21 := Lib.hid (HB20.out.mod hs21 (fun e => by omega))
          have Kx21 := Lib.hid (Kx20.out.box HU20.out (by omega) hs21)
          have Kv21 := Lib.hid (Kv20.out.box HU20.out (by omega) hs21)
          have HU21 : Hid ((⟨v.id, v.st, x.f, v.l, v.A, v.n, v.c, v.L, v.B, v.m, v.d, v.S⟩ : TxD).In w21 gU) := by rw [← hw21]; exact heap_set HU20.out 2 (.int .i64 x.f)
          clear hs21
          obtain ⟨g0, g1, g2, g3, g4, g5⟩ : w21.cell? ⟨gU, 0, none⟩ = some (.int .i64 v.id) ∧ w21.cell? ⟨gU, 1, none⟩ = some (.int .i64 v.st) ∧ w21.cell? ⟨gU, 2, none⟩ = some (.int .i64 x.f) ∧ w21.cell? ⟨gU, 3, none⟩ = some (.int .i64 v.l) ∧ w21.cell? ⟨gU, 4, none⟩ = some (.slice v.A v.n v.c) ∧ w21.cell? ⟨gU, 5, none⟩ = some (.slice v.B v.m v.d) := HU21.out.cells
          have h0 := HU21.out.fz 0
          have h1 := HU21.out.fz 1
          have h2 := HU21.out.fz 2
          have h3 := HU21.out.fz 3
          have h4 := HU21.out.fz 4
          have h5 := HU21.out.fz 5
          obtain ⟨p0, p1, p2, p3, p4, p5⟩ : w21.cell? ⟨w.heap.size, 0, none⟩ = some (.int .i64 x.id) ∧ w21.cell? ⟨w.heap.size, 1, none⟩ = some (.int .i64 x.st) ∧ w21.cell? ⟨w.heap.size, 2, none⟩ = some (.int .i64 x.f) ∧ w21.cell? ⟨w.heap.size, 3, none⟩ = some (.int .i64 x.l) ∧ w21.cell? ⟨w.heap.size, 4, none⟩ = some (.slice x.A x.n x.c) ∧ w21.cell? ⟨w.heap.size, 5, none⟩ = some (.slice x.B x.m x.d) := HB21.out.cells
          obtain ⟨w22, hw22⟩ : ∃ w22, w21.setCell ⟨gU, 3, none⟩ (.int .i64 x.l) = w22 := ⟨_, rfl⟩
          have hs22 : Mod (fun k => k = gU) w21 w22 := by rw [← hw22]; exact (Mod.refl (fun k => k = gU) w21).one (fun _ => rfl) _ _
          have HM22 : Hid (Mod (fun _ => False) w w22) := HM21.out.trans hs22 (fun k _ e => by omega)
          have hz22 := hs22.size
          have HB22 := Lib.hid (HB21.out.mod hs22 (fun e => by omega))
          have Kx22 := Lib.hid (Kx21.out.box HU21.out (by omega) hs22)
          have Kv22 := Lib.hid (Kv21.out.box HU21.out (by omega) hs22)
          have HU22 : Hid ((⟨v.id, v.st, x.f, x.l, v.A, v.n, v.c, v.L, v.B, v.m, v.d, v.S⟩ : TxD).In w22 gU) := by rw [← hw22]; exact heap_set HU21.out 3 (.int .i64 x.l)
          clear hs22
          obtain ⟨r0, r1, r2, r3, r4, r5⟩ : w22.cell? ⟨gU, 0, none⟩ = some (.int .i64 v.id) ∧ w22.cell? ⟨gU, 1, none⟩ = some (.int .i64 v.st) ∧ w22.cell? ⟨gU, 2, none⟩ = some (.int .i64 x.f) ∧ w22.cell? ⟨gU, 3, none⟩ = some (.int .i64 x.l) ∧ w22.cell? ⟨gU, 4, none⟩ = some (.slice v.A v.n v.c) ∧ w22.cell? ⟨gU, 5, none⟩ = some (.slice v.B v.m v.d) := HU22.out.cells
          obtain ⟨q0, q1, q2, q3, q4, q5⟩ : w22.cell? ⟨w.heap.size, 0, none⟩ = some (.int .i64 x.id) ∧ w22.cell? ⟨w.heap.size, 1, none⟩ = some (.int .i64 x.st) ∧ w22.cell? ⟨w.heap.size, 2, none⟩ = some (.int .i64 x.f) ∧ w22.cell? ⟨w.heap.size, 3, none⟩ = some (.int .i64 x.l) ∧ w22.cell? ⟨w.heap.size, 4, none⟩ = some (.slice x.A x.n x.c) ∧ w22.cell? ⟨w.heap.size, 5, none⟩ = some (.slice x.B x.m x.d) := HB22.out.cells
          have hv2 : Kp w.heap.size w22 ⟨v.id, v.st, x.f, x.l, v.A, v.n, v.c, v.L, v.B, v.m, v.d, v.S⟩ := Kv22.out.withL Kv22.out.at_.L x.f x.l
          have hvp : x.p = (⟨v.id, v.st, x.f, x.l, v.A, v.n, v.c, v.L, v.B, v.m, v.d, v.S⟩ : TxD).p := bk_back HG.out.id HG.out.st Hgl.out HG.out.S
          have HS := Lib.hid (ksame hv2 Kx22.out hvp (by rw [← hvp]; exact SmT.may Hm.out))
          clear hv2 hvp
          go_wp2_with fail
          refine HS.out.mono ?_
          rintro e w23 ⟨rfl, hm⟩
          have HM23 := Lib.hid (HM22.out.trans hm (fun _ _ h => h))
          have hz23 := hm.size
          have HB23 := Lib.hid (HB22.out.keep hm)
          have HU23 := Lib.hid (HU22.out.keep hm)
          have Kx23 := Lib.hid (Kx22.out.keep hm)
          have Kv23 := Lib.hid (Kv22.out.keep hm)
          clear hm
          go_wp2
          go_ret
          exact ⟨rfl, HM23.out.below (Nat.le_refl _) (fun _ _ h => h)⟩
        · obtain ⟨j, rfl⟩ : ∃ j, m = j + 1 := ⟨m - 1, by omega⟩
          obtain rfl : z = (j : Int) := by omega
          clear hzm hm0
          obtain ⟨y, hy⟩ : ∃ y, dl[j]? = some y := ⟨_, List.getElem?_eq_getElem (by rw [Hdl.out]; omega)⟩
          have Hya := Lib.hid (Hda.out y (List.mem_of_getElem? hy))
          have hvl : v.p.L = x.p.L ++ ((pc dl).take j ++ [y.p]) := by rw [HG.out.L, take_succ_at (pc_at hy)]
          have Hvl := Lib.hid hvl
          have Hlv : Hid (0 < v.p.L.length) := by show 0 < _; rw [hvl, List.length_append, List.length_append, List.length_singleton]; omega
          obtain ⟨gD, oD, hA, hcs⟩ := (OwC.cs HG.out.own (fun z hz => (Hda.out z hz).keep HG.out.old)).cells (by omega)
          have Hcd := Lib.hid (hcs j y hy)
          have HoA := Lib.hid hA
          have l1 : j < dc := by have := OwN.cap HG.out.own; omega
          have l2 : j < dn := by omega
          have hgD : ¬ gD = gU := fun h => OwC.notBox HG.out.own HG.out.bu (by rw [hA, h]; rfl)
          rw [hA]
          clear hvl hcs hA hy
          obtain ⟨c0, c1, c2, c3, c4, c5⟩ : wr.cell? ⟨gU, 0, none⟩ = some (.int .i64 v.id) ∧ wr.cell? ⟨gU, 1, none⟩ = some (.int .i64 v.st) ∧ wr.cell? ⟨gU, 2, none⟩ = some (.int .i64 v.f) ∧ wr.cell? ⟨gU, 3, none⟩ = some (.int .i64 v.l) ∧ wr.cell? ⟨gU, 4, none⟩ = some (.slice v.A v.n v.c) ∧ wr.cell? ⟨gU, 5, none⟩ = some (.slice v.B v.m v.d) := HU20.out.cells
          go_wp2_with fail
          refine ((undo_ok wr v Kv20.out.at_ Hnv.out.1 Hnv.out.2.1).mono (fun e w' h => (UnAns.ru (b0 := w.heap.size) h).at 0 (undoE_zero Hmv.out Hlv.out))).mono ?_
          rintro e w21 ⟨q, qc, rfl, hk, ha, hp, hpc, hm⟩
          have Hmm := Lib.hid hm
          have HM21 := Lib.hid (HM20.out.trans hm (fun _ _ h => h))
          have hz21 := hm.size
          have HB21 := Lib.hid (HB20.out.keep hm)
          have HU21 := Lib.hid (HU20.out.keep hm)
          have Kx21 := Lib.hid (Kx20.out.keep hm)
          have Kv21 := Lib.hid (Kv20.out.keep hm)
          clear hm
          have Kq21 := Lib.hid hk
          have Pq := Lib.hid hp
          clear hk hp
          have Aqc21 := Lib.hid ha
          have Pqc := Lib.hid hpc
          clear ha hpc c0 c1 c2 c3 c4 c5
          have hbu := bk_undo (x := x.p) (v := v.p) Hm.out Hvl.out HG.out.S
          have Pq2 : Hid (q.p = undoT v.p) := by show _ = _; have := Pq.out; rwa [if_pos rfl] at this
          have Pqc2 : Hid (qc.p = undoC v.p) := by show _ = _; have := Pqc.out; rwa [if_pos rfl] at this
          have Hqcy : Hid (y.p = qc.p) := by show _ = _; rw [Pqc2.out, hbu.2.2]
          have Hsc : Hid (SmC qc.p) := by rw [Pqc2.out]; exact SmC.undo (undoE_zero Hmv.out Hlv.out)
          have HqL : Hid (q.p.L = x.p.L ++ (pc dl).take j) := by show _ = _; rw [Pq2.out]; exact hbu.1
          have HqS : Hid (q.p.S = x.p.S) := by show _ = _; rw [Pq2.out]; exact hbu.2.1
          have Hqi : Hid (q.p.id = x.p.id ∧ q.p.st = x.p.st) := by rw [Pq2.out]; exact ⟨HG.out.id, HG.out.st⟩
          have Hmq : Hid (mayT q.p = true) := by show _ = _; rw [Pq2.out]; exact undo_may Hmv.out
          have HR21 : Hid (OwC w21 w.heap.size dA dn dc dl) := OwN.mod HR20.out Hmm.out (fun _ _ h => h)
          have Hcd21 : Hid (y.Cells w21 gD (oD + j * 7)) := Hcd.out.keep (Hmm.out.block gD Hcd.out.lt (fun h => h))
          clear hbu Pq Pqc Pqc2 Hcd Hmm
          obtain ⟨w22, hw22⟩ : ∃ w22, w21.alloc (.cells #[.int .i64 0, .int .i64 0, .int .i64 0, .int .i64 0, .slice none 0 0, .slice none 0 0] 25) = w22 := ⟨_, rfl⟩
          have ha : Mod (fun _ => False) w21 w22 := by rw [← hw22]; exact (Mod.refl _ _).alloc _
          have hz22 : w21.heap.size + 1 ≤ w22.heap.size := by rw [← hw22]; simp
          have hT0 : TxD.zero.In w22 w21.heap.size := by rw [← hw22]; exact TxD.In.new w21 TxD.zero
          obtain ⟨w23, hw23⟩ : ∃ w23, w22.alloc (.cells #[.int .i64 0, .int .i64 0, .int .i64 0, .bool false, .slice none 0 0, .bool false, .slice none 0 0] 30) = w23 := ⟨_, rfl⟩
          have hb : Mod (fun _ => False) w22 w23 := by rw [← hw23]; exact (Mod.refl _ _).alloc _
          have hz23 : w22.heap.size + 1 ≤ w23.heap.size := by rw [← hw23]; simp
          have hC0 : ChD.zero.In w23 w22.heap.size := by rw [← hw23]; exact ChD.In.new w22 ChD.zero
          have hT1 := hT0.keep hb
          have mg0 := hT1.fz 0
          have mg1 := hT1.fz 1
          have mg2 := hT1.fz 2
          have mg3 := hT1.fz 3
          have mg4 := hT1.fz 4
          have mg5 := hT1.fz 5
          obtain ⟨mr0, mr1, mr2, mr3, mr4, mr5⟩ : w23.cell? ⟨w21.heap.size, 0, none⟩ = some (.int .i64 0) ∧ w23.cell? ⟨w21.heap.size, 1, none⟩ = some (.int .i64 0) ∧ w23.cell? ⟨w21.heap.size, 2, none⟩ = some (.int .i64 0) ∧ w23.cell? ⟨w21.heap.size, 3, none⟩ = some (.int .i64 0) ∧ w23.cell? ⟨w21.heap.size, 4, none⟩ = some (.slice none 0 0) ∧ w23.cell? ⟨w21.heap.size, 5, none⟩ = some (.slice none 0 0) := hT1.cells
          obtain ⟨w24, hw24⟩ : ∃ w24, (((((w23.setCell ⟨w21.heap.size, 0, none⟩ (.int .i64 q.id)).setCell ⟨w21.heap.size, 1, none⟩ (.int .i64 q.st)).setCell ⟨w21.heap.size, 2, none⟩ (.int .i64 q.f)).setCell ⟨w21.heap.size, 3, none⟩ (.int .i64 q.l)).setCell ⟨w21.heap.size, 4, none⟩ (.slice q.A q.n q.c)).setCell ⟨w21.heap.size, 5, none⟩ (.slice q.B q.m q.d) = w24 := ⟨_, rfl⟩
          have hq : stT w23 (w21.heap.size) q = w24 := hw24
          have hc : Mod (fun k => k = w21.heap.size) w23 w24 := by rw [← hq]; exact stT_mod _ _ q
          have hz24 := hc.size
          have hT2 : (q : TxD).In w24 (w21.heap.size) := by rw [← hq]; exact hT1.set q
          clear hq
          have hC1 := hC0.mod hc (fun e => by omega)
          have mk0 := hC1.fz 0
          have mk1 := hC1.fz 1
          have mk2 := hC1.fz 2
          have mk3 := hC1.fz 3
          have mk4 := hC1.fz 4
          have mk5 := hC1.fz 5
          have mk6 := hC1.fz 6
          obtain ⟨ms0, ms1, ms2, ms3, ms4, ms5, ms6⟩ : w24.cell? ⟨w22.heap.size, 0, none⟩ = some (.int .i64 0) ∧ w24.cell? ⟨w22.heap.size, 1, none⟩ = some (.int .i64 0) ∧ w24.cell? ⟨w22.heap.size, 2, none⟩ = some (.int .i64 0) ∧ w24.cell? ⟨w22.heap.size, 3, none⟩ = some (.bool false) ∧ w24.cell? ⟨w22.heap.size, 4, none⟩ = some (.slice none 0 0) ∧ w24.cell? ⟨w22.heap.size, 5, none⟩ = some (.bool false) ∧ w24.cell? ⟨w22.heap.size, 6, none⟩ = some (.slice none 0 0) := hC1.cells
          obtain ⟨w25, hw25⟩ : ∃ w25, ((((((w24.setCell ⟨w22.heap.size, 0, none⟩ (.int .i64 qc.lsn)).setCell ⟨w22.heap.size, 1, none⟩ (.int .i64 qc.page)).setCell ⟨w22.heap.size, 2, none⟩ (.int .i64 qc.key)).setCell ⟨w22.heap.size, 3, none⟩ (.bool qc.o.is)).setCell ⟨w22.heap.size, 4, none⟩ (.slice qc.o.B qc.o.m qc.o.d)).setCell ⟨w22.heap.size, 5, none⟩ (.bool qc.v.is)).setCell ⟨w22.heap.size, 6, none⟩ (.slice qc.v.B qc.v.m qc.v.d) = w25 := ⟨_, rfl⟩
          have hq : stC w24 (w22.heap.size) 0 qc = w25 := hw25
          have hd : Mod (fun k => k = w22.heap.size) w24 w25 := by rw [← hq]; exact stC_mod _ _ 0 qc
          have hz25 := hd.size
          have HC25 : Hid ((qc : ChD).In w25 (w22.heap.size)) := by rw [← hq]; exact hC1.set qc
          clear hq
          have HQ25 : Hid ((q : TxD).In w25 (w21.heap.size)) := hT2.mod hd (fun e => by omega)
          have hm0 : Mod (fun _ => False) w21 w25 := ((ha.trans hb (fun _ _ h => h)).trans hc (fun k hk e => by omega)).trans hd (fun k hk e => by omega)
          have HM25 := Lib.hid (HM21.out.trans hm0 (fun _ _ h => h))
          have HB25 := Lib.hid (HB21.out.keep hm0)
          have HU25 := Lib.hid (HU21.out.keep hm0)
          have Kx25 := Lib.hid (Kx21.out.keep hm0)
          have Kv25 := Lib.hid (Kv21.out.keep hm0)
          have Kq25 := Lib.hid (Kq21.out.keep hm0)
          have Aqc25 := Lib.hid (Aqc21.out.keep hm0)
          have HR25 : Hid (OwC w25 w.heap.size dA dn dc dl) := OwN.mod HR21.out hm0 (fun _ _ h => h)
          have Hcd25 : Hid (y.Cells w25 gD (oD + j * 7)) := Hcd21.out.keep (hm0.block gD Hcd21.out.lt (fun h => h))
          clear ha hb hc hd hT0 hT1 hT2 hC0 hC1 hm0
          obtain ⟨c0, c1, c2, c3, c4, c5⟩ : w25.cell? ⟨w21.heap.size, 0, none⟩ = some (.int .i64 q.id) ∧ w25.cell? ⟨w21.heap.size, 1, none⟩ = some (.int .i64 q.st) ∧ w25.cell? ⟨w21.heap.size, 2, none⟩ = some (.int .i64 q.f) ∧ w25.cell? ⟨w21.heap.size, 3, none⟩ = some (.int .i64 q.l) ∧ w25.cell? ⟨w21.heap.size, 4, none⟩ = some (.slice q.A q.n q.c) ∧ w25.cell? ⟨w21.heap.size, 5, none⟩ = some (.slice q.B q.m q.d) := HQ25.out.cells
          have HSt : Hid (∀ V, Mod (fun _ => False) w25 V → (fun V : World => (V.cell? ⟨w22.heap.size, 0, none⟩ = some (.int .i64 qc.lsn) ∧ V.cell? ⟨w22.heap.size, 1, none⟩ = some (.int .i64 qc.page) ∧ V.cell? ⟨w22.heap.size, 2, none⟩ = some (.int .i64 qc.key) ∧ V.cell? ⟨w22.heap.size, 3, none⟩ = some (.bool qc.o.is) ∧ V.cell? ⟨w22.heap.size, 4, none⟩ = some (.slice qc.o.B qc.o.m qc.o.d) ∧ V.cell? ⟨w22.heap.size, 5, none⟩ = some (.bool qc.v.is) ∧ V.cell? ⟨w22.heap.size, 6, none⟩ = some (.slice qc.v.B qc.v.m qc.v.d)) ∧ (V.cell? ⟨gD, oD + j * 7, none⟩ = some (.int .i64 y.lsn) ∧ V.cell? ⟨gD, oD + j * 7 + 1, none⟩ = some (.int .i64 y.page) ∧ V.cell? ⟨gD, oD + j * 7 + 2, none⟩ = some (.int .i64 y.key) ∧ V.cell? ⟨gD, oD + j * 7 + 3, none⟩ = some (.bool y.o.is) ∧ V.cell? ⟨gD, oD + j * 7 + 4, none⟩ = some (.slice y.o.B y.o.m y.o.d) ∧ V.cell? ⟨gD, oD + j * 7 + 5, none⟩ = some (.bool y.v.is) ∧ V.cell? ⟨gD, oD + j * 7 + 6, none⟩ = some (.slice y.v.B y.v.m y.v.d))) V) := fun V hV => by
            have q3 := Hcd25.out.keep (hV.block gD Hcd25.out.lt (fun h => h))
            exact ⟨(HC25.out.keep hV).cells, q3.c0, q3.c1, q3.c2, q3.c3, q3.c4, q3.c5, q3.c6⟩
          have HCh := Lib.hid (fun V (hV : Mod (fun _ => False) w25 V) => kchanges (Aqc25.out.keep hV) (Hya.out.keep (HM25.out.trans hV (fun _ _ h => h))) Hqcy.out Hsc.out)
          have HD : Hid (Mod (fun _ => False) w25 w25.drew) := (Mod.refl _ w25).drew
          have ej : IntKind.i64.wrap ((j : Int) - 1) = (j : Int) - 1 := by rw [IntKind.wrap_i64]; omega
          go_wp2_with fail
          clear mg0 mg1 mg2 mg3 mg4 mg5 mr0 mr1 mr2 mr3 mr4 mr5 mk0 mk1 mk2 mk3 mk4 mk5 mk6 ms0 ms1 ms2 ms3 ms4 ms5 ms6 hw22 hw23 hw24 hw25 c0 c1 c2 c3 c4 c5
          refine wp_region_held (S := (fun V : World => (V.cell? ⟨w22.heap.size, 0, none⟩ = some (.int .i64 qc.lsn) ∧ V.cell? ⟨w22.heap.size, 1, none⟩ = some (.int .i64 qc.page) ∧ V.cell? ⟨w22.heap.size, 2, none⟩ = some (.int .i64 qc.key) ∧ V.cell? ⟨w22.heap.size, 3, none⟩ = some (.bool qc.o.is) ∧ V.cell? ⟨w22.heap.size, 4, none⟩ = some (.slice qc.o.B qc.o.m qc.o.d) ∧ V.cell? ⟨w22.heap.size, 5, none⟩ = some (.bool qc.v.is) ∧ V.cell? ⟨w22.heap.size, 6, none⟩ = some (.slice qc.v.B qc.v.m qc.v.d)) ∧ (V.cell? ⟨gD, oD + j * 7, none⟩ = some (.int .i64 y.lsn) ∧ V.cell? ⟨gD, oD + j * 7 + 1, none⟩ = some (.int .i64 y.page) ∧ V.cell? ⟨gD, oD + j * 7 + 2, none⟩ = some (.int .i64 y.key) ∧ V.cell? ⟨gD, oD + j * 7 + 3, none⟩ = some (.bool y.o.is) ∧ V.cell? ⟨gD, oD + j * 7 + 4, none⟩ = some (.slice y.o.B y.o.m y.o.d) ∧ V.cell? ⟨gD, oD + j * 7 + 5, none⟩ = some (.bool y.v.is) ∧ V.cell? ⟨gD, oD + j * 7 + 6, none⟩ = some (.slice y.v.B y.v.m y.v.d)))) (by kernel_rfl) ?_
          have hI := (show (fun V : World => (V.cell? ⟨w22.heap.size, 0, none⟩ = some (.int .i64 qc.lsn) ∧ V.cell? ⟨w22.heap.size, 1, none⟩ = some (.int .i64 qc.page) ∧ V.cell? ⟨w22.heap.size, 2, none⟩ = some (.int .i64 qc.key) ∧ V.cell? ⟨w22.heap.size, 3, none⟩ = some (.bool qc.o.is) ∧ V.cell? ⟨w22.heap.size, 4, none⟩ = some (.slice qc.o.B qc.o.m qc.o.d) ∧ V.cell? ⟨w22.heap.size, 5, none⟩ = some (.bool qc.v.is) ∧ V.cell? ⟨w22.heap.size, 6, none⟩ = some (.slice qc.v.B qc.v.m qc.v.d)) ∧ (V.cell? ⟨gD, oD + j * 7, none⟩ = some (.int .i64 y.lsn) ∧ V.cell? ⟨gD, oD + j * 7 + 1, none⟩ = some (.int .i64 y.page) ∧ V.cell? ⟨gD, oD + j * 7 + 2, none⟩ = some (.int .i64 y.key) ∧ V.cell? ⟨gD, oD + j * 7 + 3, none⟩ = some (.bool y.o.is) ∧ V.cell? ⟨gD, oD + j * 7 + 4, none⟩ = some (.slice y.o.B y.o.m y.o.d) ∧ V.cell? ⟨gD, oD + j * 7 + 5, none⟩ = some (.bool y.v.is) ∧ V.cell? ⟨gD, oD + j * 7 + 6, none⟩ = some (.slice y.v.B y.v.m y.v.d))) _ from HSt.out _ HD.out)
          refine rg_take (n := 6) (v := ?_) 0 (some 110) rfl rfl (by kernel_rfl) (by kernel_rfl) (by kernel_rfl) (fun _ _ _ h => h) (by rfl) hI ?_ ?_
          rotate_left
          · ((intro w hSw; (try dsimp only at hSw); go_simp); (try with_reducible rfl))
          try simp only [Act.put, List.setIfInBounds_toArray, List.set_cons_zero, List.set_cons_succ]
          refine rg_take (n := 5) (v := ?_) 1 (some 111) rfl rfl (by kernel_rfl) (by kernel_rfl) (by kernel_rfl) (fun _ _ _ h => h) (by rfl) hI ?_ ?_
          rotate_left
          · ((intro w hSw; (try dsimp only at hSw); go_simp); (try with_reducible rfl))
          try simp only [Act.put, List.setIfInBounds_toArray, List.set_cons_zero, List.set_cons_succ]
          refine rg_take (n := 4) (v := ?_) 2 (some 112) rfl rfl (by kernel_rfl) (by kernel_rfl) (by kernel_rfl) (fun _ _ _ h => h) (by rfl) hI ?_ ?_
          rotate_left
          · ((intro w hSw; (try dsimp only at hSw); go_simp); (try with_reducible rfl))
          try simp only [Act.put, List.setIfInBounds_toArray, List.set_cons_zero, List.set_cons_succ]
          refine rg_take (n := 3) (v := ?_) 3 (some 113) rfl rfl (by kernel_rfl) (by kernel_rfl) (by kernel_rfl) (fun _ _ _ h => h) (by rfl) hI ?_ ?_
          rotate_left
          · ((intro w hSw; (try dsimp only at hSw); go_simp); (try with_reducible rfl))
          try simp only [Act.put, List.setIfInBounds_toArray, List.set_cons_zero, List.set_cons_succ]
          refine rg_take (n := 2) (v := ?_) 4 (some 114) rfl rfl (by kernel_rfl) (by kernel_rfl) (by kernel_rfl) (fun _ _ _ h => h) (by rfl) hI ?_ ?_
          rotate_left
          · ((intro w hSw; (try dsimp only at hSw); go_simp); (try with_reducible rfl))
          try simp only [Act.put, List.setIfInBounds_toArray, List.set_cons_zero, List.set_cons_succ]
          refine rg_one (n := 1) 5 rfl (by kernel_rfl) (by rfl) ?_
          go_simp
          go_at_call 21
          refine (HCh.out _ HD.out).mono ?_
          rintro e w26 ⟨rfl, hm⟩
          have hmv := HD.out.trans hm (fun _ _ h => h)
          have HSn := Lib.hid (HSt.out _ hmv)
          have HM26 := Lib.hid (HM25.out.trans hmv (fun _ _ h => h))
          have hz26 := hmv.size
          have HB26 := Lib.hid (HB25.out.keep hmv)
          have HU26 := Lib.hid (HU25.out.keep hmv)
          have HQ26 := Lib.hid (HQ25.out.keep hmv)
          have HC26 := Lib.hid (HC25.out.keep hmv)
          have Kx26 := Lib.hid (Kx25.out.keep hmv)
          have Kv26 := Lib.hid (Kv25.out.keep hmv)
          have Kq26 := Lib.hid (Kq25.out.keep hmv)
          have Aqc26 := Lib.hid (Aqc25.out.keep hmv)
          have HR26 : Hid (OwC w26 w.heap.size dA dn dc dl) := OwN.mod HR25.out hmv (fun _ _ h => h)
          clear hm hmv
          clear hI
          have hI := (show (fun V : World => (V.cell? ⟨w22.heap.size, 0, none⟩ = some (.int .i64 qc.lsn) ∧ V.cell? ⟨w22.heap.size, 1, none⟩ = some (.int .i64 qc.page) ∧ V.cell? ⟨w22.heap.size, 2, none⟩ = some (.int .i64 qc.key) ∧ V.cell? ⟨w22.heap.size, 3, none⟩ = some (.bool qc.o.is) ∧ V.cell? ⟨w22.heap.size, 4, none⟩ = some (.slice qc.o.B qc.o.m qc.o.d) ∧ V.cell? ⟨w22.heap.size, 5, none⟩ = some (.bool qc.v.is) ∧ V.cell? ⟨w22.heap.size, 6, none⟩ = some (.slice qc.v.B qc.v.m qc.v.d)) ∧ (V.cell? ⟨gD, oD + j * 7, none⟩ = some (.int .i64 y.lsn) ∧ V.cell? ⟨gD, oD + j * 7 + 1, none⟩ = some (.int .i64 y.page) ∧ V.cell? ⟨gD, oD + j * 7 + 2, none⟩ = some (.int .i64 y.key) ∧ V.cell? ⟨gD, oD + j * 7 + 3, none⟩ = some (.bool y.o.is) ∧ V.cell? ⟨gD, oD + j * 7 + 4, none⟩ = some (.slice y.o.B y.o.m y.o.d) ∧ V.cell? ⟨gD, oD + j * 7 + 5, none⟩ = some (.bool y.v.is) ∧ V.cell? ⟨gD, oD + j * 7 + 6, none⟩ = some (.slice y.v.B y.v.m y.v.d))) _ from HSn.out)
          refine ⟨hI, ?_⟩
          try simp only [Act.put, List.setIfInBounds_toArray, List.set_cons_zero, List.set_cons_succ]
          refine rg_take (n := 0) (v := ?_) 6 (some 16) rfl rfl (by kernel_rfl) (by kernel_rfl) (by kernel_rfl) (fun _ _ _ h => h) (by rfl) hI ?_ ?_
          rotate_left
          · ((intro w hSw; (try dsimp only at hSw); go_simp); (try with_reducible rfl))
          try simp only [Act.put, List.setIfInBounds_toArray, List.set_cons_zero, List.set_cons_succ]
          refine wpAnyH_done (by kernel_rfl) ?_ _
          clear hI
          have Hnq := Lib.hid (Kq26.out.at_.sm (SmT.may Hmq.out))
          have HMq := may_ok w26 q Kq26.out.at_ Hnq.out.1 Hnq.out.2.1
          rw [Hmq.out] at HMq
          have HMq := Lib.hid HMq
          clear HSn HSt HCh HD
          obtain ⟨c0, c1, c2, c3, c4, c5⟩ : w26.cell? ⟨w21.heap.size, 0, none⟩ = some (.int .i64 q.id) ∧ w26.cell? ⟨w21.heap.size, 1, none⟩ = some (.int .i64 q.st) ∧ w26.cell? ⟨w21.heap.size, 2, none⟩ = some (.int .i64 q.f) ∧ w26.cell? ⟨w21.heap.size, 3, none⟩ = some (.int .i64 q.l) ∧ w26.cell? ⟨w21.heap.size, 4, none⟩ = some (.slice q.A q.n q.c) ∧ w26.cell? ⟨w21.heap.size, 5, none⟩ = some (.slice q.B q.m q.d) := HQ26.out.cells
          go_wp2_with fail
          refine HMq.out.mono ?_
          rintro e w27 ⟨rfl, hm⟩
          have HM27 := Lib.hid (HM26.out.trans hm (fun _ _ h => h))
          have hz27 := hm.size
          have HB27 := Lib.hid (HB26.out.keep hm)
          have HU27 := Lib.hid (HU26.out.keep hm)
          have HQ27 := Lib.hid (HQ26.out.keep hm)
          have HC27 := Lib.hid (HC26.out.keep hm)
          have Kx27 := Lib.hid (Kx26.out.keep hm)
          have Kv27 := Lib.hid (Kv26.out.keep hm)
          have Kq27 := Lib.hid (Kq26.out.keep hm)
          have Aqc27 := Lib.hid (Aqc26.out.keep hm)
          have HR27 : Hid (OwC w27 w.heap.size dA dn dc dl) := OwN.mod HR26.out hm (fun _ _ h => h)
          clear hm c0 c1 c2 c3 c4 c5
          obtain ⟨c0, c1, c2, c3, c4, c5⟩ : w27.cell? ⟨w21.heap.size, 0, none⟩ = some (.int .i64 q.id) ∧ w27.cell? ⟨w21.heap.size, 1, none⟩ = some (.int .i64 q.st) ∧ w27.cell? ⟨w21.heap.size, 2, none⟩ = some (.int .i64 q.f) ∧ w27.cell? ⟨w21.heap.size, 3, none⟩ = some (.int .i64 q.l) ∧ w27.cell? ⟨w21.heap.size, 4, none⟩ = some (.slice q.A q.n q.c) ∧ w27.cell? ⟨w21.heap.size, 5, none⟩ = some (.slice q.B q.m q.d) := HQ27.out.cells
          obtain ⟨d0, d1, d2, d3, d4, d5⟩ : w27.cell? ⟨gU, 0, none⟩ = some (.int .i64 v.id) ∧ w27.cell? ⟨gU, 1, none⟩ = some (.int .i64 v.st) ∧ w27.cell? ⟨gU, 2, none⟩ = some (.int .i64 v.f) ∧ w27.cell? ⟨gU, 3, none⟩ = some (.int .i64 v.l) ∧ w27.cell? ⟨gU, 4, none⟩ = some (.slice v.A v.n v.c) ∧ w27.cell? ⟨gU, 5, none⟩ = some (.slice v.B v.m v.d) := HU27.out.cells
          have f0 := HU27.out.fz 0
          have f1 := HU27.out.fz 1
          have f2 := HU27.out.fz 2
          have f3 := HU27.out.fz 3
          have f4 := HU27.out.fz 4
          have f5 := HU27.out.fz 5
          obtain ⟨w28, hw28⟩ : ∃ w28, (((((w27.setCell ⟨gU, 0, none⟩ (.int .i64 q.id)).setCell ⟨gU, 1, none⟩ (.int .i64 q.st)).setCell ⟨gU, 2, none⟩ (.int .i64 q.f)).setCell ⟨gU, 3, none⟩ (.int .i64 q.l)).setCell ⟨gU, 4, none⟩ (.slice q.A q.n q.c)).setCell ⟨gU, 5, none⟩ (.slice q.B q.m q.d) = w28 := ⟨_, rfl⟩
          have hq28 : stT w27 (gU) q = w28 := hw28
          have hs28 : Mod (fun k => k = gU) w27 w28 := by rw [← hq28]; exact stT_mod w27 (gU) q
          have HM28 : Hid (Mod (fun _ => False) w w28) := HM27.out.trans hs28 (fun k _ e => by omega)
          have hz28 := hs28.size
          have HB28 := Lib.hid (HB27.out.mod hs28 (fun e => by omega))
          have HQ28 := Lib.hid (HQ27.out.mod hs28 (fun e => by omega))
          have HC28 := Lib.hid (HC27.out.mod hs28 (fun e => by omega))
          have Kx28 := Lib.hid (Kx27.out.box HU27.out (by omega) hs28)
          have Kv28 := Lib.hid (Kv27.out.box HU27.out (by omega) hs28)
          have Kq28 := Lib.hid (Kq27.out.box HU27.out (by omega) hs28)
          have Aqc28 := Lib.hid (Aqc27.out.box HU27.out hs28)
          have HU28 : Hid ((q : TxD).In w28 (gU)) := by rw [← hq28]; exact HU27.out.set q
          have HR28 : Hid (OwC w28 w.heap.size dA dn dc dl) := OwN.mod HR27.out hs28 (fun k hk e => OwC.notBox HR27.out HU27.out (e ▸ hk))
          clear hq28 hs28
          go_wp2
          go_roundw
          case rel => exact ⟨j, (j : Int) - 1, q, rfl, rfl, by omega, ⟨HM28.out, Kx28.out, HB28.out, Kq28.out, HU28.out, Hmq.out, Hqi.out.1, Hqi.out.2, HqL.out, HqS.out, HoA.out ▸ HR28.out⟩⟩
          case measure => simp [intOf]
end Go.Proofs.Ytidcmolkolcliaa
