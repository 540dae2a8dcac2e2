/-
  The law TxnSaves: its walk.
-/
import Derived.Test.YtidcmolkolcliaaXMy
import Derived.Test.YtidcmolkolcliaaXTwo
import Derived.Deep.DeepCutAuto
namespace Go.Proofs.Ytidcmolkolcliaa
open Go Go.RowKit

/-- What lies ahead of a round of TxnSaves: noted are dn. -/
structure SvFr (w W : World) (x u : TxD) (gU : Nat) (dn : List Cp) : Prop where
  old : Mod (fun _ => False) w W
  kx : Kp w.heap.size W x
  bx : x.In W w.heap.size
  ku : Kp w.heap.size W u
  bu : u.In W gU
  may : mayT u.p = true
  L : u.p.L = x.p.L ++ dn
  S : u.p.S = x.p.S ++ [(x.p.L.length : Int)]
theorem dn_len {x u : Tp} {dn : List Cp} (h : mayT u = true) (hL : u.L = x.L ++ dn) : dn.length ≤ 6 := by
  have := (may_len h).1
  rw [hL, List.length_append] at this
  omega
/-- Above the savepoint lie those that were noted behind it. -/
theorem above_sv {x u : Tp} {dn : List Cp} (h : mayT u = true) (hL : u.L = x.L ++ dn) (hS : u.S = x.S ++ [(x.L.length : Int)]) : aboveE u (x.S.length : Int) = 0 ∧ aboveI u (x.S.length : Int) = (dn.length : Int) := by
  refine ⟨?_, ?_⟩
  · unfold aboveE
    have hin : inB (x.S.length : Int) 0 ((u.S.length : Int) - 1) = true := inB_iff.2 (by rw [hS]; simp)
    rw [if_pos h, hin]
    rfl
  · unfold aboveI
    rw [hL, hS, Int.toNat_natCast, atI_snoc, List.length_append]
    omega
theorem sv_below {x : Tp} (h : mayT x = true) {dn : List Cp} : ∀ z ∈ x.S ++ [(x.L.length : Int)], z ≤ ((x.L ++ dn).length : Int) := by
  intro z hz
  rw [List.length_append]
  rcases List.mem_append.1 hz with hz | hz
  · have := may_below h z hz
    omega
  · have : z = (x.L.length : Int) := by simpa using hz
    omega
theorem sv_undo {x u : Tp} (hx : mayT x = true) {d : List Cp} {c : Cp} (hL : u.L = x.L ++ (d ++ [c])) (hS : u.S = x.S ++ [(x.L.length : Int)]) : (undoT u).L = x.L ++ d ∧ (undoT u).S = x.S ++ [(x.L.length : Int)] := by
  obtain ⟨i, s, f, l, L, S⟩ := u
  have hL : L = x.L ++ (d ++ [c]) := hL
  have hS : S = x.S ++ [(x.L.length : Int)] := hS
  subst hL hS
  rw [← List.append_assoc, (undo_noted i s f l (x.L ++ d) _ c (sv_below hx)).1]
  exact ⟨rfl, rfl⟩
theorem sv_gone {x u : Tp} (hu : mayT u = true) (hL : u.L = x.L) (hS : u.S = x.S ++ [(x.L.length : Int)]) (h0 : 0 < x.L.length) : aboveE (undoT u) (x.S.length : Int) = 3 := by
  have hm := undo_may hu
  have hlen : (undoT u).S.length ≤ x.S.length := by
    show (u.S.filter (leq (u.L.length - 1))).length ≤ _
    rw [hS, hL, List.filter_append]
    have e : [(x.L.length : Int)].filter (leq (x.L.length - 1)) = [] := by
      rw [List.filter_eq_nil_iff]
      intro z hz
      obtain rfl : z = (x.L.length : Int) := by simpa using hz
      unfold leq
      simp only [decide_eq_true_eq]
      omega
    rw [e, List.append_nil]
    exact List.length_filter_le _ _
  have hin : inB (x.S.length : Int) 0 (((undoT u).S.length : Int) - 1) = false := by
    unfold inB
    rw [Bool.and_eq_false_iff]
    exact .inr (decide_eq_false (by omega))
  unfold aboveE
  rw [if_pos hm, hin]
  rfl
set_option maxRecDepth 100000 in
set_option maxHeartbeats 25600000 in
theorem saves_walk (w : World) (x : TxD) (hx : x.At w) (A : Option Addr) (n c : Nat) (l : List ChD) (hl : Cs w A n c l) :
    Calls Try.prog 6 #[.agg #[.int .i64 x.id, .int .i64 x.st, .int .i64 x.f, .int .i64 x.l, .slice x.A x.n x.c, .slice x.B x.m x.d], .slice A n c] w fun e w' => e = .returned (.bool true) ∧ Below w.heap.size w w' := by
  obtain ⟨w1, hw1⟩ : ∃ w1, w.alloc (.cells #[.int .i64 x.id, .int .i64 x.st, .int .i64 x.f, .int .i64 x.l, .slice x.A x.n x.c, .slice x.B x.m x.d] 25) = w1 := ⟨_, rfl⟩
  have HB1 : Hid ((x : TxD).In w1 (w.heap.size)) := by
    rw [← hw1]
    have q := TxD.In.new (w) (x)
    exact q.keep (Mod.refl (fun _ => False) _)
  have HM1 : Hid (Mod (fun _ => False) w w1) := by rw [← hw1]; exact (Mod.refl (fun _ => False) w).alloc _
  have hz1 : w.heap.size + 1 ≤ w1.heap.size := by rw [← hw1]; simp
  have Kx1 := Lib.hid (hx.kp0.keep HM1.out)
  clear hx
  have Hl := Lib.hid hl
  have Hll := Lib.hid hl.len
  have hcap := hl.cap
  clear hl
  have HLt := Lib.hid (fun V (hV : Mod (fun _ => False) w1 V) => llight_ok V x ChD.zero (Kx1.out.keep hV).at_ (ChD.zero_at V))
  have Hsm : Hid ((ltB x.p && smB ChD.zero.p) = true → SmT x.p) := fun h => by
    rw [Bool.and_eq_true] at h
    exact SmT.lt h.1
  generalize (ltB x.p && smB ChD.zero.p) = b1 at *
  cases b1 with
  | false =>
    obtain ⟨c0, c1, c2, c3, c4, c5⟩ : w1.cell? ⟨w.heap.size, 0, none⟩ = some (.int .i64 x.id) ∧ w1.cell? ⟨w.heap.size, 1, none⟩ = some (.int .i64 x.st) ∧ w1.cell? ⟨w.heap.size, 2, none⟩ = some (.int .i64 x.f) ∧ w1.cell? ⟨w.heap.size, 3, none⟩ = some (.int .i64 x.l) ∧ w1.cell? ⟨w.heap.size, 4, none⟩ = some (.slice x.A x.n x.c) ∧ w1.cell? ⟨w.heap.size, 5, none⟩ = some (.slice x.B x.m x.d) := HB1.out.cells
    go_enter Try.func6, Try.ntmps6
    go_wp2_with fail
    refine (awake_ok w1).mono ?_
    rintro e w2 ⟨rfl, hm⟩
    have HM12 := Lib.hid hm
    have HM2 := Lib.hid (HM1.out.trans hm (fun _ _ h => h))
    have hz2 := hm.size
    have HB2 := Lib.hid (HB1.out.keep hm)
    have Kx2 := Lib.hid (Kx1.out.keep hm)
    clear hm hw1 c0 c1 c2 c3 c4 c5
    obtain ⟨c0, c1, c2, c3, c4, c5⟩ : w2.cell? ⟨w.heap.size, 0, none⟩ = some (.int .i64 x.id) ∧ w2.cell? ⟨w.heap.size, 1, none⟩ = some (.int .i64 x.st) ∧ w2.cell? ⟨w.heap.size, 2, none⟩ = some (.int .i64 x.f) ∧ w2.cell? ⟨w.heap.size, 3, none⟩ = some (.int .i64 x.l) ∧ w2.cell? ⟨w.heap.size, 4, none⟩ = some (.slice x.A x.n x.c) ∧ w2.cell? ⟨w.heap.size, 5, none⟩ = some (.slice x.B x.m x.d) := HB2.out.cells
    go_wp2_with fail
    refine (HLt.out _ HM12.out).mono ?_
    rintro e w3 ⟨rfl, hm⟩
    have HM3 := Lib.hid (HM2.out.trans hm (fun _ _ h => h))
    have hz3 := hm.size
    have HB3 := Lib.hid (HB2.out.keep hm)
    have Kx3 := Lib.hid (Kx2.out.keep hm)
    clear hm HM12 c0 c1 c2 c3 c4 c5
    obtain ⟨c0, c1, c2, c3, c4, c5⟩ : w3.cell? ⟨w.heap.size, 0, none⟩ = some (.int .i64 x.id) ∧ w3.cell? ⟨w.heap.size, 1, none⟩ = some (.int .i64 x.st) ∧ w3.cell? ⟨w.heap.size, 2, none⟩ = some (.int .i64 x.f) ∧ w3.cell? ⟨w.heap.size, 3, none⟩ = some (.int .i64 x.l) ∧ w3.cell? ⟨w.heap.size, 4, none⟩ = some (.slice x.A x.n x.c) ∧ w3.cell? ⟨w.heap.size, 5, none⟩ = some (.slice x.B x.m x.d) := HB3.out.cells
    go_wp2
    go_ret
    exact ⟨rfl, HM3.out.below (Nat.le_refl _) (fun _ _ h => h)⟩
  | true =>
  have Hsz := Lib.hid (Kx1.out.at_.sm (Hsm.out (by trivial)))
  clear Hsm
  have HMy := Lib.hid (fun V (hV : Mod (fun _ => False) w1 V) => may_ok V x (Kx1.out.keep hV).at_ Hsz.out.1 Hsz.out.2.1)
  by_cases k0 : (10 : Int) < (n : Int)
  · have e0 : decide ((10 : Int) < (n : Int)) = true := decide_eq_true k0
    have e0' : decide (10 < n) = true := decide_eq_true (by omega)
    clear k0
    obtain ⟨c0, c1, c2, c3, c4, c5⟩ : w1.cell? ⟨w.heap.size, 0, none⟩ = some (.int .i64 x.id) ∧ w1.cell? ⟨w.heap.size, 1, none⟩ = some (.int .i64 x.st) ∧ w1.cell? ⟨w.heap.size, 2, none⟩ = some (.int .i64 x.f) ∧ w1.cell? ⟨w.heap.size, 3, none⟩ = some (.int .i64 x.l) ∧ w1.cell? ⟨w.heap.size, 4, none⟩ = some (.slice x.A x.n x.c) ∧ w1.cell? ⟨w.heap.size, 5, none⟩ = some (.slice x.B x.m x.d) := HB1.out.cells
    go_enter Try.func6, Try.ntmps6
    go_wp2_with fail
    refine (awake_ok w1).mono ?_
    rintro e w2 ⟨rfl, hm⟩
    have HM12 := Lib.hid hm
    have HM2 := Lib.hid (HM1.out.trans hm (fun _ _ h => h))
    have hz2 := hm.size
    have HB2 := Lib.hid (HB1.out.keep hm)
    have Kx2 := Lib.hid (Kx1.out.keep hm)
    clear hm hw1 c0 c1 c2 c3 c4 c5
    obtain ⟨c0, c1, c2, c3, c4, c5⟩ : w2.cell? ⟨w.heap.size, 0, none⟩ = some (.int .i64 x.id) ∧ w2.cell? ⟨w.heap.size, 1, none⟩ = some (.int .i64 x.st) ∧ w2.cell? ⟨w.heap.size, 2, none⟩ = some (.int .i64 x.f) ∧ w2.cell? ⟨w.heap.size, 3, none⟩ = some (.int .i64 x.l) ∧ w2.cell? ⟨w.heap.size, 4, none⟩ = some (.slice x.A x.n x.c) ∧ w2.cell? ⟨w.heap.size, 5, none⟩ = some (.slice x.B x.m x.d) := HB2.out.cells
    go_wp2_with fail
    refine (HLt.out _ HM12.out).mono ?_
    rintro e w3 ⟨rfl, hm⟩
    have HM3 := Lib.hid (HM2.out.trans hm (fun _ _ h => h))
    have hz3 := hm.size
    have HB3 := Lib.hid (HB2.out.keep hm)
    have Kx3 := Lib.hid (Kx2.out.keep hm)
    clear hm HM12 c0 c1 c2 c3 c4 c5
    obtain ⟨c0, c1, c2, c3, c4, c5⟩ : w3.cell? ⟨w.heap.size, 0, none⟩ = some (.int .i64 x.id) ∧ w3.cell? ⟨w.heap.size, 1, none⟩ = some (.int .i64 x.st) ∧ w3.cell? ⟨w.heap.size, 2, none⟩ = some (.int .i64 x.f) ∧ w3.cell? ⟨w.heap.size, 3, none⟩ = some (.int .i64 x.l) ∧ w3.cell? ⟨w.heap.size, 4, none⟩ = some (.slice x.A x.n x.c) ∧ w3.cell? ⟨w.heap.size, 5, none⟩ = some (.slice x.B x.m x.d) := HB3.out.cells
    go_wp2
    go_ret
    exact ⟨rfl, HM3.out.below (Nat.le_refl _) (fun _ _ h => h)⟩
  have e0 : decide ((10 : Int) < (n : Int)) = false := decide_eq_false k0
  have e0' : decide (10 < n) = false := decide_eq_false (by omega)
  have hn10 : n ≤ 10 := by omega
  clear k0
  cases hb2 : mayT x.p with
  | false =>
    rw [hb2] at HMy
    clear hb2
    obtain ⟨c0, c1, c2, c3, c4, c5⟩ : w1.cell? ⟨w.heap.size, 0, none⟩ = some (.int .i64 x.id) ∧ w1.cell? ⟨w.heap.size, 1, none⟩ = some (.int .i64 x.st) ∧ w1.cell? ⟨w.heap.size, 2, none⟩ = some (.int .i64 x.f) ∧ w1.cell? ⟨w.heap.size, 3, none⟩ = some (.int .i64 x.l) ∧ w1.cell? ⟨w.heap.size, 4, none⟩ = some (.slice x.A x.n x.c) ∧ w1.cell? ⟨w.heap.size, 5, none⟩ = some (.slice x.B x.m x.d) := HB1.out.cells
    go_enter Try.func6, Try.ntmps6
    go_wp2_with fail
    refine (awake_ok w1).mono ?_
    rintro e w2 ⟨rfl, hm⟩
    have HM12 := Lib.hid hm
    have HM2 := Lib.hid (HM1.out.trans hm (fun _ _ h => h))
    have hz2 := hm.size
    have HB2 := Lib.hid (HB1.out.keep hm)
    have Kx2 := Lib.hid (Kx1.out.keep hm)
    clear hm hw1 c0 c1 c2 c3 c4 c5
    obtain ⟨c0, c1, c2, c3, c4, c5⟩ : w2.cell? ⟨w.heap.size, 0, none⟩ = some (.int .i64 x.id) ∧ w2.cell? ⟨w.heap.size, 1, none⟩ = some (.int .i64 x.st) ∧ w2.cell? ⟨w.heap.size, 2, none⟩ = some (.int .i64 x.f) ∧ w2.cell? ⟨w.heap.size, 3, none⟩ = some (.int .i64 x.l) ∧ w2.cell? ⟨w.heap.size, 4, none⟩ = some (.slice x.A x.n x.c) ∧ w2.cell? ⟨w.heap.size, 5, none⟩ = some (.slice x.B x.m x.d) := HB2.out.cells
    go_wp2_with fail
    refine (HLt.out _ HM12.out).mono ?_
    rintro e w3 ⟨rfl, hm⟩
    have HM13 := Lib.hid (HM12.out.trans hm (fun _ _ h => h))
    have HM3 := Lib.hid (HM2.out.trans hm (fun _ _ h => h))
    have hz3 := hm.size
    have HB3 := Lib.hid (HB2.out.keep hm)
    have Kx3 := Lib.hid (Kx2.out.keep hm)
    clear hm HM12 c0 c1 c2 c3 c4 c5
    obtain ⟨c0, c1, c2, c3, c4, c5⟩ : w3.cell? ⟨w.heap.size, 0, none⟩ = some (.int .i64 x.id) ∧ w3.cell? ⟨w.heap.size, 1, none⟩ = some (.int .i64 x.st) ∧ w3.cell? ⟨w.heap.size, 2, none⟩ = some (.int .i64 x.f) ∧ w3.cell? ⟨w.heap.size, 3, none⟩ = some (.int .i64 x.l) ∧ w3.cell? ⟨w.heap.size, 4, none⟩ = some (.slice x.A x.n x.c) ∧ w3.cell? ⟨w.heap.size, 5, none⟩ = some (.slice x.B x.m x.d) := HB3.out.cells
    go_wp2_with fail
    refine (HMy.out _ HM13.out).mono ?_
    rintro e w4 ⟨rfl, hm⟩
    have HM4 := Lib.hid (HM3.out.trans hm (fun _ _ h => h))
    have hz4 := hm.size
    have HB4 := Lib.hid (HB3.out.keep hm)
    have Kx4 := Lib.hid (Kx3.out.keep hm)
    clear hm HM13 c0 c1 c2 c3 c4 c5
    obtain ⟨c0, c1, c2, c3, c4, c5⟩ : w4.cell? ⟨w.heap.size, 0, none⟩ = some (.int .i64 x.id) ∧ w4.cell? ⟨w.heap.size, 1, none⟩ = some (.int .i64 x.st) ∧ w4.cell? ⟨w.heap.size, 2, none⟩ = some (.int .i64 x.f) ∧ w4.cell? ⟨w.heap.size, 3, none⟩ = some (.int .i64 x.l) ∧ w4.cell? ⟨w.heap.size, 4, none⟩ = some (.slice x.A x.n x.c) ∧ w4.cell? ⟨w.heap.size, 5, none⟩ = some (.slice x.B x.m x.d) := HB4.out.cells
    go_wp2
    go_ret
    exact ⟨rfl, HM4.out.below (Nat.le_refl _) (fun _ _ h => h)⟩
  | true =>
  rw [hb2] at HMy
  have Hm := Lib.hid hb2
  clear hb2
  obtain ⟨c0, c1, c2, c3, c4, c5⟩ : w1.cell? ⟨w.heap.size, 0, none⟩ = some (.int .i64 x.id) ∧ w1.cell? ⟨w.heap.size, 1, none⟩ = some (.int .i64 x.st) ∧ w1.cell? ⟨w.heap.size, 2, none⟩ = some (.int .i64 x.f) ∧ w1.cell? ⟨w.heap.size, 3, none⟩ = some (.int .i64 x.l) ∧ w1.cell? ⟨w.heap.size, 4, none⟩ = some (.slice x.A x.n x.c) ∧ w1.cell? ⟨w.heap.size, 5, none⟩ = some (.slice x.B x.m x.d) := HB1.out.cells
  go_enter Try.func6, Try.ntmps6
  go_wp2_with fail
  refine (awake_ok w1).mono ?_
  rintro e w2 ⟨rfl, hm⟩
  have HM12 := Lib.hid hm
  have HM2 := Lib.hid (HM1.out.trans hm (fun _ _ h => h))
  have hz2 := hm.size
  have HB2 := Lib.hid (HB1.out.keep hm)
  have Kx2 := Lib.hid (Kx1.out.keep hm)
  clear hm hw1 c0 c1 c2 c3 c4 c5
  obtain ⟨c0, c1, c2, c3, c4, c5⟩ : w2.cell? ⟨w.heap.size, 0, none⟩ = some (.int .i64 x.id) ∧ w2.cell? ⟨w.heap.size, 1, none⟩ = some (.int .i64 x.st) ∧ w2.cell? ⟨w.heap.size, 2, none⟩ = some (.int .i64 x.f) ∧ w2.cell? ⟨w.heap.size, 3, none⟩ = some (.int .i64 x.l) ∧ w2.cell? ⟨w.heap.size, 4, none⟩ = some (.slice x.A x.n x.c) ∧ w2.cell? ⟨w.heap.size, 5, none⟩ = some (.slice x.B x.m x.d) := HB2.out.cells
  go_wp2_with fail
  refine (HLt.out _ HM12.out).mono ?_
  rintro e w3 ⟨rfl, hm⟩
  have HM13 := Lib.hid (HM12.out.trans hm (fun _ _ h => h))
  have HM3 := Lib.hid (HM2.out.trans hm (fun _ _ h => h))
  have hz3 := hm.size
  have HB3 := Lib.hid (HB2.out.keep hm)
  have Kx3 := Lib.hid (Kx2.out.keep hm)
  clear hm HM12 c0 c1 c2 c3 c4 c5
  obtain ⟨c0, c1, c2, c3, c4, c5⟩ : w3.cell? ⟨w.heap.size, 0, none⟩ = some (.int .i64 x.id) ∧ w3.cell? ⟨w.heap.size, 1, none⟩ = some (.int .i64 x.st) ∧ w3.cell? ⟨w.heap.size, 2, none⟩ = some (.int .i64 x.f) ∧ w3.cell? ⟨w.heap.size, 3, none⟩ = some (.int .i64 x.l) ∧ w3.cell? ⟨w.heap.size, 4, none⟩ = some (.slice x.A x.n x.c) ∧ w3.cell? ⟨w.heap.size, 5, none⟩ = some (.slice x.B x.m x.d) := HB3.out.cells
  go_wp2_with fail
  refine (HMy.out _ HM13.out).mono ?_
  rintro e w4 ⟨rfl, hm⟩
  have HM4 := Lib.hid (HM3.out.trans hm (fun _ _ h => h))
  have hz4 := hm.size
  have HB4 := Lib.hid (HB3.out.keep hm)
  have Kx4 := Lib.hid (Kx3.out.keep hm)
  clear hm HM13 c0 c1 c2 c3 c4 c5
  obtain ⟨c0, c1, c2, c3, c4, c5⟩ : w4.cell? ⟨w.heap.size, 0, none⟩ = some (.int .i64 x.id) ∧ w4.cell? ⟨w.heap.size, 1, none⟩ = some (.int .i64 x.st) ∧ w4.cell? ⟨w.heap.size, 2, none⟩ = some (.int .i64 x.f) ∧ w4.cell? ⟨w.heap.size, 3, none⟩ = some (.int .i64 x.l) ∧ w4.cell? ⟨w.heap.size, 4, none⟩ = some (.slice x.A x.n x.c) ∧ w4.cell? ⟨w.heap.size, 5, none⟩ = some (.slice x.B x.m x.d) := HB4.out.cells
  by_cases hE : saveE x.p = 0
  · have HE := Lib.hid hE
    clear hE
    go_wp2_with fail
    refine ((save_ok w4 x Kx4.out.at_ Hsz.out.1 Hsz.out.2.1).mono (fun e w' h => (SvAns.rs (b0 := w.heap.size) h).at 0 (x.m : Int) HE.out rfl)).mono ?_
    rintro e w5 ⟨su, rfl, hk, hp, hm⟩
    have HM5 := Lib.hid (HM4.out.trans hm (fun _ _ h => h))
    have hz5 := hm.size
    have HB5 := Lib.hid (HB4.out.keep hm)
    have Kx5 := Lib.hid (Kx4.out.keep hm)
    clear hm
    have Ksu5 := Lib.hid hk
    have Psu := Lib.hid hp
    clear hk hp
    clear c0 c1 c2 c3 c4 c5
    have Psu2 : Hid (su.p = saveT x.p) := by show _ = _; have := Psu.out; rwa [if_pos rfl] at this
    clear Psu
    obtain ⟨w6, hw6⟩ : ∃ w6, w5.alloc (.cells #[.int .i64 su.id, .int .i64 su.st, .int .i64 su.f, .int .i64 su.l, .slice su.A su.n su.c, .slice su.B su.m su.d] 25) = w6 := ⟨_, rfl⟩
    have ha6 : Mod (fun _ => False) w5 w6 := by rw [← hw6]; exact (Mod.refl _ w5).alloc _
    have hz6 : w5.heap.size + 1 ≤ w6.heap.size := by rw [← hw6]; simp
    have HU6 : Hid ((su : TxD).In w6 w5.heap.size) := by rw [← hw6]; exact TxD.In.new w5 su
    have HM6 := Lib.hid (HM5.out.trans ha6 (fun _ _ h => h))
    have HB6 := Lib.hid (HB5.out.keep ha6)
    have Kx6 := Lib.hid (Kx5.out.keep ha6)
    have Ksu6 := Lib.hid (Ksu5.out.keep ha6)
    clear ha6
    have hgu : w.heap.size + 1 ≤ w5.heap.size := by omega
    have Hnx : Hid (x.n ≤ 6 ∧ x.m ≤ 4) := by
      have h1 := may_len Hm.out
      have h2 := Kx6.out.at_.nL
      have h3 := Kx6.out.at_.nS
      rw [h2, h3] at h1
      exact h1
    have Hln : Hid (x.p.L.length = x.n) := Kx6.out.at_.nL
    have HlS : Hid (x.p.S.length = x.m) := Kx6.out.at_.nS
    have hfr : SvFr w w6 x su w5.heap.size [] := ⟨HM6.out, Kx6.out, HB6.out, Ksu6.out, HU6.out, by rw [Psu2.out]; exact save_may HE.out, by rw [Psu2.out, List.append_nil]; rfl, by rw [Psu2.out]; rfl⟩
    have Hfr := Lib.hid hfr
    clear hfr HM2 HM3 HM4 HM5 HM6
    obtain ⟨c0, c1, c2, c3, c4, c5⟩ : w6.cell? ⟨w.heap.size, 0, none⟩ = some (.int .i64 x.id) ∧ w6.cell? ⟨w.heap.size, 1, none⟩ = some (.int .i64 x.st) ∧ w6.cell? ⟨w.heap.size, 2, none⟩ = some (.int .i64 x.f) ∧ w6.cell? ⟨w.heap.size, 3, none⟩ = some (.int .i64 x.l) ∧ w6.cell? ⟨w.heap.size, 4, none⟩ = some (.slice x.A x.n x.c) ∧ w6.cell? ⟨w.heap.size, 5, none⟩ = some (.slice x.B x.m x.d) := HB6.out.cells
    generalize hgU : w5.heap.size = gU at *
    go_wp2_with fail
    clear hgU e0 e0' hw6 c0 c1 c2 c3 c4 c5
    go_loopw [10, 11] (fun many k wr => ∃ (i : Nat) (u : TxD) (dn : List Cp), k = .int .i64 i ∧ many = .int .i64 (dn.length : Int) ∧ i ≤ n ∧ SvFr w wr x u gU dn) (fun _ k _ => n - (intOf k).toNat)
    case atStart => exact ⟨0, su, [], rfl, rfl, by omega, Hfr.out⟩
    case round =>
      obtain ⟨i, u, dn, rfl, rfl, hi, hf⟩ := hrel
      have HF := Lib.hid hf
      clear hf Hfr
      have HM20 := Lib.hid HF.out.old
      have HB20 := Lib.hid HF.out.bx
      have HU20 := Lib.hid HF.out.bu
      have Kx20 := Lib.hid HF.out.kx
      have Ku20 := Lib.hid HF.out.ku
      have Hmu := Lib.hid HF.out.may
      have hz20 : gU + 1 ≤ wr.heap.size := HF.out.bu.lt
      have Hnu := Lib.hid (HF.out.ku.at_.sm (SmT.may HF.out.may))
      have hdn := dn_len HF.out.may HF.out.L
      by_cases hlt : i < n
      · obtain ⟨y, hy⟩ : ∃ y, l[i]? = some y := ⟨_, List.getElem?_eq_getElem (by rw [Hll.out]; exact hlt)⟩
        have hlr := Hl.out.keep HM20.out
        obtain ⟨b, o, hA, hcs⟩ := hlr.cells (by omega)
        have Hcy := Lib.hid (hcs i y hy)
        have Hya := Lib.hid (hlr.ats y (List.mem_of_getElem? hy))
        obtain ⟨s0, s1, s2, s3, s4, s5, s6⟩ := hcs i y hy
        have l1 : i < c := by omega
        rw [hA]
        clear hcs hA hlr hy
        by_cases k0 : (100 : Int) < (y.o.m : Int)
        · have e0 : decide ((100 : Int) < (y.o.m : Int)) = true := decide_eq_true k0
          have e0' : decide (100 < y.o.m) = true := decide_eq_true (by omega)
          clear k0
          go_wp2
          go_ret
          exact ⟨rfl, HM20.out.below (Nat.le_refl _) (fun _ _ h => h)⟩
        have e0 : decide ((100 : Int) < (y.o.m : Int)) = false := decide_eq_false k0
        have e0' : decide (100 < y.o.m) = false := decide_eq_false (by omega)
        by_cases k1 : (100 : Int) < (y.v.m : Int)
        · have e1 : decide ((100 : Int) < (y.v.m : Int)) = true := decide_eq_true k1
          have e1' : decide (100 < y.v.m) = true := decide_eq_true (by omega)
          clear k0 k1
          go_wp2
          go_ret
          exact ⟨rfl, HM20.out.below (Nat.le_refl _) (fun _ _ h => h)⟩
        have e1 : decide ((100 : Int) < (y.v.m : Int)) = false := decide_eq_false k1
        have e1' : decide (100 < y.v.m) = false := decide_eq_false (by omega)
        clear k0 k1
        obtain ⟨d0, d1, d2, d3, d4, d5⟩ : wr.cell? ⟨gU, 0, none⟩ = some (.int .i64 u.id) ∧ wr.cell? ⟨gU, 1, none⟩ = some (.int .i64 u.st) ∧ wr.cell? ⟨gU, 2, none⟩ = some (.int .i64 u.f) ∧ wr.cell? ⟨gU, 3, none⟩ = some (.int .i64 u.l) ∧ wr.cell? ⟨gU, 4, none⟩ = some (.slice u.A u.n u.c) ∧ wr.cell? ⟨gU, 5, none⟩ = some (.slice u.B u.m u.d) := HU20.out.cells
        have HSt : Hid (∀ V, Mod (fun _ => False) wr V → (V.cell? ⟨gU, 0, none⟩ = some (.int .i64 u.id) ∧ V.cell? ⟨gU, 1, none⟩ = some (.int .i64 u.st) ∧ V.cell? ⟨gU, 2, none⟩ = some (.int .i64 u.f) ∧ V.cell? ⟨gU, 3, none⟩ = some (.int .i64 u.l) ∧ V.cell? ⟨gU, 4, none⟩ = some (.slice u.A u.n u.c) ∧ V.cell? ⟨gU, 5, none⟩ = some (.slice u.B u.m u.d)) ∧ (V.cell? ⟨b, o + i * 7, none⟩ = some (.int .i64 y.lsn) ∧ V.cell? ⟨b, o + i * 7 + 1, none⟩ = some (.int .i64 y.page) ∧ V.cell? ⟨b, o + i * 7 + 2, none⟩ = some (.int .i64 y.key) ∧ V.cell? ⟨b, o + i * 7 + 3, none⟩ = some (.bool y.o.is) ∧ V.cell? ⟨b, o + i * 7 + 4, none⟩ = some (.slice y.o.B y.o.m y.o.d) ∧ V.cell? ⟨b, o + i * 7 + 5, none⟩ = some (.bool y.v.is) ∧ V.cell? ⟨b, o + i * 7 + 6, none⟩ = some (.slice y.v.B y.v.m y.v.d))) := fun V hV => by
          have q3 := Hcy.out.keep (hV.block b Hcy.out.lt (fun h => h))
          exact ⟨(HU20.out.keep hV).cells, q3.c0, q3.c1, q3.c2, q3.c3, q3.c4, q3.c5, q3.c6⟩
        have HNt := Lib.hid (fun V (hV : Mod (fun _ => False) wr V) => (note_ok V u y (Ku20.out.keep hV).at_ (Hya.out.keep hV) Hnu.out.1 Hnu.out.2.1).mono (fun e w' h => NwAns.rn (b0 := w.heap.size) h))
        obtain ⟨v0, hv0⟩ : ∃ v0, wr.drew = v0 := ⟨_, rfl⟩
        have N0 : Hid (Mod (fun _ => False) wr v0) := by rw [← hv0]; exact (Mod.refl _ wr).drew
        have HV0 := Lib.hid hv0
        clear hv0
        go_upto_region 14 with fail
        go_cut [12, 13] from 64 to 114 (fun p E wx => ∃ (q : TxD) (gQ : Nat), p = .pointer (some ⟨gQ, 0, none⟩) ∧ E = .int .i64 (noteE u.p y.p) ∧ wr.heap.size ≤ gQ ∧ q.In wx gQ ∧ Kp w.heap.size wx q ∧ q.p = (if noteE u.p y.p = 0 then noteT u.p y.p else noT) ∧ Mod (fun _ => False) wr wx)
        case first =>
          refine wp_region_held (S := (fun V : World => (V.cell? ⟨gU, 0, none⟩ = some (.int .i64 u.id) ∧ V.cell? ⟨gU, 1, none⟩ = some (.int .i64 u.st) ∧ V.cell? ⟨gU, 2, none⟩ = some (.int .i64 u.f) ∧ V.cell? ⟨gU, 3, none⟩ = some (.int .i64 u.l) ∧ V.cell? ⟨gU, 4, none⟩ = some (.slice u.A u.n u.c) ∧ V.cell? ⟨gU, 5, none⟩ = some (.slice u.B u.m u.d)) ∧ (V.cell? ⟨b, o + i * 7, none⟩ = some (.int .i64 y.lsn) ∧ V.cell? ⟨b, o + i * 7 + 1, none⟩ = some (.int .i64 y.page) ∧ V.cell? ⟨b, o + i * 7 + 2, none⟩ = some (.int .i64 y.key) ∧ V.cell? ⟨b, o + i * 7 + 3, none⟩ = some (.bool y.o.is) ∧ V.cell? ⟨b, o + i * 7 + 4, none⟩ = some (.slice y.o.B y.o.m y.o.d) ∧ V.cell? ⟨b, o + i * 7 + 5, none⟩ = some (.bool y.v.is) ∧ V.cell? ⟨b, o + i * 7 + 6, none⟩ = some (.slice y.v.B y.v.m y.v.d)))) (by kernel_rfl) ?_
          change wpAnyH _ _ _ _ _ _ _ _ wr.drew
          rw [HV0.out]
          have hI := (show (fun V : World => (V.cell? ⟨gU, 0, none⟩ = some (.int .i64 u.id) ∧ V.cell? ⟨gU, 1, none⟩ = some (.int .i64 u.st) ∧ V.cell? ⟨gU, 2, none⟩ = some (.int .i64 u.f) ∧ V.cell? ⟨gU, 3, none⟩ = some (.int .i64 u.l) ∧ V.cell? ⟨gU, 4, none⟩ = some (.slice u.A u.n u.c) ∧ V.cell? ⟨gU, 5, none⟩ = some (.slice u.B u.m u.d)) ∧ (V.cell? ⟨b, o + i * 7, none⟩ = some (.int .i64 y.lsn) ∧ V.cell? ⟨b, o + i * 7 + 1, none⟩ = some (.int .i64 y.page) ∧ V.cell? ⟨b, o + i * 7 + 2, none⟩ = some (.int .i64 y.key) ∧ V.cell? ⟨b, o + i * 7 + 3, none⟩ = some (.bool y.o.is) ∧ V.cell? ⟨b, o + i * 7 + 4, none⟩ = some (.slice y.o.B y.o.m y.o.d) ∧ V.cell? ⟨b, o + i * 7 + 5, none⟩ = some (.bool y.v.is) ∧ V.cell? ⟨b, o + i * 7 + 6, none⟩ = some (.slice y.v.B y.v.m y.v.d))) _ from HSt.out _ N0.out)
          refine rg_take (n := 11) (v := ?_) 0 (some 89) rfl rfl (by kernel_rfl) (by kernel_rfl) (by kernel_rfl) (fun _ _ _ h => h) (by rfl) hI ?_ ?_
          rotate_left
          · ((intro w hSw; (try dsimp only at hSw); go_simp); (try with_reducible rfl))
          try simp only [Act.put, List.setIfInBounds_toArray, List.set_cons_zero, List.set_cons_succ]
          refine rg_take (n := 10) (v := ?_) 1 (some 90) rfl rfl (by kernel_rfl) (by kernel_rfl) (by kernel_rfl) (fun _ _ _ h => h) (by rfl) hI ?_ ?_
          rotate_left
          · ((intro w hSw; (try dsimp only at hSw); go_simp); (try with_reducible rfl))
          try simp only [Act.put, List.setIfInBounds_toArray, List.set_cons_zero, List.set_cons_succ]
          refine rg_take (n := 9) (v := ?_) 2 (some 91) rfl rfl (by kernel_rfl) (by kernel_rfl) (by kernel_rfl) (fun _ _ _ h => h) (by rfl) hI ?_ ?_
          rotate_left
          · ((intro w hSw; (try dsimp only at hSw); go_simp); (try with_reducible rfl))
          try simp only [Act.put, List.setIfInBounds_toArray, List.set_cons_zero, List.set_cons_succ]
          refine rg_take (n := 8) (v := ?_) 3 (some 92) rfl rfl (by kernel_rfl) (by kernel_rfl) (by kernel_rfl) (fun _ _ _ h => h) (by rfl) hI ?_ ?_
          rotate_left
          · ((intro w hSw; (try dsimp only at hSw); go_simp); (try with_reducible rfl))
          try simp only [Act.put, List.setIfInBounds_toArray, List.set_cons_zero, List.set_cons_succ]
          refine rg_take (n := 7) (v := ?_) 4 (some 93) rfl rfl (by kernel_rfl) (by kernel_rfl) (by kernel_rfl) (fun _ _ _ h => h) (by rfl) hI ?_ ?_
          rotate_left
          · ((intro w hSw; (try dsimp only at hSw); go_simp); (try with_reducible rfl))
          try simp only [Act.put, List.setIfInBounds_toArray, List.set_cons_zero, List.set_cons_succ]
          refine rg_two (n := 6) 5 9 rfl rfl (by kernel_rfl) (by rfl) (by rfl) ?_ ?_
          · go_simp
            go_at_call 12
            refine (HNt.out _ N0.out).mono ?_
            rintro e v1 ⟨q, rfl, hk, hp, hm⟩
            have N1 := Lib.hid (N0.out.trans hm (fun _ _ h => h))
            have HK := Lib.hid hk
            have HP := Lib.hid hp
            clear hk hp hm hI
            have hI := (show (fun V : World => (V.cell? ⟨gU, 0, none⟩ = some (.int .i64 u.id) ∧ V.cell? ⟨gU, 1, none⟩ = some (.int .i64 u.st) ∧ V.cell? ⟨gU, 2, none⟩ = some (.int .i64 u.f) ∧ V.cell? ⟨gU, 3, none⟩ = some (.int .i64 u.l) ∧ V.cell? ⟨gU, 4, none⟩ = some (.slice u.A u.n u.c) ∧ V.cell? ⟨gU, 5, none⟩ = some (.slice u.B u.m u.d)) ∧ (V.cell? ⟨b, o + i * 7, none⟩ = some (.int .i64 y.lsn) ∧ V.cell? ⟨b, o + i * 7 + 1, none⟩ = some (.int .i64 y.page) ∧ V.cell? ⟨b, o + i * 7 + 2, none⟩ = some (.int .i64 y.key) ∧ V.cell? ⟨b, o + i * 7 + 3, none⟩ = some (.bool y.o.is) ∧ V.cell? ⟨b, o + i * 7 + 4, none⟩ = some (.slice y.o.B y.o.m y.o.d) ∧ V.cell? ⟨b, o + i * 7 + 5, none⟩ = some (.bool y.v.is) ∧ V.cell? ⟨b, o + i * 7 + 6, none⟩ = some (.slice y.v.B y.v.m y.v.d))) _ from HSt.out _ N1.out)
            refine ⟨hI, ?_⟩
            try simp only [Act.put, List.setIfInBounds_toArray, List.set_cons_zero, List.set_cons_succ]
            refine rg_take (n := 5) (v := ?_) 6 (some 88) rfl rfl (by kernel_rfl) (by kernel_rfl) (by kernel_rfl) (fun _ _ _ h => h) (by rfl) hI ?_ ?_
            rotate_left
            · ((intro w hSw; (try dsimp only at hSw); go_simp); (try with_reducible rfl))
            try simp only [Act.put, List.setIfInBounds_toArray, List.set_cons_zero, List.set_cons_succ]
            refine rg_take (n := 4) (v := ?_) 7 (some 95) rfl rfl (by kernel_rfl) (by kernel_rfl) (by kernel_rfl) (fun _ _ _ h => h) (by rfl) hI ?_ ?_
            rotate_left
            · ((intro w hSw; (try dsimp only at hSw); go_simp); (try with_reducible rfl))
            try simp only [Act.put, List.setIfInBounds_toArray, List.set_cons_zero, List.set_cons_succ]
            refine rg_take (n := 3) (v := ?_) 8 (some 96) rfl rfl (by kernel_rfl) (by kernel_rfl) (by kernel_rfl) (fun _ _ _ h => h) (by rfl) hI ?_ ?_
            rotate_left
            · ((intro w hSw; (try dsimp only at hSw); go_simp); (try with_reducible rfl))
            try simp only [Act.put, List.setIfInBounds_toArray, List.set_cons_zero, List.set_cons_succ]
            obtain ⟨v2, hv2⟩ : ∃ v2, v1.alloc (.cells #[.int .i64 0, .int .i64 0, .int .i64 0, .int .i64 0, .slice none 0 0, .slice none 0 0] 25) = v2 := ⟨_, rfl⟩
            have ha2 : Mod (fun _ => False) v1 v2 := by rw [← hv2]; exact (Mod.refl _ v1).alloc _
            have hi2 : TxD.zero.In v2 v1.heap.size := by rw [← hv2]; exact TxD.In.new v1 TxD.zero
            have N2 := Lib.hid (N1.out.trans ha2 (fun _ _ h => h))
            have hz2 : wr.heap.size ≤ v1.heap.size := N1.out.size
            refine rg_one (n := 2) 9 rfl (by kernel_rfl) (by rfl) ?_
            go_simp
            clear hI
            have hI := (show (fun V : World => (V.cell? ⟨gU, 0, none⟩ = some (.int .i64 u.id) ∧ V.cell? ⟨gU, 1, none⟩ = some (.int .i64 u.st) ∧ V.cell? ⟨gU, 2, none⟩ = some (.int .i64 u.f) ∧ V.cell? ⟨gU, 3, none⟩ = some (.int .i64 u.l) ∧ V.cell? ⟨gU, 4, none⟩ = some (.slice u.A u.n u.c) ∧ V.cell? ⟨gU, 5, none⟩ = some (.slice u.B u.m u.d)) ∧ (V.cell? ⟨b, o + i * 7, none⟩ = some (.int .i64 y.lsn) ∧ V.cell? ⟨b, o + i * 7 + 1, none⟩ = some (.int .i64 y.page) ∧ V.cell? ⟨b, o + i * 7 + 2, none⟩ = some (.int .i64 y.key) ∧ V.cell? ⟨b, o + i * 7 + 3, none⟩ = some (.bool y.o.is) ∧ V.cell? ⟨b, o + i * 7 + 4, none⟩ = some (.slice y.o.B y.o.m y.o.d) ∧ V.cell? ⟨b, o + i * 7 + 5, none⟩ = some (.bool y.v.is) ∧ V.cell? ⟨b, o + i * 7 + 6, none⟩ = some (.slice y.v.B y.v.m y.v.d))) _ from HSt.out _ N2.out)
            refine ⟨hI, ?_⟩
            try simp only [Act.put, List.setIfInBounds_toArray, List.set_cons_zero, List.set_cons_succ]
            have hz0 := hi2
            have g0 := hz0.fz 0
            have g1 := hz0.fz 1
            have g2 := hz0.fz 2
            have g3 := hz0.fz 3
            have g4 := hz0.fz 4
            have g5 := hz0.fz 5
            obtain ⟨r0, r1, r2, r3, r4, r5⟩ : v2.cell? ⟨v1.heap.size, 0, none⟩ = some (.int .i64 0) ∧ v2.cell? ⟨v1.heap.size, 1, none⟩ = some (.int .i64 0) ∧ v2.cell? ⟨v1.heap.size, 2, none⟩ = some (.int .i64 0) ∧ v2.cell? ⟨v1.heap.size, 3, none⟩ = some (.int .i64 0) ∧ v2.cell? ⟨v1.heap.size, 4, none⟩ = some (.slice none 0 0) ∧ v2.cell? ⟨v1.heap.size, 5, none⟩ = some (.slice none 0 0) := hz0.cells
            obtain ⟨v3, hv3⟩ : ∃ v3, (((((v2.setCell ⟨v1.heap.size, 0, none⟩ (.int .i64 q.id)).setCell ⟨v1.heap.size, 1, none⟩ (.int .i64 q.st)).setCell ⟨v1.heap.size, 2, none⟩ (.int .i64 q.f)).setCell ⟨v1.heap.size, 3, none⟩ (.int .i64 q.l)).setCell ⟨v1.heap.size, 4, none⟩ (.slice q.A q.n q.c)).setCell ⟨v1.heap.size, 5, none⟩ (.slice q.B q.m q.d) = v3 := ⟨_, rfl⟩
            have hq0 : stT v2 (v1.heap.size) q = v3 := hv3
            have hs0 : Mod (fun k => k = v1.heap.size) v2 v3 := by rw [← hq0]; exact stT_mod _ _ q
            have HQ : Hid (q.In v3 (v1.heap.size)) := by rw [← hq0]; exact hz0.set q
            have NZ : Hid (Mod (fun _ => False) wr v3) := N2.out.trans hs0 (fun k hk e => by omega)
            have hm3 : Mod (fun _ => False) v1 v3 := ha2.trans hs0 (fun k hk e => by omega)
            have HKZ := Lib.hid (HK.out.keep hm3)
            have Hge := Lib.hid hz2
            clear hz0 hq0 hs0 ha2 hi2 hm3 hz2
            refine rg_one (n := 1) 10 rfl (by kernel_rfl) (by rfl) ?_
            go_simp
            clear hI
            have hI := (show (fun V : World => (V.cell? ⟨gU, 0, none⟩ = some (.int .i64 u.id) ∧ V.cell? ⟨gU, 1, none⟩ = some (.int .i64 u.st) ∧ V.cell? ⟨gU, 2, none⟩ = some (.int .i64 u.f) ∧ V.cell? ⟨gU, 3, none⟩ = some (.int .i64 u.l) ∧ V.cell? ⟨gU, 4, none⟩ = some (.slice u.A u.n u.c) ∧ V.cell? ⟨gU, 5, none⟩ = some (.slice u.B u.m u.d)) ∧ (V.cell? ⟨b, o + i * 7, none⟩ = some (.int .i64 y.lsn) ∧ V.cell? ⟨b, o + i * 7 + 1, none⟩ = some (.int .i64 y.page) ∧ V.cell? ⟨b, o + i * 7 + 2, none⟩ = some (.int .i64 y.key) ∧ V.cell? ⟨b, o + i * 7 + 3, none⟩ = some (.bool y.o.is) ∧ V.cell? ⟨b, o + i * 7 + 4, none⟩ = some (.slice y.o.B y.o.m y.o.d) ∧ V.cell? ⟨b, o + i * 7 + 5, none⟩ = some (.bool y.v.is) ∧ V.cell? ⟨b, o + i * 7 + 6, none⟩ = some (.slice y.v.B y.v.m y.v.d))) _ from HSt.out _ NZ.out)
            refine ⟨hI, ?_⟩
            try simp only [Act.put]
            refine rg_take (n := 0) (v := ?_) 11 (some 13) rfl rfl (by kernel_rfl) (by kernel_rfl) (by kernel_rfl) (fun _ _ _ h => h) (by rfl) hI ?_ ?_
            rotate_left
            · ((intro w hSw; (try dsimp only at hSw); go_simp); (try with_reducible rfl))
            try simp only [Act.put, List.setIfInBounds_toArray, List.set_cons_zero, List.set_cons_succ]
            refine wpAnyH_done (by kernel_rfl) ?_ _
            clear hI
            go_wp2_with fail
            go_meet
            exact ⟨q, v1.heap.size, rfl, rfl, Hge.out, HQ.out, HKZ.out, HP.out, NZ.out⟩
          · obtain ⟨v1, hv1⟩ : ∃ v1, v0.alloc (.cells #[.int .i64 0, .int .i64 0, .int .i64 0, .int .i64 0, .slice none 0 0, .slice none 0 0] 25) = v1 := ⟨_, rfl⟩
            have ha1 : Mod (fun _ => False) v0 v1 := by rw [← hv1]; exact (Mod.refl _ v0).alloc _
            have HI1 : Hid (TxD.zero.In v1 v0.heap.size) := by rw [← hv1]; exact TxD.In.new v0 TxD.zero
            have N1 := Lib.hid (N0.out.trans ha1 (fun _ _ h => h))
            have Hlt : Hid (v0.heap.size < v1.heap.size) := HI1.out.lt
            clear ha1
            go_simp
            clear hI
            have hI := (show (fun V : World => (V.cell? ⟨gU, 0, none⟩ = some (.int .i64 u.id) ∧ V.cell? ⟨gU, 1, none⟩ = some (.int .i64 u.st) ∧ V.cell? ⟨gU, 2, none⟩ = some (.int .i64 u.f) ∧ V.cell? ⟨gU, 3, none⟩ = some (.int .i64 u.l) ∧ V.cell? ⟨gU, 4, none⟩ = some (.slice u.A u.n u.c) ∧ V.cell? ⟨gU, 5, none⟩ = some (.slice u.B u.m u.d)) ∧ (V.cell? ⟨b, o + i * 7, none⟩ = some (.int .i64 y.lsn) ∧ V.cell? ⟨b, o + i * 7 + 1, none⟩ = some (.int .i64 y.page) ∧ V.cell? ⟨b, o + i * 7 + 2, none⟩ = some (.int .i64 y.key) ∧ V.cell? ⟨b, o + i * 7 + 3, none⟩ = some (.bool y.o.is) ∧ V.cell? ⟨b, o + i * 7 + 4, none⟩ = some (.slice y.o.B y.o.m y.o.d) ∧ V.cell? ⟨b, o + i * 7 + 5, none⟩ = some (.bool y.v.is) ∧ V.cell? ⟨b, o + i * 7 + 6, none⟩ = some (.slice y.v.B y.v.m y.v.d))) _ from HSt.out _ N1.out)
            refine ⟨hI, ?_⟩
            try simp only [Act.put, List.setIfInBounds_toArray, List.set_cons_zero, List.set_cons_succ]
            refine rg_one (n := 5) 5 rfl (by kernel_rfl) (by rfl) ?_
            go_simp
            go_at_call 12
            refine (HNt.out _ N1.out).mono ?_
            rintro e v2 ⟨q, rfl, hk, hp, hm⟩
            have N2 := Lib.hid (N1.out.trans hm (fun _ _ h => h))
            have HK := Lib.hid hk
            have HP := Lib.hid hp
            have HI2 := Lib.hid (HI1.out.keep hm)
            have Hmm := Lib.hid hm
            clear hk hp hm hI hv1
            have hI := (show (fun V : World => (V.cell? ⟨gU, 0, none⟩ = some (.int .i64 u.id) ∧ V.cell? ⟨gU, 1, none⟩ = some (.int .i64 u.st) ∧ V.cell? ⟨gU, 2, none⟩ = some (.int .i64 u.f) ∧ V.cell? ⟨gU, 3, none⟩ = some (.int .i64 u.l) ∧ V.cell? ⟨gU, 4, none⟩ = some (.slice u.A u.n u.c) ∧ V.cell? ⟨gU, 5, none⟩ = some (.slice u.B u.m u.d)) ∧ (V.cell? ⟨b, o + i * 7, none⟩ = some (.int .i64 y.lsn) ∧ V.cell? ⟨b, o + i * 7 + 1, none⟩ = some (.int .i64 y.page) ∧ V.cell? ⟨b, o + i * 7 + 2, none⟩ = some (.int .i64 y.key) ∧ V.cell? ⟨b, o + i * 7 + 3, none⟩ = some (.bool y.o.is) ∧ V.cell? ⟨b, o + i * 7 + 4, none⟩ = some (.slice y.o.B y.o.m y.o.d) ∧ V.cell? ⟨b, o + i * 7 + 5, none⟩ = some (.bool y.v.is) ∧ V.cell? ⟨b, o + i * 7 + 6, none⟩ = some (.slice y.v.B y.v.m y.v.d))) _ from HSt.out _ N2.out)
            refine ⟨hI, ?_⟩
            try simp only [Act.put, List.setIfInBounds_toArray, List.set_cons_zero, List.set_cons_succ]
            refine rg_take (n := 4) (v := ?_) 6 (some 88) rfl rfl (by kernel_rfl) (by kernel_rfl) (by kernel_rfl) (fun _ _ _ h => h) (by rfl) hI ?_ ?_
            rotate_left
            · ((intro w hSw; (try dsimp only at hSw); go_simp); (try with_reducible rfl))
            try simp only [Act.put, List.setIfInBounds_toArray, List.set_cons_zero, List.set_cons_succ]
            refine rg_take (n := 3) (v := ?_) 7 (some 95) rfl rfl (by kernel_rfl) (by kernel_rfl) (by kernel_rfl) (fun _ _ _ h => h) (by rfl) hI ?_ ?_
            rotate_left
            · ((intro w hSw; (try dsimp only at hSw); go_simp); (try with_reducible rfl))
            try simp only [Act.put, List.setIfInBounds_toArray, List.set_cons_zero, List.set_cons_succ]
            refine rg_take (n := 2) (v := ?_) 8 (some 96) rfl rfl (by kernel_rfl) (by kernel_rfl) (by kernel_rfl) (fun _ _ _ h => h) (by rfl) hI ?_ ?_
            rotate_left
            · ((intro w hSw; (try dsimp only at hSw); go_simp); (try with_reducible rfl))
            try simp only [Act.put, List.setIfInBounds_toArray, List.set_cons_zero, List.set_cons_succ]
            have hz0 := HI2.out
            have g0 := hz0.fz 0
            have g1 := hz0.fz 1
            have g2 := hz0.fz 2
            have g3 := hz0.fz 3
            have g4 := hz0.fz 4
            have g5 := hz0.fz 5
            obtain ⟨r0, r1, r2, r3, r4, r5⟩ : v2.cell? ⟨v0.heap.size, 0, none⟩ = some (.int .i64 0) ∧ v2.cell? ⟨v0.heap.size, 1, none⟩ = some (.int .i64 0) ∧ v2.cell? ⟨v0.heap.size, 2, none⟩ = some (.int .i64 0) ∧ v2.cell? ⟨v0.heap.size, 3, none⟩ = some (.int .i64 0) ∧ v2.cell? ⟨v0.heap.size, 4, none⟩ = some (.slice none 0 0) ∧ v2.cell? ⟨v0.heap.size, 5, none⟩ = some (.slice none 0 0) := hz0.cells
            obtain ⟨v3, hv3⟩ : ∃ v3, (((((v2.setCell ⟨v0.heap.size, 0, none⟩ (.int .i64 q.id)).setCell ⟨v0.heap.size, 1, none⟩ (.int .i64 q.st)).setCell ⟨v0.heap.size, 2, none⟩ (.int .i64 q.f)).setCell ⟨v0.heap.size, 3, none⟩ (.int .i64 q.l)).setCell ⟨v0.heap.size, 4, none⟩ (.slice q.A q.n q.c)).setCell ⟨v0.heap.size, 5, none⟩ (.slice q.B q.m q.d) = v3 := ⟨_, rfl⟩
            have hq0 : stT v2 (v0.heap.size) q = v3 := hv3
            have hs0 : Mod (fun k => k = v0.heap.size) v2 v3 := by rw [← hq0]; exact stT_mod _ _ q
            have HQ : Hid (q.In v3 (v0.heap.size)) := by rw [← hq0]; exact hz0.set q
            have hge : wr.heap.size ≤ v0.heap.size := N0.out.size
            have NZ : Hid (Mod (fun _ => False) wr v3) := N2.out.trans hs0 (fun k hk e => by omega)
            have HKZ := Lib.hid (HK.out.box HI2.out (by have := HM20.out.size; omega) hs0)
            have Hge := Lib.hid hge
            clear hz0 hq0 hs0 hge
            refine rg_one (n := 1) 10 rfl (by kernel_rfl) (by rfl) ?_
            go_simp
            clear hI
            have hI := (show (fun V : World => (V.cell? ⟨gU, 0, none⟩ = some (.int .i64 u.id) ∧ V.cell? ⟨gU, 1, none⟩ = some (.int .i64 u.st) ∧ V.cell? ⟨gU, 2, none⟩ = some (.int .i64 u.f) ∧ V.cell? ⟨gU, 3, none⟩ = some (.int .i64 u.l) ∧ V.cell? ⟨gU, 4, none⟩ = some (.slice u.A u.n u.c) ∧ V.cell? ⟨gU, 5, none⟩ = some (.slice u.B u.m u.d)) ∧ (V.cell? ⟨b, o + i * 7, none⟩ = some (.int .i64 y.lsn) ∧ V.cell? ⟨b, o + i * 7 + 1, none⟩ = some (.int .i64 y.page) ∧ V.cell? ⟨b, o + i * 7 + 2, none⟩ = some (.int .i64 y.key) ∧ V.cell? ⟨b, o + i * 7 + 3, none⟩ = some (.bool y.o.is) ∧ V.cell? ⟨b, o + i * 7 + 4, none⟩ = some (.slice y.o.B y.o.m y.o.d) ∧ V.cell? ⟨b, o + i * 7 + 5, none⟩ = some (.bool y.v.is) ∧ V.cell? ⟨b, o + i * 7 + 6, none⟩ = some (.slice y.v.B y.v.m y.v.d))) _ from HSt.out _ NZ.out)
            refine ⟨hI, ?_⟩
            try simp only [Act.put]
            refine rg_take (n := 0) (v := ?_) 11 (some 13) rfl rfl (by kernel_rfl) (by kernel_rfl) (by kernel_rfl) (fun _ _ _ h => h) (by rfl) hI ?_ ?_
            rotate_left
            · ((intro w hSw; (try dsimp only at hSw); go_simp); (try with_reducible rfl))
            try simp only [Act.put, List.setIfInBounds_toArray, List.set_cons_zero, List.set_cons_succ]
            refine wpAnyH_done (by kernel_rfl) ?_ _
            clear hI
            go_wp2_with fail
            go_meet
            exact ⟨q, v0.heap.size, rfl, rfl, Hge.out, HQ.out, HKZ.out, HP.out, NZ.out⟩
        case rest =>
        obtain ⟨q, gQ, rfl, rfl, hgQ, hqin, hqk, hqp, hqm⟩ := hcut
        have HQp := Lib.hid hqp
        clear hqp HNt HSt HV0 N0
        have HM21 := Lib.hid (HM20.out.trans hqm (fun _ _ h => h))
        have hz21 := hqm.size
        have HB21 := Lib.hid (HB20.out.keep hqm)
        have HU21 := Lib.hid (HU20.out.keep hqm)
        have HQ21 := Lib.hid hqin
        have Kx21 := Lib.hid (Kx20.out.keep hqm)
        have Ku21 := Lib.hid (Ku20.out.keep hqm)
        have Kq21 := Lib.hid hqk
        have hzq : gQ + 1 ≤ wc.heap.size := hqin.lt
        clear hqin hqk s0 s1 s2 s3 s4 s5 s6 e0 e1 e0' e1' d0 d1 d2 d3 d4 d5
        have hm4 : x.m ≤ 4 := Hnx.out.2
        by_cases hF : noteE u.p y.p = 0
        · have Hnt := Lib.hid hF
          clear hF
          have Pq : Hid (q.p = noteT u.p y.p) := by show _ = _; have := HQp.out; rw [Hnt.out] at this; rwa [if_pos rfl] at this
          rw [Hnt.out]
          have hmq : mayT q.p = true := by rw [Pq.out]; exact note_may Hnt.out
          have hLq : q.p.L = x.p.L ++ (dn ++ [y.p]) := by rw [Pq.out, ← List.append_assoc, ← HF.out.L]; rfl
          have hSq : q.p.S = x.p.S ++ [(x.p.L.length : Int)] := by rw [Pq.out, ← HF.out.S]; rfl
          have Hmq := Lib.hid hmq
          have HLq := Lib.hid hLq
          have HSq := Lib.hid hSq
          clear hmq hLq hSq
          have ew : IntKind.i64.wrap ((dn.length : Int) + 1) = (dn.length : Int) + 1 := by rw [IntKind.wrap_i64]; omega
          obtain ⟨c0, c1, c2, c3, c4, c5⟩ : wc.cell? ⟨gQ, 0, none⟩ = some (.int .i64 q.id) ∧ wc.cell? ⟨gQ, 1, none⟩ = some (.int .i64 q.st) ∧ wc.cell? ⟨gQ, 2, none⟩ = some (.int .i64 q.f) ∧ wc.cell? ⟨gQ, 3, none⟩ = some (.int .i64 q.l) ∧ wc.cell? ⟨gQ, 4, none⟩ = some (.slice q.A q.n q.c) ∧ wc.cell? ⟨gQ, 5, none⟩ = some (.slice q.B q.m q.d) := HQ21.out.cells
          have f0 := HU21.out.fz 0
          have f1 := HU21.out.fz 1
          have f2 := HU21.out.fz 2
          have f3 := HU21.out.fz 3
          have f4 := HU21.out.fz 4
          have f5 := HU21.out.fz 5
          obtain ⟨d0, d1, d2, d3, d4, d5⟩ : wc.cell? ⟨gU, 0, none⟩ = some (.int .i64 u.id) ∧ wc.cell? ⟨gU, 1, none⟩ = some (.int .i64 u.st) ∧ wc.cell? ⟨gU, 2, none⟩ = some (.int .i64 u.f) ∧ wc.cell? ⟨gU, 3, none⟩ = some (.int .i64 u.l) ∧ wc.cell? ⟨gU, 4, none⟩ = some (.slice u.A u.n u.c) ∧ wc.cell? ⟨gU, 5, none⟩ = some (.slice u.B u.m u.d) := HU21.out.cells
          obtain ⟨w22, hw22⟩ : ∃ w22, (((((wc.setCell ⟨gU, 0, none⟩ (.int .i64 q.id)).setCell ⟨gU, 1, none⟩ (.int .i64 q.st)).setCell ⟨gU, 2, none⟩ (.int .i64 q.f)).setCell ⟨gU, 3, none⟩ (.int .i64 q.l)).setCell ⟨gU, 4, none⟩ (.slice q.A q.n q.c)).setCell ⟨gU, 5, none⟩ (.slice q.B q.m q.d) = w22 := ⟨_, rfl⟩
          have hq22 : stT wc (gU) q = w22 := hw22
          have hs22 : Mod (fun k => k = gU) wc w22 := by rw [← hq22]; exact stT_mod wc (gU) q
          have HM22 : Hid (Mod (fun _ => False) w w22) := HM21.out.trans hs22 (fun k _ e => by omega)
          have hz22 := hs22.size
          have HB22 := Lib.hid (HB21.out.mod hs22 (fun e => by omega))
          have HQ22 := Lib.hid (HQ21.out.mod hs22 (fun e => by omega))
          have Kx22 := Lib.hid (Kx21.out.box HU21.out (by omega) hs22)
          have Ku22 := Lib.hid (Ku21.out.box HU21.out (by omega) hs22)
          have Kq22 := Lib.hid (Kq21.out.box HU21.out (by omega) hs22)
          have HU22 : Hid ((q : TxD).In w22 (gU)) := by rw [← hq22]; exact HU21.out.set q
          clear hq22 hs22
          obtain ⟨e0, e1, e2, e3, e4, e5⟩ : w22.cell? ⟨gU, 0, none⟩ = some (.int .i64 q.id) ∧ w22.cell? ⟨gU, 1, none⟩ = some (.int .i64 q.st) ∧ w22.cell? ⟨gU, 2, none⟩ = some (.int .i64 q.f) ∧ w22.cell? ⟨gU, 3, none⟩ = some (.int .i64 q.l) ∧ w22.cell? ⟨gU, 4, none⟩ = some (.slice q.A q.n q.c) ∧ w22.cell? ⟨gU, 5, none⟩ = some (.slice q.B q.m q.d) := HU22.out.cells
          have hab := above_sv (x := x.p) (u := q.p) (dn := (dn ++ [y.p])) Hmq.out HLq.out HSq.out
          rw [HlS.out] at hab
          have Hab := Lib.hid hab
          have Hnw := Lib.hid (Kq22.out.at_.sm (SmT.may Hmq.out))
          clear hab
          go_wp2_with fail
          refine ((above_ok w22 q Kq22.out.at_ Hnw.out.1 Hnw.out.2.1 (x.m : Int)).mono (fun e w' h => h.at 0 ((dn.length : Int) + 1) Hab.out.1 (by rw [if_pos rfl]; exact Hab.out.2.trans (by simp)))).mono ?_
          rintro e w23 ⟨rfl, hm⟩
          have HM23 := Lib.hid (HM22.out.trans hm (fun _ _ h => h))
          have hz23 := hm.size
          have HB23 := Lib.hid (HB22.out.keep hm)
          have HU23 := Lib.hid (HU22.out.keep hm)
          have HQ23 := Lib.hid (HQ22.out.keep hm)
          have Kx23 := Lib.hid (Kx22.out.keep hm)
          have Ku23 := Lib.hid (Ku22.out.keep hm)
          have Kq23 := Lib.hid (Kq22.out.keep hm)
          clear hm hw22 c0 c1 c2 c3 c4 c5 d0 d1 d2 d3 d4 d5 e0 e1 e2 e3 e4 e5 f0 f1 f2 f3 f4 f5
          go_wp2
          go_roundw
          case rel => exact ⟨i + 1, q, dn ++ [y.p], by go_num, by simp, by omega, ⟨HM23.out, Kx23.out, HB23.out, Kq23.out, HU23.out, Hmq.out, HLq.out, HSq.out⟩⟩
          case measure => simp [intOf]; omega
        · have hfd : (noteE u.p y.p == 0) = false := by simpa using hF
          clear hF HQp
          obtain ⟨c0, c1, c2, c3, c4, c5⟩ : wc.cell? ⟨gU, 0, none⟩ = some (.int .i64 u.id) ∧ wc.cell? ⟨gU, 1, none⟩ = some (.int .i64 u.st) ∧ wc.cell? ⟨gU, 2, none⟩ = some (.int .i64 u.f) ∧ wc.cell? ⟨gU, 3, none⟩ = some (.int .i64 u.l) ∧ wc.cell? ⟨gU, 4, none⟩ = some (.slice u.A u.n u.c) ∧ wc.cell? ⟨gU, 5, none⟩ = some (.slice u.B u.m u.d) := HU21.out.cells
          have hab := above_sv (x := x.p) (u := u.p) (dn := dn) Hmu.out HF.out.L HF.out.S
          rw [HlS.out] at hab
          have Hab := Lib.hid hab
          have Hnw := Lib.hid (Ku21.out.at_.sm (SmT.may Hmu.out))
          clear hab
          go_wp2_with fail
          refine ((above_ok wc u Ku21.out.at_ Hnw.out.1 Hnw.out.2.1 (x.m : Int)).mono (fun e w' h => h.at 0 ((dn.length : Int)) Hab.out.1 (by rw [if_pos rfl]; exact Hab.out.2.trans (by simp)))).mono ?_
          rintro e w22 ⟨rfl, hm⟩
          have HM22 := Lib.hid (HM21.out.trans hm (fun _ _ h => h))
          have hz22 := hm.size
          have HB22 := Lib.hid (HB21.out.keep hm)
          have HU22 := Lib.hid (HU21.out.keep hm)
          have HQ22 := Lib.hid (HQ21.out.keep hm)
          have Kx22 := Lib.hid (Kx21.out.keep hm)
          have Ku22 := Lib.hid (Ku21.out.keep hm)
          have Kq22 := Lib.hid (Kq21.out.keep hm)
          clear hm hfd c0 c1 c2 c3 c4 c5
          go_wp2
          go_roundw
          case rel => exact ⟨i + 1, u, dn, by go_num, rfl, by omega, ⟨HM22.out, Kx22.out, HB22.out, Ku22.out, HU22.out, Hmu.out, HF.out.L, HF.out.S⟩⟩
          case measure => simp [intOf]; omega
      · obtain rfl : i = n := by omega
        have HS0 := Lib.hid HF.out
        go_wp2_with fail
        go_loopw [16] (fun k W => ∃ (j : Nat) (v : TxD) (dd : List Cp), k = .int .i64 j ∧ j ≤ dn.length ∧ dd.length = dn.length - j ∧ SvFr w W x v gU dd) (fun k _ => dn.length - (intOf k).toNat)
        case atStart => exact ⟨0, u, dn, rfl, by omega, by omega, HS0.out⟩
        case round =>
          obtain ⟨j, v, dd, rfl, hj, hdl, hf2⟩ := hrel
          have HG := Lib.hid hf2
          clear hf2 HS0 HM20 HB20 HU20 Kx20 Ku20 Hmu hz20 Hnu HF
          have HM20 := Lib.hid HG.out.old
          have HB20 := Lib.hid HG.out.bx
          have HU20 := Lib.hid HG.out.bu
          have Kx20 := Lib.hid HG.out.kx
          have Kv20 := Lib.hid HG.out.ku
          have Hmv := Lib.hid HG.out.may
          have hz20 : gU + 1 ≤ wr.heap.size := HG.out.bu.lt
          have Hnv := Lib.hid (HG.out.ku.at_.sm (SmT.may HG.out.may))
          have hdd := dn_len HG.out.may HG.out.L
          have hm4 : x.m ≤ 4 := Hnx.out.2
          by_cases hjt : j < dn.length
          · obtain ⟨de, ce, hde⟩ : ∃ de ce, dd = de ++ [ce] := by
              rcases List.eq_nil_or_concat dd with h | ⟨de, ce, h⟩
              · rw [h] at hdl; simp at hdl; omega
              · exact ⟨de, ce, by simpa using h⟩
            have Hde := Lib.hid hde
            have hlv : 0 < v.p.L.length := by rw [HG.out.L, hde, List.length_append, List.length_append, List.length_singleton]; omega
            have Hlv := Lib.hid hlv
            clear hde hlv
            obtain ⟨c0, c1, c2, c3, c4, c5⟩ : wr.cell? ⟨gU, 0, none⟩ = some (.int .i64 v.id) ∧ wr.cell? ⟨gU, 1, none⟩ = some (.int .i64 v.st) ∧ wr.cell? ⟨gU, 2, none⟩ = some (.int .i64 v.f) ∧ wr.cell? ⟨gU, 3, none⟩ = some (.int .i64 v.l) ∧ wr.cell? ⟨gU, 4, none⟩ = some (.slice v.A v.n v.c) ∧ wr.cell? ⟨gU, 5, none⟩ = some (.slice v.B v.m v.d) := HU20.out.cells
            go_wp2_with fail
            refine ((undo_ok wr v Kv20.out.at_ Hnv.out.1 Hnv.out.2.1).mono (fun e w' h => (UnAns.ru (b0 := w.heap.size) h).at 0 (undoE_zero Hmv.out Hlv.out))).mono ?_
            rintro e w21 ⟨q, qc, rfl, hk, ha, hp, hpc, hm⟩
            have HM21 := Lib.hid (HM20.out.trans hm (fun _ _ h => h))
            have hz21 := hm.size
            have HB21 := Lib.hid (HB20.out.keep hm)
            have HU21 := Lib.hid (HU20.out.keep hm)
            have Kx21 := Lib.hid (Kx20.out.keep hm)
            have Kv21 := Lib.hid (Kv20.out.keep hm)
            clear hm
            have Kq21 := Lib.hid hk
            have Pq := Lib.hid hp
            clear hk hp
            have Aqc21 := Lib.hid ha
            have Pqc := Lib.hid hpc
            clear ha hpc c0 c1 c2 c3 c4 c5
            have Pq2 : Hid (q.p = undoT v.p) := by show _ = _; have := Pq.out; rwa [if_pos rfl] at this
            clear Pq Pqc
            obtain ⟨w22, hw22⟩ : ∃ w22, w21.alloc (.cells #[.int .i64 0, .int .i64 0, .int .i64 0, .int .i64 0, .slice none 0 0, .slice none 0 0] 25) = w22 := ⟨_, rfl⟩
            have ha : Mod (fun _ => False) w21 w22 := by rw [← hw22]; exact (Mod.refl _ _).alloc _
            have hz22 : w21.heap.size + 1 ≤ w22.heap.size := by rw [← hw22]; simp
            have hT0 : TxD.zero.In w22 w21.heap.size := by rw [← hw22]; exact TxD.In.new w21 TxD.zero
            obtain ⟨w23, hw23⟩ : ∃ w23, w22.alloc (.cells #[.int .i64 0, .int .i64 0, .int .i64 0, .bool false, .slice none 0 0, .bool false, .slice none 0 0] 30) = w23 := ⟨_, rfl⟩
            have hb : Mod (fun _ => False) w22 w23 := by rw [← hw23]; exact (Mod.refl _ _).alloc _
            have hz23 : w22.heap.size + 1 ≤ w23.heap.size := by rw [← hw23]; simp
            have hC0 : ChD.zero.In w23 w22.heap.size := by rw [← hw23]; exact ChD.In.new w22 ChD.zero
            have hT1 := hT0.keep hb
            have mg0 := hT1.fz 0
            have mg1 := hT1.fz 1
            have mg2 := hT1.fz 2
            have mg3 := hT1.fz 3
            have mg4 := hT1.fz 4
            have mg5 := hT1.fz 5
            obtain ⟨mr0, mr1, mr2, mr3, mr4, mr5⟩ : w23.cell? ⟨w21.heap.size, 0, none⟩ = some (.int .i64 0) ∧ w23.cell? ⟨w21.heap.size, 1, none⟩ = some (.int .i64 0) ∧ w23.cell? ⟨w21.heap.size, 2, none⟩ = some (.int .i64 0) ∧ w23.cell? ⟨w21.heap.size, 3, none⟩ = some (.int .i64 0) ∧ w23.cell? ⟨w21.heap.size, 4, none⟩ = some (.slice none 0 0) ∧ w23.cell? ⟨w21.heap.size, 5, none⟩ = some (.slice none 0 0) := hT1.cells
            obtain ⟨w24, hw24⟩ : ∃ w24, (((((w23.setCell ⟨w21.heap.size, 0, none⟩ (.int .i64 q.id)).setCell ⟨w21.heap.size, 1, none⟩ (.int .i64 q.st)).setCell ⟨w21.heap.size, 2, none⟩ (.int .i64 q.f)).setCell ⟨w21.heap.size, 3, none⟩ (.int .i64 q.l)).setCell ⟨w21.heap.size, 4, none⟩ (.slice q.A q.n q.c)).setCell ⟨w21.heap.size, 5, none⟩ (.slice q.B q.m q.d) = w24 := ⟨_, rfl⟩
            have hq : stT w23 (w21.heap.size) q = w24 := hw24
            have hc : Mod (fun k => k = w21.heap.size) w23 w24 := by rw [← hq]; exact stT_mod _ _ q
            have hz24 := hc.size
            have hT2 : (q : TxD).In w24 (w21.heap.size) := by rw [← hq]; exact hT1.set q
            clear hq
            have hC1 := hC0.mod hc (fun e => by omega)
            have mk0 := hC1.fz 0
            have mk1 := hC1.fz 1
            have mk2 := hC1.fz 2
            have mk3 := hC1.fz 3
            have mk4 := hC1.fz 4
            have mk5 := hC1.fz 5
            have mk6 := hC1.fz 6
            obtain ⟨ms0, ms1, ms2, ms3, ms4, ms5, ms6⟩ : w24.cell? ⟨w22.heap.size, 0, none⟩ = some (.int .i64 0) ∧ w24.cell? ⟨w22.heap.size, 1, none⟩ = some (.int .i64 0) ∧ w24.cell? ⟨w22.heap.size, 2, none⟩ = some (.int .i64 0) ∧ w24.cell? ⟨w22.heap.size, 3, none⟩ = some (.bool false) ∧ w24.cell? ⟨w22.heap.size, 4, none⟩ = some (.slice none 0 0) ∧ w24.cell? ⟨w22.heap.size, 5, none⟩ = some (.bool false) ∧ w24.cell? ⟨w22.heap.size, 6, none⟩ = some (.slice none 0 0) := hC1.cells
            obtain ⟨w25, hw25⟩ : ∃ w25, ((((((w24.setCell ⟨w22.heap.size, 0, none⟩ (.int .i64 qc.lsn)).setCell ⟨w22.heap.size, 1, none⟩ (.int .i64 qc.page)).setCell ⟨w22.heap.size, 2, none⟩ (.int .i64 qc.key)).setCell ⟨w22.heap.size, 3, none⟩ (.bool qc.o.is)).setCell ⟨w22.heap.size, 4, none⟩ (.slice qc.o.B qc.o.m qc.o.d)).setCell ⟨w22.heap.size, 5, none⟩ (.bool qc.v.is)).setCell ⟨w22.heap.size, 6, none⟩ (.slice qc.v.B qc.v.m qc.v.d) = w25 := ⟨_, rfl⟩
            have hq : stC w24 (w22.heap.size) 0 qc = w25 := hw25
            have hd : Mod (fun k => k = w22.heap.size) w24 w25 := by rw [← hq]; exact stC_mod _ _ 0 qc
            have hz25 := hd.size
            have HC25 : Hid ((qc : ChD).In w25 (w22.heap.size)) := by rw [← hq]; exact hC1.set qc
            clear hq
            have HQ25 : Hid ((q : TxD).In w25 (w21.heap.size)) := hT2.mod hd (fun e => by omega)
            have hm0 : Mod (fun _ => False) w21 w25 := ((ha.trans hb (fun _ _ h => h)).trans hc (fun k hk e => by omega)).trans hd (fun k hk e => by omega)
            have HM25 := Lib.hid (HM21.out.trans hm0 (fun _ _ h => h))
            have HB25 := Lib.hid (HB21.out.keep hm0)
            have HU25 := Lib.hid (HU21.out.keep hm0)
            have Kx25 := Lib.hid (Kx21.out.keep hm0)
            have Kv25 := Lib.hid (Kv21.out.keep hm0)
            have Kq25 := Lib.hid (Kq21.out.keep hm0)
            have Aqc25 := Lib.hid (Aqc21.out.keep hm0)
            clear ha hb hc hd hT0 hT1 hT2 hC0 hC1 hm0
            obtain ⟨c0, c1, c2, c3, c4, c5⟩ : w25.cell? ⟨w21.heap.size, 0, none⟩ = some (.int .i64 q.id) ∧ w25.cell? ⟨w21.heap.size, 1, none⟩ = some (.int .i64 q.st) ∧ w25.cell? ⟨w21.heap.size, 2, none⟩ = some (.int .i64 q.f) ∧ w25.cell? ⟨w21.heap.size, 3, none⟩ = some (.int .i64 q.l) ∧ w25.cell? ⟨w21.heap.size, 4, none⟩ = some (.slice q.A q.n q.c) ∧ w25.cell? ⟨w21.heap.size, 5, none⟩ = some (.slice q.B q.m q.d) := HQ25.out.cells
            obtain ⟨d0, d1, d2, d3, d4, d5⟩ : w25.cell? ⟨gU, 0, none⟩ = some (.int .i64 v.id) ∧ w25.cell? ⟨gU, 1, none⟩ = some (.int .i64 v.st) ∧ w25.cell? ⟨gU, 2, none⟩ = some (.int .i64 v.f) ∧ w25.cell? ⟨gU, 3, none⟩ = some (.int .i64 v.l) ∧ w25.cell? ⟨gU, 4, none⟩ = some (.slice v.A v.n v.c) ∧ w25.cell? ⟨gU, 5, none⟩ = some (.slice v.B v.m v.d) := HU25.out.cells
            have f0 := HU25.out.fz 0
            have f1 := HU25.out.fz 1
            have f2 := HU25.out.fz 2
            have f3 := HU25.out.fz 3
            have f4 := HU25.out.fz 4
            have f5 := HU25.out.fz 5
            obtain ⟨w26, hw26⟩ : ∃ w26, (((((w25.setCell ⟨gU, 0, none⟩ (.int .i64 q.id)).setCell ⟨gU, 1, none⟩ (.int .i64 q.st)).setCell ⟨gU, 2, none⟩ (.int .i64 q.f)).setCell ⟨gU, 3, none⟩ (.int .i64 q.l)).setCell ⟨gU, 4, none⟩ (.slice q.A q.n q.c)).setCell ⟨gU, 5, none⟩ (.slice q.B q.m q.d) = w26 := ⟨_, rfl⟩
            have hq26 : stT w25 (gU) q = w26 := hw26
            have hs26 : Mod (fun k => k = gU) w25 w26 := by rw [← hq26]; exact stT_mod w25 (gU) q
            have HM26 : Hid (Mod (fun _ => False) w w26) := HM25.out.trans hs26 (fun k _ e => by omega)
            have hz26 := hs26.size
            have HB26 := Lib.hid (HB25.out.mod hs26 (fun e => by omega))
            have HQ26 := Lib.hid (HQ25.out.mod hs26 (fun e => by omega))
            have HC26 := Lib.hid (HC25.out.mod hs26 (fun e => by omega))
            have Kx26 := Lib.hid (Kx25.out.box HU25.out (by omega) hs26)
            have Kv26 := Lib.hid (Kv25.out.box HU25.out (by omega) hs26)
            have Kq26 := Lib.hid (Kq25.out.box HU25.out (by omega) hs26)
            have Aqc26 := Lib.hid (Aqc25.out.box HU25.out hs26)
            have HU26 : Hid ((q : TxD).In w26 (gU)) := by rw [← hq26]; exact HU25.out.set q
            clear hq26 hs26
            have hsv := sv_undo (x := x.p) (u := v.p) Hm.out (d := de) (c := ce) (by rw [HG.out.L, Hde.out]) HG.out.S
            have Hsv := Lib.hid hsv
            clear hsv
            have hdn2 : de.length = dn.length - (j + 1) := by have := Hde.out; rw [this] at hdl; simp at hdl; omega
            go_wp2
            go_roundw
            case rel => exact ⟨j + 1, q, de, by go_num, by omega, hdn2, ⟨HM26.out, Kx26.out, HB26.out, Kq26.out, HU26.out, by rw [Pq2.out]; exact undo_may Hmv.out, by rw [Pq2.out]; exact Hsv.out.1, by rw [Pq2.out]; exact Hsv.out.2⟩⟩
            case measure => simp [intOf]; omega
          · obtain rfl : dd = [] := List.eq_nil_of_length_eq_zero (by omega)
            have hLv : v.p.L = x.p.L := by have := HG.out.L; rwa [List.append_nil] at this
            have HLv := Lib.hid hLv
            clear hLv
            obtain ⟨c0, c1, c2, c3, c4, c5⟩ : wr.cell? ⟨gU, 0, none⟩ = some (.int .i64 v.id) ∧ wr.cell? ⟨gU, 1, none⟩ = some (.int .i64 v.st) ∧ wr.cell? ⟨gU, 2, none⟩ = some (.int .i64 v.f) ∧ wr.cell? ⟨gU, 3, none⟩ = some (.int .i64 v.l) ∧ wr.cell? ⟨gU, 4, none⟩ = some (.slice v.A v.n v.c) ∧ wr.cell? ⟨gU, 5, none⟩ = some (.slice v.B v.m v.d) := HU20.out.cells
            have hab := above_sv (x := x.p) (u := v.p) (dn := []) Hmv.out HG.out.L HG.out.S
            rw [HlS.out] at hab
            have Hab := Lib.hid hab
            have Hnw := Lib.hid (Kv20.out.at_.sm (SmT.may Hmv.out))
            clear hab
            go_wp2_with fail
            refine ((above_ok wr v Kv20.out.at_ Hnw.out.1 Hnw.out.2.1 (x.m : Int)).mono (fun e w' h => h.at 0 (0) Hab.out.1 (by rw [if_pos rfl, Hab.out.2]; rfl))).mono ?_
            rintro e w21 ⟨rfl, hm⟩
            have HM21 := Lib.hid (HM20.out.trans hm (fun _ _ h => h))
            have hz21 := hm.size
            have HB21 := Lib.hid (HB20.out.keep hm)
            have HU21 := Lib.hid (HU20.out.keep hm)
            have Kx21 := Lib.hid (Kx20.out.keep hm)
            have Kv21 := Lib.hid (Kv20.out.keep hm)
            clear hm c0 c1 c2 c3 c4 c5
            obtain ⟨c0, c1, c2, c3, c4, c5⟩ : w21.cell? ⟨gU, 0, none⟩ = some (.int .i64 v.id) ∧ w21.cell? ⟨gU, 1, none⟩ = some (.int .i64 v.st) ∧ w21.cell? ⟨gU, 2, none⟩ = some (.int .i64 v.f) ∧ w21.cell? ⟨gU, 3, none⟩ = some (.int .i64 v.l) ∧ w21.cell? ⟨gU, 4, none⟩ = some (.slice v.A v.n v.c) ∧ w21.cell? ⟨gU, 5, none⟩ = some (.slice v.B v.m v.d) := HU21.out.cells
            by_cases h0 : x.n = 0
            · have hu3 : undoE v.p = 3 := by unfold undoE; rw [if_pos Hmv.out, if_pos (by rw [HLv.out, Hln.out]; exact h0)]
              have hx0 : ((x.n : Int) == 0) = true := by simp [h0]
              clear h0
              go_wp2_with fail
              refine ((undo_ok w21 v Kv21.out.at_ Hnv.out.1 Hnv.out.2.1).mono (fun e w' h => (UnAns.ru (b0 := w.heap.size) h).at 3 hu3)).mono ?_
              rintro e w22 ⟨q, qc, rfl, hk, ha, hp, hpc, hm⟩
              have HM22 := Lib.hid (HM21.out.trans hm (fun _ _ h => h))
              have hz22 := hm.size
              have HB22 := Lib.hid (HB21.out.keep hm)
              have HU22 := Lib.hid (HU21.out.keep hm)
              have Kx22 := Lib.hid (Kx21.out.keep hm)
              have Kv22 := Lib.hid (Kv21.out.keep hm)
              clear hm
              have Kq22 := Lib.hid hk
              have Pq := Lib.hid hp
              clear hk hp
              have Aqc22 := Lib.hid ha
              have Pqc := Lib.hid hpc
              clear ha hpc c0 c1 c2 c3 c4 c5
              clear hu3
              obtain ⟨w23, hw23⟩ : ∃ w23, w22.alloc (.cells #[.int .i64 0, .int .i64 0, .int .i64 0, .int .i64 0, .slice none 0 0, .slice none 0 0] 25) = w23 := ⟨_, rfl⟩
              have ha : Mod (fun _ => False) w22 w23 := by rw [← hw23]; exact (Mod.refl _ _).alloc _
              have hz23 : w22.heap.size + 1 ≤ w23.heap.size := by rw [← hw23]; simp
              have hT0 : TxD.zero.In w23 w22.heap.size := by rw [← hw23]; exact TxD.In.new w22 TxD.zero
              obtain ⟨w24, hw24⟩ : ∃ w24, w23.alloc (.cells #[.int .i64 0, .int .i64 0, .int .i64 0, .bool false, .slice none 0 0, .bool false, .slice none 0 0] 30) = w24 := ⟨_, rfl⟩
              have hb : Mod (fun _ => False) w23 w24 := by rw [← hw24]; exact (Mod.refl _ _).alloc _
              have hz24 : w23.heap.size + 1 ≤ w24.heap.size := by rw [← hw24]; simp
              have hC0 : ChD.zero.In w24 w23.heap.size := by rw [← hw24]; exact ChD.In.new w23 ChD.zero
              have hT1 := hT0.keep hb
              have mg0 := hT1.fz 0
              have mg1 := hT1.fz 1
              have mg2 := hT1.fz 2
              have mg3 := hT1.fz 3
              have mg4 := hT1.fz 4
              have mg5 := hT1.fz 5
              obtain ⟨mr0, mr1, mr2, mr3, mr4, mr5⟩ : w24.cell? ⟨w22.heap.size, 0, none⟩ = some (.int .i64 0) ∧ w24.cell? ⟨w22.heap.size, 1, none⟩ = some (.int .i64 0) ∧ w24.cell? ⟨w22.heap.size, 2, none⟩ = some (.int .i64 0) ∧ w24.cell? ⟨w22.heap.size, 3, none⟩ = some (.int .i64 0) ∧ w24.cell? ⟨w22.heap.size, 4, none⟩ = some (.slice none 0 0) ∧ w24.cell? ⟨w22.heap.size, 5, none⟩ = some (.slice none 0 0) := hT1.cells
              obtain ⟨w25, hw25⟩ : ∃ w25, (((((w24.setCell ⟨w22.heap.size, 0, none⟩ (.int .i64 q.id)).setCell ⟨w22.heap.size, 1, none⟩ (.int .i64 q.st)).setCell ⟨w22.heap.size, 2, none⟩ (.int .i64 q.f)).setCell ⟨w22.heap.size, 3, none⟩ (.int .i64 q.l)).setCell ⟨w22.heap.size, 4, none⟩ (.slice q.A q.n q.c)).setCell ⟨w22.heap.size, 5, none⟩ (.slice q.B q.m q.d) = w25 := ⟨_, rfl⟩
              have hq : stT w24 (w22.heap.size) q = w25 := hw25
              have hc : Mod (fun k => k = w22.heap.size) w24 w25 := by rw [← hq]; exact stT_mod _ _ q
              have hz25 := hc.size
              have hT2 : (q : TxD).In w25 (w22.heap.size) := by rw [← hq]; exact hT1.set q
              clear hq
              have hC1 := hC0.mod hc (fun e => by omega)
              have mk0 := hC1.fz 0
              have mk1 := hC1.fz 1
              have mk2 := hC1.fz 2
              have mk3 := hC1.fz 3
              have mk4 := hC1.fz 4
              have mk5 := hC1.fz 5
              have mk6 := hC1.fz 6
              obtain ⟨ms0, ms1, ms2, ms3, ms4, ms5, ms6⟩ : w25.cell? ⟨w23.heap.size, 0, none⟩ = some (.int .i64 0) ∧ w25.cell? ⟨w23.heap.size, 1, none⟩ = some (.int .i64 0) ∧ w25.cell? ⟨w23.heap.size, 2, none⟩ = some (.int .i64 0) ∧ w25.cell? ⟨w23.heap.size, 3, none⟩ = some (.bool false) ∧ w25.cell? ⟨w23.heap.size, 4, none⟩ = some (.slice none 0 0) ∧ w25.cell? ⟨w23.heap.size, 5, none⟩ = some (.bool false) ∧ w25.cell? ⟨w23.heap.size, 6, none⟩ = some (.slice none 0 0) := hC1.cells
              obtain ⟨w26, hw26⟩ : ∃ w26, ((((((w25.setCell ⟨w23.heap.size, 0, none⟩ (.int .i64 qc.lsn)).setCell ⟨w23.heap.size, 1, none⟩ (.int .i64 qc.page)).setCell ⟨w23.heap.size, 2, none⟩ (.int .i64 qc.key)).setCell ⟨w23.heap.size, 3, none⟩ (.bool qc.o.is)).setCell ⟨w23.heap.size, 4, none⟩ (.slice qc.o.B qc.o.m qc.o.d)).setCell ⟨w23.heap.size, 5, none⟩ (.bool qc.v.is)).setCell ⟨w23.heap.size, 6, none⟩ (.slice qc.v.B qc.v.m qc.v.d) = w26 := ⟨_, rfl⟩
              have hq : stC w25 (w23.heap.size) 0 qc = w26 := hw26
              have hd : Mod (fun k => k = w23.heap.size) w25 w26 := by rw [← hq]; exact stC_mod _ _ 0 qc
              have hz26 := hd.size
              have HC26 : Hid ((qc : ChD).In w26 (w23.heap.size)) := by rw [← hq]; exact hC1.set qc
              clear hq
              have HQ26 : Hid ((q : TxD).In w26 (w22.heap.size)) := hT2.mod hd (fun e => by omega)
              have hm0 : Mod (fun _ => False) w22 w26 := ((ha.trans hb (fun _ _ h => h)).trans hc (fun k hk e => by omega)).trans hd (fun k hk e => by omega)
              have HM26 := Lib.hid (HM22.out.trans hm0 (fun _ _ h => h))
              have HB26 := Lib.hid (HB22.out.keep hm0)
              have HU26 := Lib.hid (HU22.out.keep hm0)
              have Kx26 := Lib.hid (Kx22.out.keep hm0)
              have Kv26 := Lib.hid (Kv22.out.keep hm0)
              have Kq26 := Lib.hid (Kq22.out.keep hm0)
              have Aqc26 := Lib.hid (Aqc22.out.keep hm0)
              clear ha hb hc hd hT0 hT1 hT2 hC0 hC1 hm0
              obtain ⟨c0, c1, c2, c3, c4, c5⟩ : w26.cell? ⟨w.heap.size, 0, none⟩ = some (.int .i64 x.id) ∧ w26.cell? ⟨w.heap.size, 1, none⟩ = some (.int .i64 x.st) ∧ w26.cell? ⟨w.heap.size, 2, none⟩ = some (.int .i64 x.f) ∧ w26.cell? ⟨w.heap.size, 3, none⟩ = some (.int .i64 x.l) ∧ w26.cell? ⟨w.heap.size, 4, none⟩ = some (.slice x.A x.n x.c) ∧ w26.cell? ⟨w.heap.size, 5, none⟩ = some (.slice x.B x.m x.d) := HB26.out.cells
              go_wp2
              go_ret
              exact ⟨rfl, HM26.out.below (Nat.le_refl _) (fun _ _ h => h)⟩
            · have hlv : 0 < v.p.L.length := by rw [HLv.out, Hln.out]; omega
              have Hlv := Lib.hid hlv
              clear h0 hlv
              go_wp2_with fail
              refine ((undo_ok w21 v Kv21.out.at_ Hnv.out.1 Hnv.out.2.1).mono (fun e w' h => (UnAns.ru (b0 := w.heap.size) h).at 0 (undoE_zero Hmv.out Hlv.out))).mono ?_
              rintro e w22 ⟨q, qc, rfl, hk, ha, hp, hpc, hm⟩
              have HM22 := Lib.hid (HM21.out.trans hm (fun _ _ h => h))
              have hz22 := hm.size
              have HB22 := Lib.hid (HB21.out.keep hm)
              have HU22 := Lib.hid (HU21.out.keep hm)
              have Kx22 := Lib.hid (Kx21.out.keep hm)
              have Kv22 := Lib.hid (Kv21.out.keep hm)
              clear hm
              have Kq22 := Lib.hid hk
              have Pq := Lib.hid hp
              clear hk hp
              have Aqc22 := Lib.hid ha
              have Pqc := Lib.hid hpc
              clear ha hpc c0 c1 c2 c3 c4 c5
              have Pq2 : Hid (q.p = undoT v.p) := by show _ = _; have := Pq.out; rwa [if_pos rfl] at this
              clear Pq Pqc
              obtain ⟨w23, hw23⟩ : ∃ w23, w22.alloc (.cells #[.int .i64 0, .int .i64 0, .int .i64 0, .int .i64 0, .slice none 0 0, .slice none 0 0] 25) = w23 := ⟨_, rfl⟩
              have ha : Mod (fun _ => False) w22 w23 := by rw [← hw23]; exact (Mod.refl _ _).alloc _
              have hz23 : w22.heap.size + 1 ≤ w23.heap.size := by rw [← hw23]; simp
              have hT0 : TxD.zero.In w23 w22.heap.size := by rw [← hw23]; exact TxD.In.new w22 TxD.zero
              obtain ⟨w24, hw24⟩ : ∃ w24, w23.alloc (.cells #[.int .i64 0, .int .i64 0, .int .i64 0, .bool false, .slice none 0 0, .bool false, .slice none 0 0] 30) = w24 := ⟨_, rfl⟩
              have hb : Mod (fun _ => False) w23 w24 := by rw [← hw24]; exact (Mod.refl _ _).alloc _
              have hz24 : w23.heap.size + 1 ≤ w24.heap.size := by rw [← hw24]; simp
              have hC0 : ChD.zero.In w24 w23.heap.size := by rw [← hw24]; exact ChD.In.new w23 ChD.zero
              have hT1 := hT0.keep hb
              have mg0 := hT1.fz 0
              have mg1 := hT1.fz 1
              have mg2 := hT1.fz 2
              have mg3 := hT1.fz 3
              have mg4 := hT1.fz 4
              have mg5 := hT1.fz 5
              obtain ⟨mr0, mr1, mr2, mr3, mr4, mr5⟩ : w24.cell? ⟨w22.heap.size, 0, none⟩ = some (.int .i64 0) ∧ w24.cell? ⟨w22.heap.size, 1, none⟩ = some (.int .i64 0) ∧ w24.cell? ⟨w22.heap.size, 2, none⟩ = some (.int .i64 0) ∧ w24.cell? ⟨w22.heap.size, 3, none⟩ = some (.int .i64 0) ∧ w24.cell? ⟨w22.heap.size, 4, none⟩ = some (.slice none 0 0) ∧ w24.cell? ⟨w22.heap.size, 5, none⟩ = some (.slice none 0 0) := hT1.cells
              obtain ⟨w25, hw25⟩ : ∃ w25, (((((w24.setCell ⟨w22.heap.size, 0, none⟩ (.int .i64 q.id)).setCell ⟨w22.heap.size, 1, none⟩ (.int .i64 q.st)).setCell ⟨w22.heap.size, 2, none⟩ (.int .i64 q.f)).setCell ⟨w22.heap.size, 3, none⟩ (.int .i64 q.l)).setCell ⟨w22.heap.size, 4, none⟩ (.slice q.A q.n q.c)).setCell ⟨w22.heap.size, 5, none⟩ (.slice q.B q.m q.d) = w25 := ⟨_, rfl⟩
              have hq : stT w24 (w22.heap.size) q = w25 := hw25
              have hc : Mod (fun k => k = w22.heap.size) w24 w25 := by rw [← hq]; exact stT_mod _ _ q
              have hz25 := hc.size
              have hT2 : (q : TxD).In w25 (w22.heap.size) := by rw [← hq]; exact hT1.set q
              clear hq
              have hC1 := hC0.mod hc (fun e => by omega)
              have mk0 := hC1.fz 0
              have mk1 := hC1.fz 1
              have mk2 := hC1.fz 2
              have mk3 := hC1.fz 3
              have mk4 := hC1.fz 4
              have mk5 := hC1.fz 5
              have mk6 := hC1.fz 6
              obtain ⟨ms0, ms1, ms2, ms3, ms4, ms5, ms6⟩ : w25.cell? ⟨w23.heap.size, 0, none⟩ = some (.int .i64 0) ∧ w25.cell? ⟨w23.heap.size, 1, none⟩ = some (.int .i64 0) ∧ w25.cell? ⟨w23.heap.size, 2, none⟩ = some (.int .i64 0) ∧ w25.cell? ⟨w23.heap.size, 3, none⟩ = some (.bool false) ∧ w25.cell? ⟨w23.heap.size, 4, none⟩ = some (.slice none 0 0) ∧ w25.cell? ⟨w23.heap.size, 5, none⟩ = some (.bool false) ∧ w25.cell? ⟨w23.heap.size, 6, none⟩ = some (.slice none 0 0) := hC1.cells
              obtain ⟨w26, hw26⟩ : ∃ w26, ((((((w25.setCell ⟨w23.heap.size, 0, none⟩ (.int .i64 qc.lsn)).setCell ⟨w23.heap.size, 1, none⟩ (.int .i64 qc.page)).setCell ⟨w23.heap.size, 2, none⟩ (.int .i64 qc.key)).setCell ⟨w23.heap.size, 3, none⟩ (.bool qc.o.is)).setCell ⟨w23.heap.size, 4, none⟩ (.slice qc.o.B qc.o.m qc.o.d)).setCell ⟨w23.heap.size, 5, none⟩ (.bool qc.v.is)).setCell ⟨w23.heap.size, 6, none⟩ (.slice qc.v.B qc.v.m qc.v.d) = w26 := ⟨_, rfl⟩
              have hq : stC w25 (w23.heap.size) 0 qc = w26 := hw26
              have hd : Mod (fun k => k = w23.heap.size) w25 w26 := by rw [← hq]; exact stC_mod _ _ 0 qc
              have hz26 := hd.size
              have HC26 : Hid ((qc : ChD).In w26 (w23.heap.size)) := by rw [← hq]; exact hC1.set qc
              clear hq
              have HQ26 : Hid ((q : TxD).In w26 (w22.heap.size)) := hT2.mod hd (fun e => by omega)
              have hm0 : Mod (fun _ => False) w22 w26 := ((ha.trans hb (fun _ _ h => h)).trans hc (fun k hk e => by omega)).trans hd (fun k hk e => by omega)
              have HM26 := Lib.hid (HM22.out.trans hm0 (fun _ _ h => h))
              have HB26 := Lib.hid (HB22.out.keep hm0)
              have HU26 := Lib.hid (HU22.out.keep hm0)
              have Kx26 := Lib.hid (Kx22.out.keep hm0)
              have Kv26 := Lib.hid (Kv22.out.keep hm0)
              have Kq26 := Lib.hid (Kq22.out.keep hm0)
              have Aqc26 := Lib.hid (Aqc22.out.keep hm0)
              clear ha hb hc hd hT0 hT1 hT2 hC0 hC1 hm0
              obtain ⟨c0, c1, c2, c3, c4, c5⟩ : w26.cell? ⟨w22.heap.size, 0, none⟩ = some (.int .i64 q.id) ∧ w26.cell? ⟨w22.heap.size, 1, none⟩ = some (.int .i64 q.st) ∧ w26.cell? ⟨w22.heap.size, 2, none⟩ = some (.int .i64 q.f) ∧ w26.cell? ⟨w22.heap.size, 3, none⟩ = some (.int .i64 q.l) ∧ w26.cell? ⟨w22.heap.size, 4, none⟩ = some (.slice q.A q.n q.c) ∧ w26.cell? ⟨w22.heap.size, 5, none⟩ = some (.slice q.B q.m q.d) := HQ26.out.cells
              have hgo : aboveE q.p (x.m : Int) = 3 := by rw [Pq2.out, ← HlS.out]; exact sv_gone Hmv.out HLv.out HG.out.S (by have := Hlv.out; rwa [HLv.out] at this)
              have Hgo := Lib.hid hgo
              have Hnq := Lib.hid (Kq26.out.at_.sm (by rw [Pq2.out]; exact SmT.may (undo_may Hmv.out)))
              clear hgo
              go_wp2_with fail
              refine ((above_ok w26 q Kq26.out.at_ Hnq.out.1 Hnq.out.2.1 (x.m : Int)).mono (fun e w' h => h.at 3 0 Hgo.out rfl)).mono ?_
              rintro e w27 ⟨rfl, hm⟩
              have HM27 := Lib.hid (HM26.out.trans hm (fun _ _ h => h))
              have hz27 := hm.size
              have HB27 := Lib.hid (HB26.out.keep hm)
              have HU27 := Lib.hid (HU26.out.keep hm)
              have HQ27 := Lib.hid (HQ26.out.keep hm)
              have HC27 := Lib.hid (HC26.out.keep hm)
              have Kx27 := Lib.hid (Kx26.out.keep hm)
              have Kv27 := Lib.hid (Kv26.out.keep hm)
              have Kq27 := Lib.hid (Kq26.out.keep hm)
              have Aqc27 := Lib.hid (Aqc26.out.keep hm)
              clear hm mg0 mg1 mg2 mg3 mg4 mg5 mr0 mr1 mr2 mr3 mr4 mr5 mk0 mk1 mk2 mk3 mk4 mk5 mk6 ms0 ms1 ms2 ms3 ms4 ms5 ms6 hw23 hw24 hw25 hw26 c0 c1 c2 c3 c4 c5
              go_wp2
              go_ret
              exact ⟨rfl, HM27.out.below (Nat.le_refl _) (fun _ _ h => h)⟩
  · have HE4 : Hid (saveE x.p = 4 ∧ x.p.S.length = 4) := by
      show _ ∧ _
      unfold saveE at hE ⊢
      rw [Hm.out] at hE ⊢
      rw [if_pos rfl] at hE ⊢
      split at hE
      · rename_i h; rw [if_pos h]; exact ⟨rfl, h⟩
      · exact absurd rfl hE
    have hm4 : x.m = 4 := by have := HE4.out.2; rwa [Kx1.out.at_.nS] at this
    have hm4' : ((x.m : Int) == 4) = true := by simp [hm4]
    clear hE hm4
    go_wp2_with fail
    refine ((save_ok w4 x Kx4.out.at_ Hsz.out.1 Hsz.out.2.1).mono (fun e w' h => (SvAns.rs (b0 := w.heap.size) h).at 4 0 HE4.out.1 rfl)).mono ?_
    rintro e w5 ⟨su, rfl, hk, hp, hm⟩
    have HM5 := Lib.hid (HM4.out.trans hm (fun _ _ h => h))
    have hz5 := hm.size
    have HB5 := Lib.hid (HB4.out.keep hm)
    have Kx5 := Lib.hid (Kx4.out.keep hm)
    clear hm
    have Ksu5 := Lib.hid hk
    have Psu := Lib.hid hp
    clear hk hp
    clear c0 c1 c2 c3 c4 c5
    obtain ⟨w6, hw6⟩ : ∃ w6, w5.alloc (.cells #[.int .i64 su.id, .int .i64 su.st, .int .i64 su.f, .int .i64 su.l, .slice su.A su.n su.c, .slice su.B su.m su.d] 25) = w6 := ⟨_, rfl⟩
    have ha6 : Mod (fun _ => False) w5 w6 := by rw [← hw6]; exact (Mod.refl _ w5).alloc _
    have hz6 : w5.heap.size + 1 ≤ w6.heap.size := by rw [← hw6]; simp
    have HU6 : Hid ((su : TxD).In w6 w5.heap.size) := by rw [← hw6]; exact TxD.In.new w5 su
    have HM6 := Lib.hid (HM5.out.trans ha6 (fun _ _ h => h))
    have HB6 := Lib.hid (HB5.out.keep ha6)
    have Kx6 := Lib.hid (Kx5.out.keep ha6)
    have Ksu6 := Lib.hid (Ksu5.out.keep ha6)
    clear ha6
    obtain ⟨c0, c1, c2, c3, c4, c5⟩ : w6.cell? ⟨w.heap.size, 0, none⟩ = some (.int .i64 x.id) ∧ w6.cell? ⟨w.heap.size, 1, none⟩ = some (.int .i64 x.st) ∧ w6.cell? ⟨w.heap.size, 2, none⟩ = some (.int .i64 x.f) ∧ w6.cell? ⟨w.heap.size, 3, none⟩ = some (.int .i64 x.l) ∧ w6.cell? ⟨w.heap.size, 4, none⟩ = some (.slice x.A x.n x.c) ∧ w6.cell? ⟨w.heap.size, 5, none⟩ = some (.slice x.B x.m x.d) := HB6.out.cells
    go_wp2
    go_ret
    exact ⟨rfl, HM6.out.below (Nat.le_refl _) (fun _ _ h => h)⟩
end Go.Proofs.Ytidcmolkolcliaa
