/-
  The law TxnRoom: its walk.
-/
import Derived.Test.YtidcmolkolcliaaXMy
import Derived.Deep.DeepCutAuto
namespace Go.Proofs.Ytidcmolkolcliaa
open Go Go.RowKit

/-- What lies ahead of a round of TxnRoom. -/
structure RoomFr (w W : World) (x u : TxD) (gU : Nat) (page : Int) (i : Nat) (N : Int) : Prop where
  old : Mod (fun _ => False) w W
  kx : Kp w.heap.size W x
  bx : x.In W w.heap.size
  ku : Kp w.heap.size W u
  bu : u.In W gU
  may : mayT u.p = true
  len : u.p.L.length = x.n - i
  room : N + keptL page u.p.L ≤ keptL page x.p.L
  lo : -(1000 * (i : Int)) ≤ N
theorem gain_ge_d {page : Int} {c : Cp} : (if c.page = page then sizV c.o - sizV c.v else 0) ≤ gain page c := by
  unfold gain
  split <;> omega
set_option maxRecDepth 100000 in
set_option maxHeartbeats 12800000 in
theorem room_walk (w : World) (x : TxD) (hx : x.At w) (page : Int) :
    Calls Try.prog 7 #[.agg #[.int .i64 x.id, .int .i64 x.st, .int .i64 x.f, .int .i64 x.l, .slice x.A x.n x.c, .slice x.B x.m x.d], .int .i64 page] w fun e w' => e = .returned (.bool true) ∧ Below w.heap.size w w' := by
  obtain ⟨w1, hw1⟩ : ∃ w1, w.alloc (.cells #[.int .i64 x.id, .int .i64 x.st, .int .i64 x.f, .int .i64 x.l, .slice x.A x.n x.c, .slice x.B x.m x.d] 25) = w1 := ⟨_, rfl⟩
  have HB1 : Hid ((x : TxD).In w1 (w.heap.size)) := by
    rw [← hw1]
    have q := TxD.In.new (w) (x)
    exact q.keep (Mod.refl (fun _ => False) _)
  have HM1 : Hid (Mod (fun _ => False) w w1) := by rw [← hw1]; exact (Mod.refl (fun _ => False) w).alloc _
  have hz1 : w.heap.size + 1 ≤ w1.heap.size := by rw [← hw1]; simp
  have Kx1 := Lib.hid (hx.kp0.keep HM1.out)
  clear hx
  have HLt := Lib.hid (fun V (hV : Mod (fun _ => False) w1 V) => llight_ok V x ChD.zero (Kx1.out.keep hV).at_ (ChD.zero_at V))
  have Hsm : Hid ((ltB x.p && smB ChD.zero.p) = true → SmT x.p) := fun h => by
    rw [Bool.and_eq_true] at h
    exact SmT.lt h.1
  generalize (ltB x.p && smB ChD.zero.p) = b1 at *
  cases b1 with
  | false =>
    obtain ⟨c0, c1, c2, c3, c4, c5⟩ : w1.cell? ⟨w.heap.size, 0, none⟩ = some (.int .i64 x.id) ∧ w1.cell? ⟨w.heap.size, 1, none⟩ = some (.int .i64 x.st) ∧ w1.cell? ⟨w.heap.size, 2, none⟩ = some (.int .i64 x.f) ∧ w1.cell? ⟨w.heap.size, 3, none⟩ = some (.int .i64 x.l) ∧ w1.cell? ⟨w.heap.size, 4, none⟩ = some (.slice x.A x.n x.c) ∧ w1.cell? ⟨w.heap.size, 5, none⟩ = some (.slice x.B x.m x.d) := HB1.out.cells
    go_enter Try.func7, Try.ntmps7
    go_wp2_with fail
    refine (awake_ok w1).mono ?_
    rintro e w2 ⟨rfl, hm⟩
    have HM12 := Lib.hid hm
    have HM2 := Lib.hid (HM1.out.trans hm (fun _ _ h => h))
    have hz2 := hm.size
    have HB2 := Lib.hid (HB1.out.keep hm)
    have Kx2 := Lib.hid (Kx1.out.keep hm)
    clear hm hw1 c0 c1 c2 c3 c4 c5
    obtain ⟨c0, c1, c2, c3, c4, c5⟩ : w2.cell? ⟨w.heap.size, 0, none⟩ = some (.int .i64 x.id) ∧ w2.cell? ⟨w.heap.size, 1, none⟩ = some (.int .i64 x.st) ∧ w2.cell? ⟨w.heap.size, 2, none⟩ = some (.int .i64 x.f) ∧ w2.cell? ⟨w.heap.size, 3, none⟩ = some (.int .i64 x.l) ∧ w2.cell? ⟨w.heap.size, 4, none⟩ = some (.slice x.A x.n x.c) ∧ w2.cell? ⟨w.heap.size, 5, none⟩ = some (.slice x.B x.m x.d) := HB2.out.cells
    go_wp2_with fail
    refine (HLt.out _ HM12.out).mono ?_
    rintro e w3 ⟨rfl, hm⟩
    have HM3 := Lib.hid (HM2.out.trans hm (fun _ _ h => h))
    have hz3 := hm.size
    have HB3 := Lib.hid (HB2.out.keep hm)
    have Kx3 := Lib.hid (Kx2.out.keep hm)
    clear hm HM12 c0 c1 c2 c3 c4 c5
    obtain ⟨c0, c1, c2, c3, c4, c5⟩ : w3.cell? ⟨w.heap.size, 0, none⟩ = some (.int .i64 x.id) ∧ w3.cell? ⟨w.heap.size, 1, none⟩ = some (.int .i64 x.st) ∧ w3.cell? ⟨w.heap.size, 2, none⟩ = some (.int .i64 x.f) ∧ w3.cell? ⟨w.heap.size, 3, none⟩ = some (.int .i64 x.l) ∧ w3.cell? ⟨w.heap.size, 4, none⟩ = some (.slice x.A x.n x.c) ∧ w3.cell? ⟨w.heap.size, 5, none⟩ = some (.slice x.B x.m x.d) := HB3.out.cells
    go_wp2
    go_ret
    exact ⟨rfl, HM3.out.below (Nat.le_refl _) (fun _ _ h => h)⟩
  | true =>
  have Hsz := Lib.hid (Kx1.out.at_.sm (Hsm.out (by trivial)))
  clear Hsm
  have HMy := Lib.hid (fun V (hV : Mod (fun _ => False) w1 V) => may_ok V x (Kx1.out.keep hV).at_ Hsz.out.1 Hsz.out.2.1)
  cases hb2 : mayT x.p with
  | false =>
    rw [hb2] at HMy
    clear hb2
    obtain ⟨c0, c1, c2, c3, c4, c5⟩ : w1.cell? ⟨w.heap.size, 0, none⟩ = some (.int .i64 x.id) ∧ w1.cell? ⟨w.heap.size, 1, none⟩ = some (.int .i64 x.st) ∧ w1.cell? ⟨w.heap.size, 2, none⟩ = some (.int .i64 x.f) ∧ w1.cell? ⟨w.heap.size, 3, none⟩ = some (.int .i64 x.l) ∧ w1.cell? ⟨w.heap.size, 4, none⟩ = some (.slice x.A x.n x.c) ∧ w1.cell? ⟨w.heap.size, 5, none⟩ = some (.slice x.B x.m x.d) := HB1.out.cells
    go_enter Try.func7, Try.ntmps7
    go_wp2_with fail
    refine (awake_ok w1).mono ?_
    rintro e w2 ⟨rfl, hm⟩
    have HM12 := Lib.hid hm
    have HM2 := Lib.hid (HM1.out.trans hm (fun _ _ h => h))
    have hz2 := hm.size
    have HB2 := Lib.hid (HB1.out.keep hm)
    have Kx2 := Lib.hid (Kx1.out.keep hm)
    clear hm hw1 c0 c1 c2 c3 c4 c5
    obtain ⟨c0, c1, c2, c3, c4, c5⟩ : w2.cell? ⟨w.heap.size, 0, none⟩ = some (.int .i64 x.id) ∧ w2.cell? ⟨w.heap.size, 1, none⟩ = some (.int .i64 x.st) ∧ w2.cell? ⟨w.heap.size, 2, none⟩ = some (.int .i64 x.f) ∧ w2.cell? ⟨w.heap.size, 3, none⟩ = some (.int .i64 x.l) ∧ w2.cell? ⟨w.heap.size, 4, none⟩ = some (.slice x.A x.n x.c) ∧ w2.cell? ⟨w.heap.size, 5, none⟩ = some (.slice x.B x.m x.d) := HB2.out.cells
    go_wp2_with fail
    refine (HLt.out _ HM12.out).mono ?_
    rintro e w3 ⟨rfl, hm⟩
    have HM13 := Lib.hid (HM12.out.trans hm (fun _ _ h => h))
    have HM3 := Lib.hid (HM2.out.trans hm (fun _ _ h => h))
    have hz3 := hm.size
    have HB3 := Lib.hid (HB2.out.keep hm)
    have Kx3 := Lib.hid (Kx2.out.keep hm)
    clear hm HM12 c0 c1 c2 c3 c4 c5
    obtain ⟨c0, c1, c2, c3, c4, c5⟩ : w3.cell? ⟨w.heap.size, 0, none⟩ = some (.int .i64 x.id) ∧ w3.cell? ⟨w.heap.size, 1, none⟩ = some (.int .i64 x.st) ∧ w3.cell? ⟨w.heap.size, 2, none⟩ = some (.int .i64 x.f) ∧ w3.cell? ⟨w.heap.size, 3, none⟩ = some (.int .i64 x.l) ∧ w3.cell? ⟨w.heap.size, 4, none⟩ = some (.slice x.A x.n x.c) ∧ w3.cell? ⟨w.heap.size, 5, none⟩ = some (.slice x.B x.m x.d) := HB3.out.cells
    go_wp2_with fail
    refine (HMy.out _ HM13.out).mono ?_
    rintro e w4 ⟨rfl, hm⟩
    have HM4 := Lib.hid (HM3.out.trans hm (fun _ _ h => h))
    have hz4 := hm.size
    have HB4 := Lib.hid (HB3.out.keep hm)
    have Kx4 := Lib.hid (Kx3.out.keep hm)
    clear hm HM13 c0 c1 c2 c3 c4 c5
    obtain ⟨c0, c1, c2, c3, c4, c5⟩ : w4.cell? ⟨w.heap.size, 0, none⟩ = some (.int .i64 x.id) ∧ w4.cell? ⟨w.heap.size, 1, none⟩ = some (.int .i64 x.st) ∧ w4.cell? ⟨w.heap.size, 2, none⟩ = some (.int .i64 x.f) ∧ w4.cell? ⟨w.heap.size, 3, none⟩ = some (.int .i64 x.l) ∧ w4.cell? ⟨w.heap.size, 4, none⟩ = some (.slice x.A x.n x.c) ∧ w4.cell? ⟨w.heap.size, 5, none⟩ = some (.slice x.B x.m x.d) := HB4.out.cells
    go_wp2
    go_ret
    exact ⟨rfl, HM4.out.below (Nat.le_refl _) (fun _ _ h => h)⟩
  | true =>
  rw [hb2] at HMy
  have Hm := Lib.hid hb2
  clear hb2
  obtain ⟨c0, c1, c2, c3, c4, c5⟩ : w1.cell? ⟨w.heap.size, 0, none⟩ = some (.int .i64 x.id) ∧ w1.cell? ⟨w.heap.size, 1, none⟩ = some (.int .i64 x.st) ∧ w1.cell? ⟨w.heap.size, 2, none⟩ = some (.int .i64 x.f) ∧ w1.cell? ⟨w.heap.size, 3, none⟩ = some (.int .i64 x.l) ∧ w1.cell? ⟨w.heap.size, 4, none⟩ = some (.slice x.A x.n x.c) ∧ w1.cell? ⟨w.heap.size, 5, none⟩ = some (.slice x.B x.m x.d) := HB1.out.cells
  go_enter Try.func7, Try.ntmps7
  go_wp2_with fail
  refine (awake_ok w1).mono ?_
  rintro e w2 ⟨rfl, hm⟩
  have HM12 := Lib.hid hm
  have HM2 := Lib.hid (HM1.out.trans hm (fun _ _ h => h))
  have hz2 := hm.size
  have HB2 := Lib.hid (HB1.out.keep hm)
  have Kx2 := Lib.hid (Kx1.out.keep hm)
  clear hm hw1 c0 c1 c2 c3 c4 c5
  obtain ⟨c0, c1, c2, c3, c4, c5⟩ : w2.cell? ⟨w.heap.size, 0, none⟩ = some (.int .i64 x.id) ∧ w2.cell? ⟨w.heap.size, 1, none⟩ = some (.int .i64 x.st) ∧ w2.cell? ⟨w.heap.size, 2, none⟩ = some (.int .i64 x.f) ∧ w2.cell? ⟨w.heap.size, 3, none⟩ = some (.int .i64 x.l) ∧ w2.cell? ⟨w.heap.size, 4, none⟩ = some (.slice x.A x.n x.c) ∧ w2.cell? ⟨w.heap.size, 5, none⟩ = some (.slice x.B x.m x.d) := HB2.out.cells
  go_wp2_with fail
  refine (HLt.out _ HM12.out).mono ?_
  rintro e w3 ⟨rfl, hm⟩
  have HM13 := Lib.hid (HM12.out.trans hm (fun _ _ h => h))
  have HM3 := Lib.hid (HM2.out.trans hm (fun _ _ h => h))
  have hz3 := hm.size
  have HB3 := Lib.hid (HB2.out.keep hm)
  have Kx3 := Lib.hid (Kx2.out.keep hm)
  clear hm HM12 c0 c1 c2 c3 c4 c5
  obtain ⟨c0, c1, c2, c3, c4, c5⟩ : w3.cell? ⟨w.heap.size, 0, none⟩ = some (.int .i64 x.id) ∧ w3.cell? ⟨w.heap.size, 1, none⟩ = some (.int .i64 x.st) ∧ w3.cell? ⟨w.heap.size, 2, none⟩ = some (.int .i64 x.f) ∧ w3.cell? ⟨w.heap.size, 3, none⟩ = some (.int .i64 x.l) ∧ w3.cell? ⟨w.heap.size, 4, none⟩ = some (.slice x.A x.n x.c) ∧ w3.cell? ⟨w.heap.size, 5, none⟩ = some (.slice x.B x.m x.d) := HB3.out.cells
  go_wp2_with fail
  refine (HMy.out _ HM13.out).mono ?_
  rintro e w4 ⟨rfl, hm⟩
  have HM4 := Lib.hid (HM3.out.trans hm (fun _ _ h => h))
  have hz4 := hm.size
  have HB4 := Lib.hid (HB3.out.keep hm)
  have Kx4 := Lib.hid (Kx3.out.keep hm)
  clear hm HM13 c0 c1 c2 c3 c4 c5
  obtain ⟨c0, c1, c2, c3, c4, c5⟩ : w4.cell? ⟨w.heap.size, 0, none⟩ = some (.int .i64 x.id) ∧ w4.cell? ⟨w.heap.size, 1, none⟩ = some (.int .i64 x.st) ∧ w4.cell? ⟨w.heap.size, 2, none⟩ = some (.int .i64 x.f) ∧ w4.cell? ⟨w.heap.size, 3, none⟩ = some (.int .i64 x.l) ∧ w4.cell? ⟨w.heap.size, 4, none⟩ = some (.slice x.A x.n x.c) ∧ w4.cell? ⟨w.heap.size, 5, none⟩ = some (.slice x.B x.m x.d) := HB4.out.cells
  obtain ⟨w5, hw5⟩ : ∃ w5, w4.alloc (.cells #[.int .i64 x.id, .int .i64 x.st, .int .i64 x.f, .int .i64 x.l, .slice x.A x.n x.c, .slice x.B x.m x.d] 25) = w5 := ⟨_, rfl⟩
  have ha5 : Mod (fun _ => False) w4 w5 := by rw [← hw5]; exact (Mod.refl _ w4).alloc _
  have hz5 : w4.heap.size + 1 ≤ w5.heap.size := by rw [← hw5]; simp
  have HU5 : Hid ((x : TxD).In w5 w4.heap.size) := by rw [← hw5]; exact TxD.In.new w4 x
  have HM5 := Lib.hid (HM4.out.trans ha5 (fun _ _ h => h))
  have HB5 := Lib.hid (HB4.out.keep ha5)
  have Kx5 := Lib.hid (Kx4.out.keep ha5)
  clear ha5
  obtain ⟨d0, d1, d2, d3, d4, d5⟩ : w5.cell? ⟨w4.heap.size, 0, none⟩ = some (.int .i64 x.id) ∧ w5.cell? ⟨w4.heap.size, 1, none⟩ = some (.int .i64 x.st) ∧ w5.cell? ⟨w4.heap.size, 2, none⟩ = some (.int .i64 x.f) ∧ w5.cell? ⟨w4.heap.size, 3, none⟩ = some (.int .i64 x.l) ∧ w5.cell? ⟨w4.heap.size, 4, none⟩ = some (.slice x.A x.n x.c) ∧ w5.cell? ⟨w4.heap.size, 5, none⟩ = some (.slice x.B x.m x.d) := HU5.out.cells
  obtain ⟨w6, hw6⟩ : ∃ w6, w5.alloc (.cells #[.int .i64 x.id, .int .i64 x.st, .int .i64 x.f, .int .i64 x.l, .slice x.A x.n x.c, .slice x.B x.m x.d] 25) = w6 := ⟨_, rfl⟩
  have ha6 : Mod (fun _ => False) w5 w6 := by rw [← hw6]; exact (Mod.refl _ w5).alloc _
  have hz6 : w5.heap.size + 1 ≤ w6.heap.size := by rw [← hw6]; simp
  have HS6 : Hid ((x : TxD).In w6 w5.heap.size) := by rw [← hw6]; exact TxD.In.new w5 x
  have HM6 := Lib.hid (HM5.out.trans ha6 (fun _ _ h => h))
  have HB6 := Lib.hid (HB5.out.keep ha6)
  have HU6 := Lib.hid (HU5.out.keep ha6)
  have Kx6 := Lib.hid (Kx5.out.keep ha6)
  clear ha6
  go_wp2_with fail
  refine (kept_ok w6 (some ⟨w5.heap.size, 0, none⟩) 1 1 [x] (Xs.one HS6.out Kx6.out.at_) (by omega) (fun t ht => by simp at ht; rw [ht]; exact may_smallT Hm.out) page).mono ?_
  rintro e w7 ⟨rfl, hm⟩
  have hkk : kept page (pt [x]) = keptL page x.p.L := kept_one page x.p
  rw [hkk]
  clear hkk
  have HM7 := Lib.hid (HM6.out.trans hm (fun _ _ h => h))
  have hz7 := hm.size
  have HB7 := Lib.hid (HB6.out.keep hm)
  have HU7 := Lib.hid (HU6.out.keep hm)
  have HS7 := Lib.hid (HS6.out.keep hm)
  have Kx7 := Lib.hid (Kx6.out.keep hm)
  clear hm hw6 hw5 c0 c1 c2 c3 c4 c5 d0 d1 d2 d3 d4 d5
  have hgu : w.heap.size + 1 ≤ w4.heap.size := by omega
  have Hbu := HU7
  have Hk0 := Lib.hid (keptL_small (page := page) (may_smallT Hm.out))
  have Hk1 := Lib.hid (keptL_ge page x.p.L)
  have Hnx : Hid (x.n ≤ 6) := by show _ ≤ _; have := (may_len Hm.out).1; rwa [Kx7.out.at_.nL] at this
  have Hln : Hid (x.p.L.length = x.n) := Kx7.out.at_.nL
  have hfr : RoomFr w w7 x x w4.heap.size page 0 0 := ⟨HM7.out, Kx7.out, HB7.out, Kx7.out, HU7.out, Hm.out, Hln.out, by omega, by omega⟩
  have Hfr := Lib.hid hfr
  clear hfr Hbu HM2 HM3 HM4 HM5 HM6 HM7
  obtain ⟨c0, c1, c2, c3, c4, c5⟩ : w7.cell? ⟨w.heap.size, 0, none⟩ = some (.int .i64 x.id) ∧ w7.cell? ⟨w.heap.size, 1, none⟩ = some (.int .i64 x.st) ∧ w7.cell? ⟨w.heap.size, 2, none⟩ = some (.int .i64 x.f) ∧ w7.cell? ⟨w.heap.size, 3, none⟩ = some (.int .i64 x.l) ∧ w7.cell? ⟨w.heap.size, 4, none⟩ = some (.slice x.A x.n x.c) ∧ w7.cell? ⟨w.heap.size, 5, none⟩ = some (.slice x.B x.m x.d) := HB7.out.cells
  generalize w4.heap.size = gU at *
  go_wp2_with fail
  go_loopw [7, 10] (fun need k wr => ∃ (i : Nat) (u : TxD) (N : Int), k = .int .i64 i ∧ need = .int .i64 N ∧ i ≤ x.n ∧ RoomFr w wr x u gU page i N) (fun _ k _ => x.n - (intOf k).toNat)
  case atStart => exact ⟨0, x, 0, rfl, rfl, by omega, Hfr.out⟩
  case round =>
    obtain ⟨i, u, N, rfl, rfl, hi, hf⟩ := hrel
    have HF := Lib.hid hf
    clear hf Hfr c0 c1 c2 c3 c4 c5
    have HM20 := Lib.hid HF.out.old
    have HB20 := Lib.hid HF.out.bx
    have HU20 := Lib.hid HF.out.bu
    have Kx20 := Lib.hid HF.out.kx
    have Ku20 := Lib.hid HF.out.ku
    have Hmu := Lib.hid HF.out.may
    have hz20 : gU + 1 ≤ wr.heap.size := HF.out.bu.lt
    have Hnu := Lib.hid (HF.out.ku.at_.sm (SmT.may HF.out.may))
    have hK0 := Hk0.out
    have hK1 := Hk1.out
    have hlo := HF.out.lo
    have hrm := HF.out.room
    have hku := keptL_ge page u.p.L
    have hnx := Hnx.out
    have Hbd : Hid (N + keptL page u.p.L ≤ keptL page x.p.L ∧ -(1000 * (i : Int)) ≤ N ∧ 0 ≤ keptL page u.p.L ∧ keptL page x.p.L ≤ 2080) := ⟨hrm, hlo, hku, hK0⟩
    clear hlo hrm hku hK0 hK1 hnx
    obtain ⟨c0, c1, c2, c3, c4, c5⟩ : wr.cell? ⟨w.heap.size, 0, none⟩ = some (.int .i64 x.id) ∧ wr.cell? ⟨w.heap.size, 1, none⟩ = some (.int .i64 x.st) ∧ wr.cell? ⟨w.heap.size, 2, none⟩ = some (.int .i64 x.f) ∧ wr.cell? ⟨w.heap.size, 3, none⟩ = some (.int .i64 x.l) ∧ wr.cell? ⟨w.heap.size, 4, none⟩ = some (.slice x.A x.n x.c) ∧ wr.cell? ⟨w.heap.size, 5, none⟩ = some (.slice x.B x.m x.d) := HB20.out.cells
    by_cases hlt : i < x.n
    · have Hlu : Hid (0 < u.p.L.length) := by show 0 < _; rw [HF.out.len]; omega
      obtain ⟨d0, d1, d2, d3, d4, d5⟩ : wr.cell? ⟨gU, 0, none⟩ = some (.int .i64 u.id) ∧ wr.cell? ⟨gU, 1, none⟩ = some (.int .i64 u.st) ∧ wr.cell? ⟨gU, 2, none⟩ = some (.int .i64 u.f) ∧ wr.cell? ⟨gU, 3, none⟩ = some (.int .i64 u.l) ∧ wr.cell? ⟨gU, 4, none⟩ = some (.slice u.A u.n u.c) ∧ wr.cell? ⟨gU, 5, none⟩ = some (.slice u.B u.m u.d) := HU20.out.cells
      go_wp2_with fail
      refine ((undo_ok wr u Ku20.out.at_ Hnu.out.1 Hnu.out.2.1).mono (fun e w' h => (UnAns.ru (b0 := w.heap.size) h).at 0 (undoE_zero Hmu.out Hlu.out))).mono ?_
      rintro e w21 ⟨q, qc, rfl, hk, ha, hp, hpc, hm⟩
      have HM21 := Lib.hid (HM20.out.trans hm (fun _ _ h => h))
      have hz21 := hm.size
      have HB21 := Lib.hid (HB20.out.keep hm)
      have HU21 := Lib.hid (HU20.out.keep hm)
      have Kx21 := Lib.hid (Kx20.out.keep hm)
      have Ku21 := Lib.hid (Ku20.out.keep hm)
      clear hm
      have Kq21 := Lib.hid hk
      have Pq := Lib.hid hp
      clear hk hp
      have Aqc21 := Lib.hid ha
      have Pqc := Lib.hid hpc
      clear ha hpc c0 c1 c2 c3 c4 c5 d0 d1 d2 d3 d4 d5
      have Pq2 : Hid (q.p = undoT u.p) := by show _ = _; have := Pq.out; rwa [if_pos rfl] at this
      have Pqc2 : Hid (qc.p = undoC u.p) := by show _ = _; have := Pqc.out; rwa [if_pos rfl] at this
      clear Pq Pqc
      obtain ⟨w22, hw22⟩ : ∃ w22, w21.alloc (.cells #[.int .i64 0, .int .i64 0, .int .i64 0, .int .i64 0, .slice none 0 0, .slice none 0 0] 25) = w22 := ⟨_, rfl⟩
      have ha : Mod (fun _ => False) w21 w22 := by rw [← hw22]; exact (Mod.refl _ _).alloc _
      have hz22 : w21.heap.size + 1 ≤ w22.heap.size := by rw [← hw22]; simp
      have hT0 : TxD.zero.In w22 w21.heap.size := by rw [← hw22]; exact TxD.In.new w21 TxD.zero
      obtain ⟨w23, hw23⟩ : ∃ w23, w22.alloc (.cells #[.int .i64 0, .int .i64 0, .int .i64 0, .bool false, .slice none 0 0, .bool false, .slice none 0 0] 30) = w23 := ⟨_, rfl⟩
      have hb : Mod (fun _ => False) w22 w23 := by rw [← hw23]; exact (Mod.refl _ _).alloc _
      have hz23 : w22.heap.size + 1 ≤ w23.heap.size := by rw [← hw23]; simp
      have hC0 : ChD.zero.In w23 w22.heap.size := by rw [← hw23]; exact ChD.In.new w22 ChD.zero
      have hT1 := hT0.keep hb
      have vg0 := hT1.fz 0
      have vg1 := hT1.fz 1
      have vg2 := hT1.fz 2
      have vg3 := hT1.fz 3
      have vg4 := hT1.fz 4
      have vg5 := hT1.fz 5
      obtain ⟨vr0, vr1, vr2, vr3, vr4, vr5⟩ : w23.cell? ⟨w21.heap.size, 0, none⟩ = some (.int .i64 0) ∧ w23.cell? ⟨w21.heap.size, 1, none⟩ = some (.int .i64 0) ∧ w23.cell? ⟨w21.heap.size, 2, none⟩ = some (.int .i64 0) ∧ w23.cell? ⟨w21.heap.size, 3, none⟩ = some (.int .i64 0) ∧ w23.cell? ⟨w21.heap.size, 4, none⟩ = some (.slice none 0 0) ∧ w23.cell? ⟨w21.heap.size, 5, none⟩ = some (.slice none 0 0) := hT1.cells
      obtain ⟨w24, hw24⟩ : ∃ w24, (((((w23.setCell ⟨w21.heap.size, 0, none⟩ (.int .i64 q.id)).setCell ⟨w21.heap.size, 1, none⟩ (.int .i64 q.st)).setCell ⟨w21.heap.size, 2, none⟩ (.int .i64 q.f)).setCell ⟨w21.heap.size, 3, none⟩ (.int .i64 q.l)).setCell ⟨w21.heap.size, 4, none⟩ (.slice q.A q.n q.c)).setCell ⟨w21.heap.size, 5, none⟩ (.slice q.B q.m q.d) = w24 := ⟨_, rfl⟩
      have hq : stT w23 (w21.heap.size) q = w24 := hw24
      have hc : Mod (fun k => k = w21.heap.size) w23 w24 := by rw [← hq]; exact stT_mod _ _ q
      have hz24 := hc.size
      have hT2 : (q : TxD).In w24 (w21.heap.size) := by rw [← hq]; exact hT1.set q
      clear hq
      have hC1 := hC0.mod hc (fun e => by omega)
      have vk0 := hC1.fz 0
      have vk1 := hC1.fz 1
      have vk2 := hC1.fz 2
      have vk3 := hC1.fz 3
      have vk4 := hC1.fz 4
      have vk5 := hC1.fz 5
      have vk6 := hC1.fz 6
      obtain ⟨vs0, vs1, vs2, vs3, vs4, vs5, vs6⟩ : w24.cell? ⟨w22.heap.size, 0, none⟩ = some (.int .i64 0) ∧ w24.cell? ⟨w22.heap.size, 1, none⟩ = some (.int .i64 0) ∧ w24.cell? ⟨w22.heap.size, 2, none⟩ = some (.int .i64 0) ∧ w24.cell? ⟨w22.heap.size, 3, none⟩ = some (.bool false) ∧ w24.cell? ⟨w22.heap.size, 4, none⟩ = some (.slice none 0 0) ∧ w24.cell? ⟨w22.heap.size, 5, none⟩ = some (.bool false) ∧ w24.cell? ⟨w22.heap.size, 6, none⟩ = some (.slice none 0 0) := hC1.cells
      obtain ⟨w25, hw25⟩ : ∃ w25, ((((((w24.setCell ⟨w22.heap.size, 0, none⟩ (.int .i64 qc.lsn)).setCell ⟨w22.heap.size, 1, none⟩ (.int .i64 qc.page)).setCell ⟨w22.heap.size, 2, none⟩ (.int .i64 qc.key)).setCell ⟨w22.heap.size, 3, none⟩ (.bool qc.o.is)).setCell ⟨w22.heap.size, 4, none⟩ (.slice qc.o.B qc.o.m qc.o.d)).setCell ⟨w22.heap.size, 5, none⟩ (.bool qc.v.is)).setCell ⟨w22.heap.size, 6, none⟩ (.slice qc.v.B qc.v.m qc.v.d) = w25 := ⟨_, rfl⟩
      have hq : stC w24 (w22.heap.size) 0 qc = w25 := hw25
      have hd : Mod (fun k => k = w22.heap.size) w24 w25 := by rw [← hq]; exact stC_mod _ _ 0 qc
      have hz25 := hd.size
      have HC25 : Hid ((qc : ChD).In w25 (w22.heap.size)) := by rw [← hq]; exact hC1.set qc
      clear hq
      have HQ25 : Hid ((q : TxD).In w25 (w21.heap.size)) := hT2.mod hd (fun e => by omega)
      have hm0 : Mod (fun _ => False) w21 w25 := ((ha.trans hb (fun _ _ h => h)).trans hc (fun k hk e => by omega)).trans hd (fun k hk e => by omega)
      have HM25 := Lib.hid (HM21.out.trans hm0 (fun _ _ h => h))
      have HB25 := Lib.hid (HB21.out.keep hm0)
      have HU25 := Lib.hid (HU21.out.keep hm0)
      have Kx25 := Lib.hid (Kx21.out.keep hm0)
      have Ku25 := Lib.hid (Ku21.out.keep hm0)
      have Kq25 := Lib.hid (Kq21.out.keep hm0)
      have Aqc25 := Lib.hid (Aqc21.out.keep hm0)
      clear ha hb hc hd hT0 hT1 hT2 hC0 hC1 hm0
      obtain ⟨c0, c1, c2, c3, c4, c5⟩ : w25.cell? ⟨w21.heap.size, 0, none⟩ = some (.int .i64 q.id) ∧ w25.cell? ⟨w21.heap.size, 1, none⟩ = some (.int .i64 q.st) ∧ w25.cell? ⟨w21.heap.size, 2, none⟩ = some (.int .i64 q.f) ∧ w25.cell? ⟨w21.heap.size, 3, none⟩ = some (.int .i64 q.l) ∧ w25.cell? ⟨w21.heap.size, 4, none⟩ = some (.slice q.A q.n q.c) ∧ w25.cell? ⟨w21.heap.size, 5, none⟩ = some (.slice q.B q.m q.d) := HQ25.out.cells
      obtain ⟨d0, d1, d2, d3, d4, d5⟩ : w25.cell? ⟨gU, 0, none⟩ = some (.int .i64 u.id) ∧ w25.cell? ⟨gU, 1, none⟩ = some (.int .i64 u.st) ∧ w25.cell? ⟨gU, 2, none⟩ = some (.int .i64 u.f) ∧ w25.cell? ⟨gU, 3, none⟩ = some (.int .i64 u.l) ∧ w25.cell? ⟨gU, 4, none⟩ = some (.slice u.A u.n u.c) ∧ w25.cell? ⟨gU, 5, none⟩ = some (.slice u.B u.m u.d) := HU25.out.cells
      have f0 := HU25.out.fz 0
      have f1 := HU25.out.fz 1
      have f2 := HU25.out.fz 2
      have f3 := HU25.out.fz 3
      have f4 := HU25.out.fz 4
      have f5 := HU25.out.fz 5
      obtain ⟨w26, hw26⟩ : ∃ w26, (((((w25.setCell ⟨gU, 0, none⟩ (.int .i64 q.id)).setCell ⟨gU, 1, none⟩ (.int .i64 q.st)).setCell ⟨gU, 2, none⟩ (.int .i64 q.f)).setCell ⟨gU, 3, none⟩ (.int .i64 q.l)).setCell ⟨gU, 4, none⟩ (.slice q.A q.n q.c)).setCell ⟨gU, 5, none⟩ (.slice q.B q.m q.d) = w26 := ⟨_, rfl⟩
      have hq26 : stT w25 (gU) q = w26 := hw26
      have hs26 : Mod (fun k => k = gU) w25 w26 := by rw [← hq26]; exact stT_mod w25 (gU) q
      have HM26 : Hid (Mod (fun _ => False) w w26) := HM25.out.trans hs26 (fun k _ e => by omega)
      have hz26 := hs26.size
      have HB26 := Lib.hid (HB25.out.mod hs26 (fun e => by omega))
      have HQ26 := Lib.hid (HQ25.out.mod hs26 (fun e => by omega))
      have HC26 := Lib.hid (HC25.out.mod hs26 (fun e => by omega))
      have Kx26 := Lib.hid (Kx25.out.box HU25.out (by omega) hs26)
      have Ku26 := Lib.hid (Ku25.out.box HU25.out (by omega) hs26)
      have Kq26 := Lib.hid (Kq25.out.box HU25.out (by omega) hs26)
      have Aqc26 := Lib.hid (Aqc25.out.box HU25.out hs26)
      have HU26 : Hid ((q : TxD).In w26 (gU)) := by rw [← hq26]; exact HU25.out.set q
      clear hq26 hs26
      obtain ⟨e0, e1, e2, e3, e4, e5, e6⟩ : w26.cell? ⟨w22.heap.size, 0, none⟩ = some (.int .i64 qc.lsn) ∧ w26.cell? ⟨w22.heap.size, 1, none⟩ = some (.int .i64 qc.page) ∧ w26.cell? ⟨w22.heap.size, 2, none⟩ = some (.int .i64 qc.key) ∧ w26.cell? ⟨w22.heap.size, 3, none⟩ = some (.bool qc.o.is) ∧ w26.cell? ⟨w22.heap.size, 4, none⟩ = some (.slice qc.o.B qc.o.m qc.o.d) ∧ w26.cell? ⟨w22.heap.size, 5, none⟩ = some (.bool qc.v.is) ∧ w26.cell? ⟨w22.heap.size, 6, none⟩ = some (.slice qc.v.B qc.v.m qc.v.d) := HC26.out.cells
      have hrs : keptL page u.p.L = keptL page q.p.L + gain page qc.p := by rw [Pq2.out, Pqc2.out]; exact room_step Hlu.out
      have hmq : mayT q.p = true := by rw [Pq2.out]; exact undo_may Hmu.out
      have hlq : q.p.L.length = x.n - (i + 1) := by rw [Pq2.out]; simp only [undoT, List.length_take]; rw [HF.out.len]; omega
      have Hrs := Lib.hid hrs
      have Hmq := Lib.hid hmq
      have Hlq := Lib.hid hlq
      have hsc := may_small Hmu.out (undoC u.p) (List.mem_of_getElem? (atC_at (L := u.p.L) (i := u.p.L.length - 1) (by have := Hlu.out; omega)))
      rw [← Pqc2.out] at hsc
      have ho := sizV_le (v := qc.o.p) (by have : qc.o.vs.length ≤ 32 := hsc.1; show qc.o.vs.length ≤ 100; omega)
      have hv := sizV_le (v := qc.v.p) (by have : qc.v.vs.length ≤ 32 := hsc.2; show qc.v.vs.length ≤ 100; omega)
      have lo : qc.o.vs.length = qc.o.m := Aqc26.out.o.len
      have lv : qc.v.vs.length = qc.v.m := Aqc26.out.v.len
      have mo : qc.o.m ≤ 1000 := by have : qc.o.vs.length ≤ 32 := hsc.1; omega
      have mv : qc.v.m ≤ 1000 := by have : qc.v.vs.length ≤ 32 := hsc.2; omega
      have V1 := Lib.hid (fun V => size_ok V qc.o lo (by omega))
      have V2 := Lib.hid (fun V => size_ok V qc.v lv (by omega))
      have Hgd : Hid ((if qc.page = page then sizV qc.o.p - sizV qc.v.p else 0) ≤ gain page qc.p) := gain_ge_d (c := qc.p)
      have hkq := keptL_ge page q.p.L
      have Hb2 : Hid ((0 ≤ sizV qc.o.p ∧ sizV qc.o.p ≤ 104) ∧ (0 ≤ sizV qc.v.p ∧ sizV qc.v.p ≤ 104) ∧ 0 ≤ keptL page q.p.L) := ⟨ho, hv, hkq⟩
      clear hrs hmq hlq hsc ho hv lo lv mo mv hkq
      generalize sizV qc.o.p = zo at *
      generalize sizV qc.v.p = zv at *
      have hnx : x.n ≤ 6 := Hnx.out
      by_cases hp : qc.page = page
      · have hpd : (qc.page == page) = true := by simp [hp]
        rw [if_pos hp] at Hgd
        clear hp
        have ew1 : IntKind.i64.wrap (N + zo) = N + zo := by obtain ⟨⟨_, _⟩, ⟨_, _⟩, _⟩ := Hb2.out; obtain ⟨_, _, _, _⟩ := Hbd.out; rw [IntKind.wrap_i64]; omega
        have ew2 : IntKind.i64.wrap (N + zo - zv) = N + zo - zv := by obtain ⟨⟨_, _⟩, ⟨_, _⟩, _⟩ := Hb2.out; obtain ⟨_, _, _, _⟩ := Hbd.out; rw [IntKind.wrap_i64]; omega
        have HD : Hid (Mod (fun _ => False) w26 w26.drew) := (Mod.refl _ w26).drew
        go_wp2_with fail
        clear hpd d0 d1 d2 d3 d4 d5 vg0 vg1 vg2 vg3 vg4 vg5 vr0 vr1 vr2 vr3 vr4 vr5 vk0 vk1 vk2 vk3 vk4 vk5 vk6 vs0 vs1 vs2 vs3 vs4 vs5 vs6 hw22 hw23 hw24 hw25 hw26 c0 c1 c2 c3 c4 c5 f0 f1 f2 f3 f4 f5 e0 e1 e2 e3 e4 e5 e6
        refine wp_region_held (S := (fun V : World => V.cell? ⟨w22.heap.size, 0, none⟩ = some (.int .i64 qc.lsn) ∧ V.cell? ⟨w22.heap.size, 1, none⟩ = some (.int .i64 qc.page) ∧ V.cell? ⟨w22.heap.size, 2, none⟩ = some (.int .i64 qc.key) ∧ V.cell? ⟨w22.heap.size, 3, none⟩ = some (.bool qc.o.is) ∧ V.cell? ⟨w22.heap.size, 4, none⟩ = some (.slice qc.o.B qc.o.m qc.o.d) ∧ V.cell? ⟨w22.heap.size, 5, none⟩ = some (.bool qc.v.is) ∧ V.cell? ⟨w22.heap.size, 6, none⟩ = some (.slice qc.v.B qc.v.m qc.v.d))) (by kernel_rfl) ?_
        have hI := (show (fun V : World => V.cell? ⟨w22.heap.size, 0, none⟩ = some (.int .i64 qc.lsn) ∧ V.cell? ⟨w22.heap.size, 1, none⟩ = some (.int .i64 qc.page) ∧ V.cell? ⟨w22.heap.size, 2, none⟩ = some (.int .i64 qc.key) ∧ V.cell? ⟨w22.heap.size, 3, none⟩ = some (.bool qc.o.is) ∧ V.cell? ⟨w22.heap.size, 4, none⟩ = some (.slice qc.o.B qc.o.m qc.o.d) ∧ V.cell? ⟨w22.heap.size, 5, none⟩ = some (.bool qc.v.is) ∧ V.cell? ⟨w22.heap.size, 6, none⟩ = some (.slice qc.v.B qc.v.m qc.v.d)) _ from (HC26.out.keep HD.out).cells)
        refine rg_take (n := 9) (v := ?_) 0 (some 56) rfl rfl (by kernel_rfl) (by kernel_rfl) (by kernel_rfl) (fun _ _ _ h => h) (by rfl) hI ?_ ?_
        rotate_left
        · ((intro w hSw; (try dsimp only at hSw); go_simp); (try with_reducible rfl))
        try simp only [Act.put, List.setIfInBounds_toArray, List.set_cons_zero, List.set_cons_succ]
        refine rg_take (n := 8) (v := ?_) 1 (some 57) rfl rfl (by kernel_rfl) (by kernel_rfl) (by kernel_rfl) (fun _ _ _ h => h) (by rfl) hI ?_ ?_
        rotate_left
        · ((intro w hSw; (try dsimp only at hSw); go_simp); (try with_reducible rfl))
        try simp only [Act.put, List.setIfInBounds_toArray, List.set_cons_zero, List.set_cons_succ]
        refine rg_take (n := 7) (v := ?_) 2 (some 58) rfl rfl (by kernel_rfl) (by kernel_rfl) (by kernel_rfl) (fun _ _ _ h => h) (by rfl) hI ?_ ?_
        rotate_left
        · ((intro w hSw; (try dsimp only at hSw); go_simp); (try with_reducible rfl))
        try simp only [Act.put, List.setIfInBounds_toArray, List.set_cons_zero, List.set_cons_succ]
        refine rg_take (n := 6) (v := ?_) 5 (some 61) rfl rfl (by kernel_rfl) (by kernel_rfl) (by kernel_rfl) (fun _ _ _ h => h) (by rfl) hI ?_ ?_
        rotate_left
        · ((intro w hSw; (try dsimp only at hSw); go_simp); (try with_reducible rfl))
        try simp only [Act.put, List.setIfInBounds_toArray, List.set_cons_zero, List.set_cons_succ]
        refine rg_take (n := 5) (v := ?_) 6 (some 62) rfl rfl (by kernel_rfl) (by kernel_rfl) (by kernel_rfl) (fun _ _ _ h => h) (by rfl) hI ?_ ?_
        rotate_left
        · ((intro w hSw; (try dsimp only at hSw); go_simp); (try with_reducible rfl))
        try simp only [Act.put, List.setIfInBounds_toArray, List.set_cons_zero, List.set_cons_succ]
        refine rg_one (n := 4) 3 rfl (by kernel_rfl) (by rfl) ?_
        go_simp
        go_at_call 27
        refine (V1.out _).mono ?_
        rintro e w27 ⟨rfl, hm⟩
        have hmv := HD.out.trans hm (fun _ _ h => h)
        have HM27 := Lib.hid (HM26.out.trans hmv (fun _ _ h => h))
        have hz27 := hmv.size
        have HB27 := Lib.hid (HB26.out.keep hmv)
        have HU27 := Lib.hid (HU26.out.keep hmv)
        have HQ27 := Lib.hid (HQ26.out.keep hmv)
        have HC27 := Lib.hid (HC26.out.keep hmv)
        have Kx27 := Lib.hid (Kx26.out.keep hmv)
        have Ku27 := Lib.hid (Ku26.out.keep hmv)
        have Kq27 := Lib.hid (Kq26.out.keep hmv)
        have Aqc27 := Lib.hid (Aqc26.out.keep hmv)
        clear hm hmv
        clear hI
        have hI := (show (fun V : World => V.cell? ⟨w22.heap.size, 0, none⟩ = some (.int .i64 qc.lsn) ∧ V.cell? ⟨w22.heap.size, 1, none⟩ = some (.int .i64 qc.page) ∧ V.cell? ⟨w22.heap.size, 2, none⟩ = some (.int .i64 qc.key) ∧ V.cell? ⟨w22.heap.size, 3, none⟩ = some (.bool qc.o.is) ∧ V.cell? ⟨w22.heap.size, 4, none⟩ = some (.slice qc.o.B qc.o.m qc.o.d) ∧ V.cell? ⟨w22.heap.size, 5, none⟩ = some (.bool qc.v.is) ∧ V.cell? ⟨w22.heap.size, 6, none⟩ = some (.slice qc.v.B qc.v.m qc.v.d)) _ from HC27.out.cells)
        refine ⟨hI, ?_⟩
        try simp only [Act.put, List.setIfInBounds_toArray, List.set_cons_zero, List.set_cons_succ]
        refine rg_take (n := 3) (v := ?_) 4 (some 60) rfl rfl (by kernel_rfl) (by kernel_rfl) (by kernel_rfl) (fun _ _ _ h => h) (by rfl) hI ?_ ?_
        rotate_left
        · ((intro w hSw; (try dsimp only at hSw); go_simp); (try with_reducible rfl))
        try simp only [Act.put, List.setIfInBounds_toArray, List.set_cons_zero, List.set_cons_succ]
        refine rg_one (n := 2) 7 rfl (by kernel_rfl) (by rfl) ?_
        go_simp
        go_at_call 27
        refine (V2.out _).mono ?_
        rintro e w28 ⟨rfl, hm⟩
        have HM28 := Lib.hid (HM27.out.trans hm (fun _ _ h => h))
        have hz28 := hm.size
        have HB28 := Lib.hid (HB27.out.keep hm)
        have HU28 := Lib.hid (HU27.out.keep hm)
        have HQ28 := Lib.hid (HQ27.out.keep hm)
        have HC28 := Lib.hid (HC27.out.keep hm)
        have Kx28 := Lib.hid (Kx27.out.keep hm)
        have Ku28 := Lib.hid (Ku27.out.keep hm)
        have Kq28 := Lib.hid (Kq27.out.keep hm)
        have Aqc28 := Lib.hid (Aqc27.out.keep hm)
        clear hm
        clear hI
        have hI := (show (fun V : World => V.cell? ⟨w22.heap.size, 0, none⟩ = some (.int .i64 qc.lsn) ∧ V.cell? ⟨w22.heap.size, 1, none⟩ = some (.int .i64 qc.page) ∧ V.cell? ⟨w22.heap.size, 2, none⟩ = some (.int .i64 qc.key) ∧ V.cell? ⟨w22.heap.size, 3, none⟩ = some (.bool qc.o.is) ∧ V.cell? ⟨w22.heap.size, 4, none⟩ = some (.slice qc.o.B qc.o.m qc.o.d) ∧ V.cell? ⟨w22.heap.size, 5, none⟩ = some (.bool qc.v.is) ∧ V.cell? ⟨w22.heap.size, 6, none⟩ = some (.slice qc.v.B qc.v.m qc.v.d)) _ from HC28.out.cells)
        refine ⟨hI, ?_⟩
        try simp only [Act.put, List.setIfInBounds_toArray, List.set_cons_zero, List.set_cons_succ]
        refine rg_take (n := 1) (v := ?_) 8 (some 64) rfl rfl (by kernel_rfl) (by kernel_rfl) (by kernel_rfl) (fun _ _ _ h => h) (by rfl) hI ?_ ?_
        rotate_left
        · ((intro w hSw; (try dsimp only at hSw); go_simp); (try with_reducible rfl))
        try simp only [Act.put, List.setIfInBounds_toArray, List.set_cons_zero, List.set_cons_succ]
        refine rg_take (n := 0) (v := ?_) 9 (some 7) rfl rfl (by kernel_rfl) (by kernel_rfl) (by kernel_rfl) (fun _ _ _ h => h) (by rfl) hI ?_ ?_
        rotate_left
        · ((intro w hSw; (try dsimp only at hSw); go_simp); (try with_reducible rfl))
        try simp only [Act.put, List.setIfInBounds_toArray, List.set_cons_zero, List.set_cons_succ]
        refine wpAnyH_done (by kernel_rfl) ?_ _
        clear hI
        obtain ⟨d0, d1, d2, d3, d4, d5⟩ : w28.cell? ⟨gU, 0, none⟩ = some (.int .i64 q.id) ∧ w28.cell? ⟨gU, 1, none⟩ = some (.int .i64 q.st) ∧ w28.cell? ⟨gU, 2, none⟩ = some (.int .i64 q.f) ∧ w28.cell? ⟨gU, 3, none⟩ = some (.int .i64 q.l) ∧ w28.cell? ⟨gU, 4, none⟩ = some (.slice q.A q.n q.c) ∧ w28.cell? ⟨gU, 5, none⟩ = some (.slice q.B q.m q.d) := HU28.out.cells
        obtain ⟨w29, hw29⟩ : ∃ w29, w28.alloc (.cells #[.int .i64 q.id, .int .i64 q.st, .int .i64 q.f, .int .i64 q.l, .slice q.A q.n q.c, .slice q.B q.m q.d] 25) = w29 := ⟨_, rfl⟩
        have ha29 : Mod (fun _ => False) w28 w29 := by rw [← hw29]; exact (Mod.refl _ w28).alloc _
        have hz29 : w28.heap.size + 1 ≤ w29.heap.size := by rw [← hw29]; simp
        have HS29 : Hid ((q : TxD).In w29 w28.heap.size) := by rw [← hw29]; exact TxD.In.new w28 q
        have HM29 := Lib.hid (HM28.out.trans ha29 (fun _ _ h => h))
        have HB29 := Lib.hid (HB28.out.keep ha29)
        have HU29 := Lib.hid (HU28.out.keep ha29)
        have HQ29 := Lib.hid (HQ28.out.keep ha29)
        have HC29 := Lib.hid (HC28.out.keep ha29)
        have Kx29 := Lib.hid (Kx28.out.keep ha29)
        have Ku29 := Lib.hid (Ku28.out.keep ha29)
        have Kq29 := Lib.hid (Kq28.out.keep ha29)
        have Aqc29 := Lib.hid (Aqc28.out.keep ha29)
        clear ha29
        go_wp2_with fail
        refine (kept_ok w29 (some ⟨w28.heap.size, 0, none⟩) 1 1 [q] (Xs.one HS29.out Kq29.out.at_) (by omega) (fun t ht => by simp at ht; rw [ht]; exact may_smallT Hmq.out) page).mono ?_
        rintro e w30 ⟨rfl, hm⟩
        have hkk : kept page (pt [q]) = keptL page q.p.L := kept_one page q.p
        rw [hkk]
        clear hkk
        have HM30 := Lib.hid (HM29.out.trans hm (fun _ _ h => h))
        have hz30 := hm.size
        have HB30 := Lib.hid (HB29.out.keep hm)
        have HU30 := Lib.hid (HU29.out.keep hm)
        have HQ30 := Lib.hid (HQ29.out.keep hm)
        have HC30 := Lib.hid (HC29.out.keep hm)
        have HS30 := Lib.hid (HS29.out.keep hm)
        have Kx30 := Lib.hid (Kx29.out.keep hm)
        have Ku30 := Lib.hid (Ku29.out.keep hm)
        have Kq30 := Lib.hid (Kq29.out.keep hm)
        have Aqc30 := Lib.hid (Aqc29.out.keep hm)
        clear hm hw29 ew1 ew2 HD d0 d1 d2 d3 d4 d5
        obtain ⟨⟨ho1, ho2⟩, ⟨hv1, hv2⟩, hq0⟩ := Hb2.out
        obtain ⟨hb1, hb2, hb3, hb4⟩ := Hbd.out
        have hgd := Hgd.out
        have hrs := Hrs.out
        have hroom : (N + zo - zv) + keptL page q.p.L ≤ keptL page x.p.L := by omega
        have hlow : -(1000 * ((i + 1 : Nat) : Int)) ≤ (N + zo - zv) := by omega
        have Hroom := Lib.hid hroom
        have Hlow := Lib.hid hlow
        have ew : IntKind.i64.wrap ((N + zo - zv) + keptL page q.p.L) = (N + zo - zv) + keptL page q.p.L := by rw [IntKind.wrap_i64]; omega
        have hd1 : decide (keptL page q.p.L < 0) = false := decide_eq_false (by omega)
        have hd2 : decide (keptL page x.p.L < (N + zo - zv) + keptL page q.p.L) = false := decide_eq_false (by omega)
        clear hroom hlow ho1 ho2 hv1 hv2 hq0 hb1 hb2 hb3 hb4 hgd hrs
        go_wp2
        go_roundw
        case rel => exact ⟨i + 1, q, (N + zo - zv), by go_num, rfl, by omega, ⟨HM30.out, Kx30.out, HB30.out, Kq30.out, HU30.out, Hmq.out, Hlq.out, Hroom.out, Hlow.out⟩⟩
        case measure => simp [intOf]; omega
      · have hpd : (qc.page == page) = false := by simpa using hp
        rw [if_neg hp] at Hgd
        clear hp
        go_upto_region 17 with fail
        clear hpd d0 d1 d2 d3 d4 d5 vg0 vg1 vg2 vg3 vg4 vg5 vr0 vr1 vr2 vr3 vr4 vr5 vk0 vk1 vk2 vk3 vk4 vk5 vk6 vs0 vs1 vs2 vs3 vs4 vs5 vs6 hw22 hw23 hw24 hw25 hw26 c0 c1 c2 c3 c4 c5 f0 f1 f2 f3 f4 f5 e0 e1 e2 e3 e4 e5 e6
        obtain ⟨d0, d1, d2, d3, d4, d5⟩ : w26.cell? ⟨gU, 0, none⟩ = some (.int .i64 q.id) ∧ w26.cell? ⟨gU, 1, none⟩ = some (.int .i64 q.st) ∧ w26.cell? ⟨gU, 2, none⟩ = some (.int .i64 q.f) ∧ w26.cell? ⟨gU, 3, none⟩ = some (.int .i64 q.l) ∧ w26.cell? ⟨gU, 4, none⟩ = some (.slice q.A q.n q.c) ∧ w26.cell? ⟨gU, 5, none⟩ = some (.slice q.B q.m q.d) := HU26.out.cells
        obtain ⟨w27, hw27⟩ : ∃ w27, w26.alloc (.cells #[.int .i64 q.id, .int .i64 q.st, .int .i64 q.f, .int .i64 q.l, .slice q.A q.n q.c, .slice q.B q.m q.d] 25) = w27 := ⟨_, rfl⟩
        have ha27 : Mod (fun _ => False) w26 w27 := by rw [← hw27]; exact (Mod.refl _ w26).alloc _
        have hz27 : w26.heap.size + 1 ≤ w27.heap.size := by rw [← hw27]; simp
        have HS27 : Hid ((q : TxD).In w27 w26.heap.size) := by rw [← hw27]; exact TxD.In.new w26 q
        have HM27 := Lib.hid (HM26.out.trans ha27 (fun _ _ h => h))
        have HB27 := Lib.hid (HB26.out.keep ha27)
        have HU27 := Lib.hid (HU26.out.keep ha27)
        have HQ27 := Lib.hid (HQ26.out.keep ha27)
        have HC27 := Lib.hid (HC26.out.keep ha27)
        have Kx27 := Lib.hid (Kx26.out.keep ha27)
        have Ku27 := Lib.hid (Ku26.out.keep ha27)
        have Kq27 := Lib.hid (Kq26.out.keep ha27)
        have Aqc27 := Lib.hid (Aqc26.out.keep ha27)
        clear ha27
        go_wp2_with fail
        refine (kept_ok w27 (some ⟨w26.heap.size, 0, none⟩) 1 1 [q] (Xs.one HS27.out Kq27.out.at_) (by omega) (fun t ht => by simp at ht; rw [ht]; exact may_smallT Hmq.out) page).mono ?_
        rintro e w28 ⟨rfl, hm⟩
        have hkk : kept page (pt [q]) = keptL page q.p.L := kept_one page q.p
        rw [hkk]
        clear hkk
        have HM28 := Lib.hid (HM27.out.trans hm (fun _ _ h => h))
        have hz28 := hm.size
        have HB28 := Lib.hid (HB27.out.keep hm)
        have HU28 := Lib.hid (HU27.out.keep hm)
        have HQ28 := Lib.hid (HQ27.out.keep hm)
        have HC28 := Lib.hid (HC27.out.keep hm)
        have HS28 := Lib.hid (HS27.out.keep hm)
        have Kx28 := Lib.hid (Kx27.out.keep hm)
        have Ku28 := Lib.hid (Ku27.out.keep hm)
        have Kq28 := Lib.hid (Kq27.out.keep hm)
        have Aqc28 := Lib.hid (Aqc27.out.keep hm)
        clear hm hw27  d0 d1 d2 d3 d4 d5
        obtain ⟨⟨ho1, ho2⟩, ⟨hv1, hv2⟩, hq0⟩ := Hb2.out
        obtain ⟨hb1, hb2, hb3, hb4⟩ := Hbd.out
        have hgd := Hgd.out
        have hrs := Hrs.out
        have hroom : N + keptL page q.p.L ≤ keptL page x.p.L := by omega
        have hlow : -(1000 * ((i + 1 : Nat) : Int)) ≤ N := by omega
        have Hroom := Lib.hid hroom
        have Hlow := Lib.hid hlow
        have ew : IntKind.i64.wrap (N + keptL page q.p.L) = N + keptL page q.p.L := by rw [IntKind.wrap_i64]; omega
        have hd1 : decide (keptL page q.p.L < 0) = false := decide_eq_false (by omega)
        have hd2 : decide (keptL page x.p.L < N + keptL page q.p.L) = false := decide_eq_false (by omega)
        clear hroom hlow ho1 ho2 hv1 hv2 hq0 hb1 hb2 hb3 hb4 hgd hrs
        go_wp2
        go_roundw
        case rel => exact ⟨i + 1, q, N, by go_num, rfl, by omega, ⟨HM28.out, Kx28.out, HB28.out, Kq28.out, HU28.out, Hmq.out, Hlq.out, Hroom.out, Hlow.out⟩⟩
        case measure => simp [intOf]; omega
    · have hin : i = x.n := by omega
      have Hz : Hid (keptL page u.p.L = 0) := by
        have h1 := HF.out.len
        rw [hin, Nat.sub_self] at h1
        show _ = _
        rw [List.eq_nil_of_length_eq_zero h1]
        rfl
      obtain ⟨d0, d1, d2, d3, d4, d5⟩ : wr.cell? ⟨gU, 0, none⟩ = some (.int .i64 u.id) ∧ wr.cell? ⟨gU, 1, none⟩ = some (.int .i64 u.st) ∧ wr.cell? ⟨gU, 2, none⟩ = some (.int .i64 u.f) ∧ wr.cell? ⟨gU, 3, none⟩ = some (.int .i64 u.l) ∧ wr.cell? ⟨gU, 4, none⟩ = some (.slice u.A u.n u.c) ∧ wr.cell? ⟨gU, 5, none⟩ = some (.slice u.B u.m u.d) := HU20.out.cells
      obtain ⟨w21, hw21⟩ : ∃ w21, wr.alloc (.cells #[.int .i64 u.id, .int .i64 u.st, .int .i64 u.f, .int .i64 u.l, .slice u.A u.n u.c, .slice u.B u.m u.d] 25) = w21 := ⟨_, rfl⟩
      have ha21 : Mod (fun _ => False) wr w21 := by rw [← hw21]; exact (Mod.refl _ wr).alloc _
      have hz21 : wr.heap.size + 1 ≤ w21.heap.size := by rw [← hw21]; simp
      have HS21 : Hid ((u : TxD).In w21 wr.heap.size) := by rw [← hw21]; exact TxD.In.new wr u
      have HM21 := Lib.hid (HM20.out.trans ha21 (fun _ _ h => h))
      have HB21 := Lib.hid (HB20.out.keep ha21)
      have HU21 := Lib.hid (HU20.out.keep ha21)
      have Kx21 := Lib.hid (Kx20.out.keep ha21)
      have Ku21 := Lib.hid (Ku20.out.keep ha21)
      clear ha21
      go_wp2_with fail
      refine (kept_ok w21 (some ⟨wr.heap.size, 0, none⟩) 1 1 [u] (Xs.one HS21.out Ku21.out.at_) (by omega) (fun t ht => by simp at ht; rw [ht]; exact may_smallT Hmu.out) page).mono ?_
      rintro e w22 ⟨rfl, hm⟩
      have hkk : kept page (pt [u]) = keptL page u.p.L := kept_one page u.p
      rw [hkk]
      clear hkk
      have HM22 := Lib.hid (HM21.out.trans hm (fun _ _ h => h))
      have hz22 := hm.size
      have HB22 := Lib.hid (HB21.out.keep hm)
      have HU22 := Lib.hid (HU21.out.keep hm)
      have HS22 := Lib.hid (HS21.out.keep hm)
      have Kx22 := Lib.hid (Kx21.out.keep hm)
      have Ku22 := Lib.hid (Ku21.out.keep hm)
      clear hm hw21 c0 c1 c2 c3 c4 c5 d0 d1 d2 d3 d4 d5
      rw [Hz.out]
      go_wp2
      go_ret
      exact ⟨rfl, HM22.out.below (Nat.le_refl _) (fun _ _ h => h)⟩
end Go.Proofs.Ytidcmolkolcliaa
