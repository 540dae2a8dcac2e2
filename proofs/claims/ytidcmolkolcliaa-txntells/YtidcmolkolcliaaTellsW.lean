/-
  The law TxnTells: its walk.
-/
import Derived.Test.YtidcmolkolcliaaXLw
namespace Go.Proofs.Ytidcmolkolcliaa
open Go Go.RowKit

set_option maxRecDepth 100000 in
set_option maxHeartbeats 12800000 in
theorem tells_walk (w : World) (x : TxD) (hx : x.At w) (y : ChD) (hy : y.At w) (save : Int) :
    Calls Try.prog 3 #[.agg #[.int .i64 x.id, .int .i64 x.st, .int .i64 x.f, .int .i64 x.l, .slice x.A x.n x.c, .slice x.B x.m x.d], .agg #[.int .i64 y.lsn, .int .i64 y.page, .int .i64 y.key, .bool y.o.is, .slice y.o.B y.o.m y.o.d, .bool y.v.is, .slice y.v.B y.v.m y.v.d], .int .i64 save] w fun e w' => e = .returned (.bool true) ∧ Below w.heap.size w w' := by
  obtain ⟨w1, hw1⟩ : ∃ w1, (w.alloc (.cells #[.int .i64 x.id, .int .i64 x.st, .int .i64 x.f, .int .i64 x.l, .slice x.A x.n x.c, .slice x.B x.m x.d] 25)).alloc (.cells #[.int .i64 y.lsn, .int .i64 y.page, .int .i64 y.key, .bool y.o.is, .slice y.o.B y.o.m y.o.d, .bool y.v.is, .slice y.v.B y.v.m y.v.d] 30) = w1 := ⟨_, rfl⟩
  have HB1 : Hid ((x : TxD).In w1 (w.heap.size)) := by
    rw [← hw1]
    have q := TxD.In.new (w) (x)
    exact q.keep ((Mod.refl (fun _ => False) _).alloc _)
  have HY1 : Hid ((y : ChD).In w1 (w.heap.size + 1)) := by
    rw [← hw1]
    have q := ChD.In.new (w.alloc (.cells #[.int .i64 x.id, .int .i64 x.st, .int .i64 x.f, .int .i64 x.l, .slice x.A x.n x.c, .slice x.B x.m x.d] 25)) (y)
    simp only [World.size_alloc] at q
    exact q.keep (Mod.refl (fun _ => False) _)
  have HM1 : Hid (Mod (fun _ => False) w w1) := by rw [← hw1]; exact ((Mod.refl (fun _ => False) w).alloc _).alloc _
  have hz1 : w.heap.size + 2 ≤ w1.heap.size := by rw [← hw1]; simp
  have Kx1 := Lib.hid (hx.kp0.keep HM1.out)
  have Ay1 := Lib.hid (hy.keep HM1.out)
  clear hx hy
  have HLt := Lib.hid (fun V (hV : Mod (fun _ => False) w1 V) => llight_ok V x y (Kx1.out.keep hV).at_ (Ay1.out.keep hV))
  have Hsm : Hid ((ltB x.p && smB y.p) = true → SmT x.p ∧ SmC y.p) := fun h => by
    rw [Bool.and_eq_true] at h
    exact ⟨SmT.lt h.1, smC_of (smB_iff.1 h.2)⟩
  generalize (ltB x.p && smB y.p) = b1 at *
  cases b1 with
  | false =>
    obtain ⟨c0, c1, c2, c3, c4, c5⟩ : w1.cell? ⟨w.heap.size, 0, none⟩ = some (.int .i64 x.id) ∧ w1.cell? ⟨w.heap.size, 1, none⟩ = some (.int .i64 x.st) ∧ w1.cell? ⟨w.heap.size, 2, none⟩ = some (.int .i64 x.f) ∧ w1.cell? ⟨w.heap.size, 3, none⟩ = some (.int .i64 x.l) ∧ w1.cell? ⟨w.heap.size, 4, none⟩ = some (.slice x.A x.n x.c) ∧ w1.cell? ⟨w.heap.size, 5, none⟩ = some (.slice x.B x.m x.d) := HB1.out.cells
    obtain ⟨y0, y1, y2, y3, y4, y5, y6⟩ : w1.cell? ⟨w.heap.size + 1, 0, none⟩ = some (.int .i64 y.lsn) ∧ w1.cell? ⟨w.heap.size + 1, 1, none⟩ = some (.int .i64 y.page) ∧ w1.cell? ⟨w.heap.size + 1, 2, none⟩ = some (.int .i64 y.key) ∧ w1.cell? ⟨w.heap.size + 1, 3, none⟩ = some (.bool y.o.is) ∧ w1.cell? ⟨w.heap.size + 1, 4, none⟩ = some (.slice y.o.B y.o.m y.o.d) ∧ w1.cell? ⟨w.heap.size + 1, 5, none⟩ = some (.bool y.v.is) ∧ w1.cell? ⟨w.heap.size + 1, 6, none⟩ = some (.slice y.v.B y.v.m y.v.d) := HY1.out.cells
    go_enter Try.func3, Try.ntmps3
    go_wp2_with fail
    refine (awake_ok w1).mono ?_
    rintro e w2 ⟨rfl, hm⟩
    have HM12 := Lib.hid hm
    have HM2 := Lib.hid (HM1.out.trans hm (fun _ _ h => h))
    have hz2 := hm.size
    have HB2 := Lib.hid (HB1.out.keep hm)
    have HY2 := Lib.hid (HY1.out.keep hm)
    have Kx2 := Lib.hid (Kx1.out.keep hm)
    have Ay2 := Lib.hid (Ay1.out.keep hm)
    clear hm hw1 c0 c1 c2 c3 c4 c5 y0 y1 y2 y3 y4 y5 y6
    obtain ⟨c0, c1, c2, c3, c4, c5⟩ : w2.cell? ⟨w.heap.size, 0, none⟩ = some (.int .i64 x.id) ∧ w2.cell? ⟨w.heap.size, 1, none⟩ = some (.int .i64 x.st) ∧ w2.cell? ⟨w.heap.size, 2, none⟩ = some (.int .i64 x.f) ∧ w2.cell? ⟨w.heap.size, 3, none⟩ = some (.int .i64 x.l) ∧ w2.cell? ⟨w.heap.size, 4, none⟩ = some (.slice x.A x.n x.c) ∧ w2.cell? ⟨w.heap.size, 5, none⟩ = some (.slice x.B x.m x.d) := HB2.out.cells
    obtain ⟨y0, y1, y2, y3, y4, y5, y6⟩ : w2.cell? ⟨w.heap.size + 1, 0, none⟩ = some (.int .i64 y.lsn) ∧ w2.cell? ⟨w.heap.size + 1, 1, none⟩ = some (.int .i64 y.page) ∧ w2.cell? ⟨w.heap.size + 1, 2, none⟩ = some (.int .i64 y.key) ∧ w2.cell? ⟨w.heap.size + 1, 3, none⟩ = some (.bool y.o.is) ∧ w2.cell? ⟨w.heap.size + 1, 4, none⟩ = some (.slice y.o.B y.o.m y.o.d) ∧ w2.cell? ⟨w.heap.size + 1, 5, none⟩ = some (.bool y.v.is) ∧ w2.cell? ⟨w.heap.size + 1, 6, none⟩ = some (.slice y.v.B y.v.m y.v.d) := HY2.out.cells
    go_wp2_with fail
    refine (HLt.out _ HM12.out).mono ?_
    rintro e w3 ⟨rfl, hm⟩
    have HM3 := Lib.hid (HM2.out.trans hm (fun _ _ h => h))
    have hz3 := hm.size
    have HB3 := Lib.hid (HB2.out.keep hm)
    have HY3 := Lib.hid (HY2.out.keep hm)
    have Kx3 := Lib.hid (Kx2.out.keep hm)
    have Ay3 := Lib.hid (Ay2.out.keep hm)
    clear hm HM12 c0 c1 c2 c3 c4 c5 y0 y1 y2 y3 y4 y5 y6
    obtain ⟨c0, c1, c2, c3, c4, c5⟩ : w3.cell? ⟨w.heap.size, 0, none⟩ = some (.int .i64 x.id) ∧ w3.cell? ⟨w.heap.size, 1, none⟩ = some (.int .i64 x.st) ∧ w3.cell? ⟨w.heap.size, 2, none⟩ = some (.int .i64 x.f) ∧ w3.cell? ⟨w.heap.size, 3, none⟩ = some (.int .i64 x.l) ∧ w3.cell? ⟨w.heap.size, 4, none⟩ = some (.slice x.A x.n x.c) ∧ w3.cell? ⟨w.heap.size, 5, none⟩ = some (.slice x.B x.m x.d) := HB3.out.cells
    obtain ⟨y0, y1, y2, y3, y4, y5, y6⟩ : w3.cell? ⟨w.heap.size + 1, 0, none⟩ = some (.int .i64 y.lsn) ∧ w3.cell? ⟨w.heap.size + 1, 1, none⟩ = some (.int .i64 y.page) ∧ w3.cell? ⟨w.heap.size + 1, 2, none⟩ = some (.int .i64 y.key) ∧ w3.cell? ⟨w.heap.size + 1, 3, none⟩ = some (.bool y.o.is) ∧ w3.cell? ⟨w.heap.size + 1, 4, none⟩ = some (.slice y.o.B y.o.m y.o.d) ∧ w3.cell? ⟨w.heap.size + 1, 5, none⟩ = some (.bool y.v.is) ∧ w3.cell? ⟨w.heap.size + 1, 6, none⟩ = some (.slice y.v.B y.v.m y.v.d) := HY3.out.cells
    go_wp2
    go_ret
    exact ⟨rfl, HM3.out.below (Nat.le_refl _) (fun _ _ h => h)⟩
  | true =>
  obtain ⟨hs1, hs2⟩ := Hsm.out (by trivial)
  have Hs1 := Lib.hid hs1
  have Hs2 := Lib.hid hs2
  have Hsz := Lib.hid (Kx1.out.at_.sm hs1)
  clear hs1 hs2 Hsm
  obtain ⟨c0, c1, c2, c3, c4, c5⟩ : w1.cell? ⟨w.heap.size, 0, none⟩ = some (.int .i64 x.id) ∧ w1.cell? ⟨w.heap.size, 1, none⟩ = some (.int .i64 x.st) ∧ w1.cell? ⟨w.heap.size, 2, none⟩ = some (.int .i64 x.f) ∧ w1.cell? ⟨w.heap.size, 3, none⟩ = some (.int .i64 x.l) ∧ w1.cell? ⟨w.heap.size, 4, none⟩ = some (.slice x.A x.n x.c) ∧ w1.cell? ⟨w.heap.size, 5, none⟩ = some (.slice x.B x.m x.d) := HB1.out.cells
  obtain ⟨y0, y1, y2, y3, y4, y5, y6⟩ : w1.cell? ⟨w.heap.size + 1, 0, none⟩ = some (.int .i64 y.lsn) ∧ w1.cell? ⟨w.heap.size + 1, 1, none⟩ = some (.int .i64 y.page) ∧ w1.cell? ⟨w.heap.size + 1, 2, none⟩ = some (.int .i64 y.key) ∧ w1.cell? ⟨w.heap.size + 1, 3, none⟩ = some (.bool y.o.is) ∧ w1.cell? ⟨w.heap.size + 1, 4, none⟩ = some (.slice y.o.B y.o.m y.o.d) ∧ w1.cell? ⟨w.heap.size + 1, 5, none⟩ = some (.bool y.v.is) ∧ w1.cell? ⟨w.heap.size + 1, 6, none⟩ = some (.slice y.v.B y.v.m y.v.d) := HY1.out.cells
  go_enter Try.func3, Try.ntmps3
  go_wp2_with fail
  refine (awake_ok w1).mono ?_
  rintro e w2 ⟨rfl, hm⟩
  have HM12 := Lib.hid hm
  have HM2 := Lib.hid (HM1.out.trans hm (fun _ _ h => h))
  have hz2 := hm.size
  have HB2 := Lib.hid (HB1.out.keep hm)
  have HY2 := Lib.hid (HY1.out.keep hm)
  have Kx2 := Lib.hid (Kx1.out.keep hm)
  have Ay2 := Lib.hid (Ay1.out.keep hm)
  clear hm hw1 c0 c1 c2 c3 c4 c5 y0 y1 y2 y3 y4 y5 y6
  obtain ⟨c0, c1, c2, c3, c4, c5⟩ : w2.cell? ⟨w.heap.size, 0, none⟩ = some (.int .i64 x.id) ∧ w2.cell? ⟨w.heap.size, 1, none⟩ = some (.int .i64 x.st) ∧ w2.cell? ⟨w.heap.size, 2, none⟩ = some (.int .i64 x.f) ∧ w2.cell? ⟨w.heap.size, 3, none⟩ = some (.int .i64 x.l) ∧ w2.cell? ⟨w.heap.size, 4, none⟩ = some (.slice x.A x.n x.c) ∧ w2.cell? ⟨w.heap.size, 5, none⟩ = some (.slice x.B x.m x.d) := HB2.out.cells
  obtain ⟨y0, y1, y2, y3, y4, y5, y6⟩ : w2.cell? ⟨w.heap.size + 1, 0, none⟩ = some (.int .i64 y.lsn) ∧ w2.cell? ⟨w.heap.size + 1, 1, none⟩ = some (.int .i64 y.page) ∧ w2.cell? ⟨w.heap.size + 1, 2, none⟩ = some (.int .i64 y.key) ∧ w2.cell? ⟨w.heap.size + 1, 3, none⟩ = some (.bool y.o.is) ∧ w2.cell? ⟨w.heap.size + 1, 4, none⟩ = some (.slice y.o.B y.o.m y.o.d) ∧ w2.cell? ⟨w.heap.size + 1, 5, none⟩ = some (.bool y.v.is) ∧ w2.cell? ⟨w.heap.size + 1, 6, none⟩ = some (.slice y.v.B y.v.m y.v.d) := HY2.out.cells
  go_wp2_with fail
  refine (HLt.out _ HM12.out).mono ?_
  rintro e w3 ⟨rfl, hm⟩
  have HM3 := Lib.hid (HM2.out.trans hm (fun _ _ h => h))
  have hz3 := hm.size
  have HB3 := Lib.hid (HB2.out.keep hm)
  have HY3 := Lib.hid (HY2.out.keep hm)
  have Kx3 := Lib.hid (Kx2.out.keep hm)
  have Ay3 := Lib.hid (Ay2.out.keep hm)
  clear hm HM12 c0 c1 c2 c3 c4 c5 y0 y1 y2 y3 y4 y5 y6
  obtain ⟨c0, c1, c2, c3, c4, c5⟩ : w3.cell? ⟨w.heap.size, 0, none⟩ = some (.int .i64 x.id) ∧ w3.cell? ⟨w.heap.size, 1, none⟩ = some (.int .i64 x.st) ∧ w3.cell? ⟨w.heap.size, 2, none⟩ = some (.int .i64 x.f) ∧ w3.cell? ⟨w.heap.size, 3, none⟩ = some (.int .i64 x.l) ∧ w3.cell? ⟨w.heap.size, 4, none⟩ = some (.slice x.A x.n x.c) ∧ w3.cell? ⟨w.heap.size, 5, none⟩ = some (.slice x.B x.m x.d) := HB3.out.cells
  obtain ⟨y0, y1, y2, y3, y4, y5, y6⟩ : w3.cell? ⟨w.heap.size + 1, 0, none⟩ = some (.int .i64 y.lsn) ∧ w3.cell? ⟨w.heap.size + 1, 1, none⟩ = some (.int .i64 y.page) ∧ w3.cell? ⟨w.heap.size + 1, 2, none⟩ = some (.int .i64 y.key) ∧ w3.cell? ⟨w.heap.size + 1, 3, none⟩ = some (.bool y.o.is) ∧ w3.cell? ⟨w.heap.size + 1, 4, none⟩ = some (.slice y.o.B y.o.m y.o.d) ∧ w3.cell? ⟨w.heap.size + 1, 5, none⟩ = some (.bool y.v.is) ∧ w3.cell? ⟨w.heap.size + 1, 6, none⟩ = some (.slice y.v.B y.v.m y.v.d) := HY3.out.cells
  go_wp2_with fail
  refine ((note_ok w3 x y Kx3.out.at_ Ay3.out Hsz.out.1 Hsz.out.2.1).mono (fun e w' h => NwAns.rn (b0 := w.heap.size) h)).mono ?_
  rintro e w4 ⟨a, rfl, hk, hp, hm⟩
  have HM4 := Lib.hid (HM3.out.trans hm (fun _ _ h => h))
  have hz4 := hm.size
  have HB4 := Lib.hid (HB3.out.keep hm)
  have HY4 := Lib.hid (HY3.out.keep hm)
  have Kx4 := Lib.hid (Kx3.out.keep hm)
  have Ay4 := Lib.hid (Ay3.out.keep hm)
  clear hm
  have Ka4 := Lib.hid hk
  have Pa := Lib.hid hp
  clear hk hp
  clear c0 c1 c2 c3 c4 c5 y0 y1 y2 y3 y4 y5 y6
  obtain ⟨w5, hw5⟩ : ∃ w5, w4.alloc (.cells #[.int .i64 a.id, .int .i64 a.st, .int .i64 a.f, .int .i64 a.l, .slice a.A a.n a.c, .slice a.B a.m a.d] 25) = w5 := ⟨_, rfl⟩
  have ha5 : Mod (fun _ => False) w4 w5 := by rw [← hw5]; exact (Mod.refl _ w4).alloc _
  have hz5 : w4.heap.size + 1 ≤ w5.heap.size := by rw [← hw5]; simp
  have HBA5 : Hid ((a : TxD).In w5 w4.heap.size) := by rw [← hw5]; exact TxD.In.new w4 a
  have HM5 := Lib.hid (HM4.out.trans ha5 (fun _ _ h => h))
  have HB5 := Lib.hid (HB4.out.keep ha5)
  have HY5 := Lib.hid (HY4.out.keep ha5)
  have Kx5 := Lib.hid (Kx4.out.keep ha5)
  have Ka5 := Lib.hid (Ka4.out.keep ha5)
  have Ay5 := Lib.hid (Ay4.out.keep ha5)
  clear ha5
  obtain ⟨c0, c1, c2, c3, c4, c5⟩ : w5.cell? ⟨w.heap.size, 0, none⟩ = some (.int .i64 x.id) ∧ w5.cell? ⟨w.heap.size, 1, none⟩ = some (.int .i64 x.st) ∧ w5.cell? ⟨w.heap.size, 2, none⟩ = some (.int .i64 x.f) ∧ w5.cell? ⟨w.heap.size, 3, none⟩ = some (.int .i64 x.l) ∧ w5.cell? ⟨w.heap.size, 4, none⟩ = some (.slice x.A x.n x.c) ∧ w5.cell? ⟨w.heap.size, 5, none⟩ = some (.slice x.B x.m x.d) := HB5.out.cells
  obtain ⟨y0, y1, y2, y3, y4, y5, y6⟩ : w5.cell? ⟨w.heap.size + 1, 0, none⟩ = some (.int .i64 y.lsn) ∧ w5.cell? ⟨w.heap.size + 1, 1, none⟩ = some (.int .i64 y.page) ∧ w5.cell? ⟨w.heap.size + 1, 2, none⟩ = some (.int .i64 y.key) ∧ w5.cell? ⟨w.heap.size + 1, 3, none⟩ = some (.bool y.o.is) ∧ w5.cell? ⟨w.heap.size + 1, 4, none⟩ = some (.slice y.o.B y.o.m y.o.d) ∧ w5.cell? ⟨w.heap.size + 1, 5, none⟩ = some (.bool y.v.is) ∧ w5.cell? ⟨w.heap.size + 1, 6, none⟩ = some (.slice y.v.B y.v.m y.v.d) := HY5.out.cells
  go_wp2_with fail
  refine (rnote_ok w.heap.size w5 x y Kx5.out Ay5.out Hsz.out.1).mono ?_
  rintro e w6 ⟨b, rfl, hk, hp, hm⟩
  have HM6 := Lib.hid (HM5.out.trans hm (fun _ _ h => h))
  have hz6 := hm.size
  have HB6 := Lib.hid (HB5.out.keep hm)
  have HY6 := Lib.hid (HY5.out.keep hm)
  have HBA6 := Lib.hid (HBA5.out.keep hm)
  have Kx6 := Lib.hid (Kx5.out.keep hm)
  have Ka6 := Lib.hid (Ka5.out.keep hm)
  have Ay6 := Lib.hid (Ay5.out.keep hm)
  clear hm
  have Kb6 := Lib.hid hk
  have Pb := Lib.hid hp
  clear hk hp
  clear c0 c1 c2 c3 c4 c5 y0 y1 y2 y3 y4 y5 y6 hw5
  obtain ⟨w7, hw7⟩ : ∃ w7, w6.alloc (.cells #[.int .i64 b.id, .int .i64 b.st, .int .i64 b.f, .int .i64 b.l, .slice b.A b.n b.c, .slice b.B b.m b.d] 25) = w7 := ⟨_, rfl⟩
  have ha7 : Mod (fun _ => False) w6 w7 := by rw [← hw7]; exact (Mod.refl _ w6).alloc _
  have hz7 : w6.heap.size + 1 ≤ w7.heap.size := by rw [← hw7]; simp
  have HBB7 : Hid ((b : TxD).In w7 w6.heap.size) := by rw [← hw7]; exact TxD.In.new w6 b
  have HM7 := Lib.hid (HM6.out.trans ha7 (fun _ _ h => h))
  have HB7 := Lib.hid (HB6.out.keep ha7)
  have HY7 := Lib.hid (HY6.out.keep ha7)
  have HBA7 := Lib.hid (HBA6.out.keep ha7)
  have Kx7 := Lib.hid (Kx6.out.keep ha7)
  have Ka7 := Lib.hid (Ka6.out.keep ha7)
  have Kb7 := Lib.hid (Kb6.out.keep ha7)
  have Ay7 := Lib.hid (Ay6.out.keep ha7)
  clear ha7
  obtain ⟨c0, c1, c2, c3, c4, c5⟩ : w7.cell? ⟨w.heap.size, 0, none⟩ = some (.int .i64 x.id) ∧ w7.cell? ⟨w.heap.size, 1, none⟩ = some (.int .i64 x.st) ∧ w7.cell? ⟨w.heap.size, 2, none⟩ = some (.int .i64 x.f) ∧ w7.cell? ⟨w.heap.size, 3, none⟩ = some (.int .i64 x.l) ∧ w7.cell? ⟨w.heap.size, 4, none⟩ = some (.slice x.A x.n x.c) ∧ w7.cell? ⟨w.heap.size, 5, none⟩ = some (.slice x.B x.m x.d) := HB7.out.cells
  go_wp2_with fail
  refine ((undo_ok w7 x Kx7.out.at_ Hsz.out.1 Hsz.out.2.1).mono (fun e w' h => UnAns.ru (b0 := w.heap.size) h)).mono ?_
  rintro e w8 ⟨ux, uc, rfl, hk, ha, hp, hpc, hm⟩
  have HM8 := Lib.hid (HM7.out.trans hm (fun _ _ h => h))
  have hz8 := hm.size
  have HB8 := Lib.hid (HB7.out.keep hm)
  have HY8 := Lib.hid (HY7.out.keep hm)
  have HBA8 := Lib.hid (HBA7.out.keep hm)
  have HBB8 := Lib.hid (HBB7.out.keep hm)
  have Kx8 := Lib.hid (Kx7.out.keep hm)
  have Ka8 := Lib.hid (Ka7.out.keep hm)
  have Kb8 := Lib.hid (Kb7.out.keep hm)
  have Ay8 := Lib.hid (Ay7.out.keep hm)
  clear hm
  have Kux8 := Lib.hid hk
  have Pux := Lib.hid hp
  clear hk hp
  have Auc8 := Lib.hid ha
  have Puc := Lib.hid hpc
  clear ha hpc c0 c1 c2 c3 c4 c5 hw7
  obtain ⟨w9, hw9⟩ : ∃ w9, w8.alloc (.cells #[.int .i64 0, .int .i64 0, .int .i64 0, .int .i64 0, .slice none 0 0, .slice none 0 0] 25) = w9 := ⟨_, rfl⟩
  have ha : Mod (fun _ => False) w8 w9 := by rw [← hw9]; exact (Mod.refl _ _).alloc _
  have hz9 : w8.heap.size + 1 ≤ w9.heap.size := by rw [← hw9]; simp
  have hT0 : TxD.zero.In w9 w8.heap.size := by rw [← hw9]; exact TxD.In.new w8 TxD.zero
  obtain ⟨w10, hw10⟩ : ∃ w10, w9.alloc (.cells #[.int .i64 0, .int .i64 0, .int .i64 0, .bool false, .slice none 0 0, .bool false, .slice none 0 0] 30) = w10 := ⟨_, rfl⟩
  have hb : Mod (fun _ => False) w9 w10 := by rw [← hw10]; exact (Mod.refl _ _).alloc _
  have hz10 : w9.heap.size + 1 ≤ w10.heap.size := by rw [← hw10]; simp
  have hC0 : ChD.zero.In w10 w9.heap.size := by rw [← hw10]; exact ChD.In.new w9 ChD.zero
  have hT1 := hT0.keep hb
  have vg0 := hT1.fz 0
  have vg1 := hT1.fz 1
  have vg2 := hT1.fz 2
  have vg3 := hT1.fz 3
  have vg4 := hT1.fz 4
  have vg5 := hT1.fz 5
  obtain ⟨vr0, vr1, vr2, vr3, vr4, vr5⟩ : w10.cell? ⟨w8.heap.size, 0, none⟩ = some (.int .i64 0) ∧ w10.cell? ⟨w8.heap.size, 1, none⟩ = some (.int .i64 0) ∧ w10.cell? ⟨w8.heap.size, 2, none⟩ = some (.int .i64 0) ∧ w10.cell? ⟨w8.heap.size, 3, none⟩ = some (.int .i64 0) ∧ w10.cell? ⟨w8.heap.size, 4, none⟩ = some (.slice none 0 0) ∧ w10.cell? ⟨w8.heap.size, 5, none⟩ = some (.slice none 0 0) := hT1.cells
  obtain ⟨w11, hw11⟩ : ∃ w11, (((((w10.setCell ⟨w8.heap.size, 0, none⟩ (.int .i64 ux.id)).setCell ⟨w8.heap.size, 1, none⟩ (.int .i64 ux.st)).setCell ⟨w8.heap.size, 2, none⟩ (.int .i64 ux.f)).setCell ⟨w8.heap.size, 3, none⟩ (.int .i64 ux.l)).setCell ⟨w8.heap.size, 4, none⟩ (.slice ux.A ux.n ux.c)).setCell ⟨w8.heap.size, 5, none⟩ (.slice ux.B ux.m ux.d) = w11 := ⟨_, rfl⟩
  have hq : stT w10 (w8.heap.size) ux = w11 := hw11
  have hc : Mod (fun k => k = w8.heap.size) w10 w11 := by rw [← hq]; exact stT_mod _ _ ux
  have hz11 := hc.size
  have hT2 : (ux : TxD).In w11 (w8.heap.size) := by rw [← hq]; exact hT1.set ux
  clear hq
  have hC1 := hC0.mod hc (fun e => by omega)
  have vk0 := hC1.fz 0
  have vk1 := hC1.fz 1
  have vk2 := hC1.fz 2
  have vk3 := hC1.fz 3
  have vk4 := hC1.fz 4
  have vk5 := hC1.fz 5
  have vk6 := hC1.fz 6
  obtain ⟨vs0, vs1, vs2, vs3, vs4, vs5, vs6⟩ : w11.cell? ⟨w9.heap.size, 0, none⟩ = some (.int .i64 0) ∧ w11.cell? ⟨w9.heap.size, 1, none⟩ = some (.int .i64 0) ∧ w11.cell? ⟨w9.heap.size, 2, none⟩ = some (.int .i64 0) ∧ w11.cell? ⟨w9.heap.size, 3, none⟩ = some (.bool false) ∧ w11.cell? ⟨w9.heap.size, 4, none⟩ = some (.slice none 0 0) ∧ w11.cell? ⟨w9.heap.size, 5, none⟩ = some (.bool false) ∧ w11.cell? ⟨w9.heap.size, 6, none⟩ = some (.slice none 0 0) := hC1.cells
  obtain ⟨w12, hw12⟩ : ∃ w12, ((((((w11.setCell ⟨w9.heap.size, 0, none⟩ (.int .i64 uc.lsn)).setCell ⟨w9.heap.size, 1, none⟩ (.int .i64 uc.page)).setCell ⟨w9.heap.size, 2, none⟩ (.int .i64 uc.key)).setCell ⟨w9.heap.size, 3, none⟩ (.bool uc.o.is)).setCell ⟨w9.heap.size, 4, none⟩ (.slice uc.o.B uc.o.m uc.o.d)).setCell ⟨w9.heap.size, 5, none⟩ (.bool uc.v.is)).setCell ⟨w9.heap.size, 6, none⟩ (.slice uc.v.B uc.v.m uc.v.d) = w12 := ⟨_, rfl⟩
  have hq : stC w11 (w9.heap.size) 0 uc = w12 := hw12
  have hd : Mod (fun k => k = w9.heap.size) w11 w12 := by rw [← hq]; exact stC_mod _ _ 0 uc
  have hz12 := hd.size
  have HCU12 : Hid ((uc : ChD).In w12 (w9.heap.size)) := by rw [← hq]; exact hC1.set uc
  clear hq
  have HBU12 : Hid ((ux : TxD).In w12 (w8.heap.size)) := hT2.mod hd (fun e => by omega)
  have hm0 : Mod (fun _ => False) w8 w12 := ((ha.trans hb (fun _ _ h => h)).trans hc (fun k hk e => by omega)).trans hd (fun k hk e => by omega)
  have HM12 := Lib.hid (HM8.out.trans hm0 (fun _ _ h => h))
  have HB12 := Lib.hid (HB8.out.keep hm0)
  have HY12 := Lib.hid (HY8.out.keep hm0)
  have HBA12 := Lib.hid (HBA8.out.keep hm0)
  have HBB12 := Lib.hid (HBB8.out.keep hm0)
  have Kx12 := Lib.hid (Kx8.out.keep hm0)
  have Ka12 := Lib.hid (Ka8.out.keep hm0)
  have Kb12 := Lib.hid (Kb8.out.keep hm0)
  have Kux12 := Lib.hid (Kux8.out.keep hm0)
  have Ay12 := Lib.hid (Ay8.out.keep hm0)
  have Auc12 := Lib.hid (Auc8.out.keep hm0)
  clear ha hb hc hd hT0 hT1 hT2 hC0 hC1 hm0
  obtain ⟨c0, c1, c2, c3, c4, c5⟩ : w12.cell? ⟨w.heap.size, 0, none⟩ = some (.int .i64 x.id) ∧ w12.cell? ⟨w.heap.size, 1, none⟩ = some (.int .i64 x.st) ∧ w12.cell? ⟨w.heap.size, 2, none⟩ = some (.int .i64 x.f) ∧ w12.cell? ⟨w.heap.size, 3, none⟩ = some (.int .i64 x.l) ∧ w12.cell? ⟨w.heap.size, 4, none⟩ = some (.slice x.A x.n x.c) ∧ w12.cell? ⟨w.heap.size, 5, none⟩ = some (.slice x.B x.m x.d) := HB12.out.cells
  go_wp2_with fail
  refine (rundo_ok w.heap.size w12 x Kx12.out Hsz.out.1 Hsz.out.2.1).mono ?_
  rintro e w13 ⟨vx, vc, rfl, hk, ha, hp, hpc, hm⟩
  have HM13 := Lib.hid (HM12.out.trans hm (fun _ _ h => h))
  have hz13 := hm.size
  have HB13 := Lib.hid (HB12.out.keep hm)
  have HY13 := Lib.hid (HY12.out.keep hm)
  have HBA13 := Lib.hid (HBA12.out.keep hm)
  have HBB13 := Lib.hid (HBB12.out.keep hm)
  have HBU13 := Lib.hid (HBU12.out.keep hm)
  have HCU13 := Lib.hid (HCU12.out.keep hm)
  have Kx13 := Lib.hid (Kx12.out.keep hm)
  have Ka13 := Lib.hid (Ka12.out.keep hm)
  have Kb13 := Lib.hid (Kb12.out.keep hm)
  have Kux13 := Lib.hid (Kux12.out.keep hm)
  have Ay13 := Lib.hid (Ay12.out.keep hm)
  have Auc13 := Lib.hid (Auc12.out.keep hm)
  clear hm
  have Kvx13 := Lib.hid hk
  have Pvx := Lib.hid hp
  clear hk hp
  have Avc13 := Lib.hid ha
  have Pvc := Lib.hid hpc
  clear ha hpc c0 c1 c2 c3 c4 c5 vg0 vg1 vg2 vg3 vg4 vg5 vr0 vr1 vr2 vr3 vr4 vr5 vk0 vk1 vk2 vk3 vk4 vk5 vk6 vs0 vs1 vs2 vs3 vs4 vs5 vs6 hw9 hw10 hw11 hw12
  obtain ⟨w14, hw14⟩ : ∃ w14, w13.alloc (.cells #[.int .i64 0, .int .i64 0, .int .i64 0, .int .i64 0, .slice none 0 0, .slice none 0 0] 25) = w14 := ⟨_, rfl⟩
  have ha : Mod (fun _ => False) w13 w14 := by rw [← hw14]; exact (Mod.refl _ _).alloc _
  have hz14 : w13.heap.size + 1 ≤ w14.heap.size := by rw [← hw14]; simp
  have hT0 : TxD.zero.In w14 w13.heap.size := by rw [← hw14]; exact TxD.In.new w13 TxD.zero
  obtain ⟨w15, hw15⟩ : ∃ w15, w14.alloc (.cells #[.int .i64 0, .int .i64 0, .int .i64 0, .bool false, .slice none 0 0, .bool false, .slice none 0 0] 30) = w15 := ⟨_, rfl⟩
  have hb : Mod (fun _ => False) w14 w15 := by rw [← hw15]; exact (Mod.refl _ _).alloc _
  have hz15 : w14.heap.size + 1 ≤ w15.heap.size := by rw [← hw15]; simp
  have hC0 : ChD.zero.In w15 w14.heap.size := by rw [← hw15]; exact ChD.In.new w14 ChD.zero
  have hT1 := hT0.keep hb
  have vg0 := hT1.fz 0
  have vg1 := hT1.fz 1
  have vg2 := hT1.fz 2
  have vg3 := hT1.fz 3
  have vg4 := hT1.fz 4
  have vg5 := hT1.fz 5
  obtain ⟨vr0, vr1, vr2, vr3, vr4, vr5⟩ : w15.cell? ⟨w13.heap.size, 0, none⟩ = some (.int .i64 0) ∧ w15.cell? ⟨w13.heap.size, 1, none⟩ = some (.int .i64 0) ∧ w15.cell? ⟨w13.heap.size, 2, none⟩ = some (.int .i64 0) ∧ w15.cell? ⟨w13.heap.size, 3, none⟩ = some (.int .i64 0) ∧ w15.cell? ⟨w13.heap.size, 4, none⟩ = some (.slice none 0 0) ∧ w15.cell? ⟨w13.heap.size, 5, none⟩ = some (.slice none 0 0) := hT1.cells
  obtain ⟨w16, hw16⟩ : ∃ w16, (((((w15.setCell ⟨w13.heap.size, 0, none⟩ (.int .i64 vx.id)).setCell ⟨w13.heap.size, 1, none⟩ (.int .i64 vx.st)).setCell ⟨w13.heap.size, 2, none⟩ (.int .i64 vx.f)).setCell ⟨w13.heap.size, 3, none⟩ (.int .i64 vx.l)).setCell ⟨w13.heap.size, 4, none⟩ (.slice vx.A vx.n vx.c)).setCell ⟨w13.heap.size, 5, none⟩ (.slice vx.B vx.m vx.d) = w16 := ⟨_, rfl⟩
  have hq : stT w15 (w13.heap.size) vx = w16 := hw16
  have hc : Mod (fun k => k = w13.heap.size) w15 w16 := by rw [← hq]; exact stT_mod _ _ vx
  have hz16 := hc.size
  have hT2 : (vx : TxD).In w16 (w13.heap.size) := by rw [← hq]; exact hT1.set vx
  clear hq
  have hC1 := hC0.mod hc (fun e => by omega)
  have vk0 := hC1.fz 0
  have vk1 := hC1.fz 1
  have vk2 := hC1.fz 2
  have vk3 := hC1.fz 3
  have vk4 := hC1.fz 4
  have vk5 := hC1.fz 5
  have vk6 := hC1.fz 6
  obtain ⟨vs0, vs1, vs2, vs3, vs4, vs5, vs6⟩ : w16.cell? ⟨w14.heap.size, 0, none⟩ = some (.int .i64 0) ∧ w16.cell? ⟨w14.heap.size, 1, none⟩ = some (.int .i64 0) ∧ w16.cell? ⟨w14.heap.size, 2, none⟩ = some (.int .i64 0) ∧ w16.cell? ⟨w14.heap.size, 3, none⟩ = some (.bool false) ∧ w16.cell? ⟨w14.heap.size, 4, none⟩ = some (.slice none 0 0) ∧ w16.cell? ⟨w14.heap.size, 5, none⟩ = some (.bool false) ∧ w16.cell? ⟨w14.heap.size, 6, none⟩ = some (.slice none 0 0) := hC1.cells
  obtain ⟨w17, hw17⟩ : ∃ w17, ((((((w16.setCell ⟨w14.heap.size, 0, none⟩ (.int .i64 vc.lsn)).setCell ⟨w14.heap.size, 1, none⟩ (.int .i64 vc.page)).setCell ⟨w14.heap.size, 2, none⟩ (.int .i64 vc.key)).setCell ⟨w14.heap.size, 3, none⟩ (.bool vc.o.is)).setCell ⟨w14.heap.size, 4, none⟩ (.slice vc.o.B vc.o.m vc.o.d)).setCell ⟨w14.heap.size, 5, none⟩ (.bool vc.v.is)).setCell ⟨w14.heap.size, 6, none⟩ (.slice vc.v.B vc.v.m vc.v.d) = w17 := ⟨_, rfl⟩
  have hq : stC w16 (w14.heap.size) 0 vc = w17 := hw17
  have hd : Mod (fun k => k = w14.heap.size) w16 w17 := by rw [← hq]; exact stC_mod _ _ 0 vc
  have hz17 := hd.size
  have HCV17 : Hid ((vc : ChD).In w17 (w14.heap.size)) := by rw [← hq]; exact hC1.set vc
  clear hq
  have HBV17 : Hid ((vx : TxD).In w17 (w13.heap.size)) := hT2.mod hd (fun e => by omega)
  have hm0 : Mod (fun _ => False) w13 w17 := ((ha.trans hb (fun _ _ h => h)).trans hc (fun k hk e => by omega)).trans hd (fun k hk e => by omega)
  have HM17 := Lib.hid (HM13.out.trans hm0 (fun _ _ h => h))
  have HB17 := Lib.hid (HB13.out.keep hm0)
  have HY17 := Lib.hid (HY13.out.keep hm0)
  have HBA17 := Lib.hid (HBA13.out.keep hm0)
  have HBB17 := Lib.hid (HBB13.out.keep hm0)
  have HBU17 := Lib.hid (HBU13.out.keep hm0)
  have HCU17 := Lib.hid (HCU13.out.keep hm0)
  have Kx17 := Lib.hid (Kx13.out.keep hm0)
  have Ka17 := Lib.hid (Ka13.out.keep hm0)
  have Kb17 := Lib.hid (Kb13.out.keep hm0)
  have Kux17 := Lib.hid (Kux13.out.keep hm0)
  have Kvx17 := Lib.hid (Kvx13.out.keep hm0)
  have Ay17 := Lib.hid (Ay13.out.keep hm0)
  have Auc17 := Lib.hid (Auc13.out.keep hm0)
  have Avc17 := Lib.hid (Avc13.out.keep hm0)
  clear ha hb hc hd hT0 hT1 hT2 hC0 hC1 hm0
  obtain ⟨c0, c1, c2, c3, c4, c5⟩ : w17.cell? ⟨w.heap.size, 0, none⟩ = some (.int .i64 x.id) ∧ w17.cell? ⟨w.heap.size, 1, none⟩ = some (.int .i64 x.st) ∧ w17.cell? ⟨w.heap.size, 2, none⟩ = some (.int .i64 x.f) ∧ w17.cell? ⟨w.heap.size, 3, none⟩ = some (.int .i64 x.l) ∧ w17.cell? ⟨w.heap.size, 4, none⟩ = some (.slice x.A x.n x.c) ∧ w17.cell? ⟨w.heap.size, 5, none⟩ = some (.slice x.B x.m x.d) := HB17.out.cells
  obtain ⟨si, hsi⟩ : ∃ si, (if saveE x.p = 0 then (x.m : Int) else 0) = si := ⟨_, rfl⟩
  obtain ⟨ai, hai⟩ : ∃ ai, (if aboveE x.p save = 0 then aboveI x.p save else 0) = ai := ⟨_, rfl⟩
  have Hsi := Lib.hid hsi
  have Hai := Lib.hid hai
  clear hsi hai
  go_wp2_with fail
  refine ((save_ok w17 x Kx17.out.at_ Hsz.out.1 Hsz.out.2.1).mono (fun e w' h => (SvAns.rs (b0 := w.heap.size) h).at (saveE x.p) si rfl Hsi.out)).mono ?_
  rintro e w18 ⟨sp, rfl, hk, hp, hm⟩
  have HM18 := Lib.hid (HM17.out.trans hm (fun _ _ h => h))
  have hz18 := hm.size
  have HB18 := Lib.hid (HB17.out.keep hm)
  have HY18 := Lib.hid (HY17.out.keep hm)
  have HBA18 := Lib.hid (HBA17.out.keep hm)
  have HBB18 := Lib.hid (HBB17.out.keep hm)
  have HBU18 := Lib.hid (HBU17.out.keep hm)
  have HCU18 := Lib.hid (HCU17.out.keep hm)
  have HBV18 := Lib.hid (HBV17.out.keep hm)
  have HCV18 := Lib.hid (HCV17.out.keep hm)
  have Kx18 := Lib.hid (Kx17.out.keep hm)
  have Ka18 := Lib.hid (Ka17.out.keep hm)
  have Kb18 := Lib.hid (Kb17.out.keep hm)
  have Kux18 := Lib.hid (Kux17.out.keep hm)
  have Kvx18 := Lib.hid (Kvx17.out.keep hm)
  have Ay18 := Lib.hid (Ay17.out.keep hm)
  have Auc18 := Lib.hid (Auc17.out.keep hm)
  have Avc18 := Lib.hid (Avc17.out.keep hm)
  clear hm
  have Ksp18 := Lib.hid hk
  have Psp := Lib.hid hp
  clear hk hp
  clear c0 c1 c2 c3 c4 c5 vg0 vg1 vg2 vg3 vg4 vg5 vr0 vr1 vr2 vr3 vr4 vr5 vk0 vk1 vk2 vk3 vk4 vk5 vk6 vs0 vs1 vs2 vs3 vs4 vs5 vs6 hw14 hw15 hw16 hw17
  obtain ⟨w19, hw19⟩ : ∃ w19, w18.alloc (.cells #[.int .i64 sp.id, .int .i64 sp.st, .int .i64 sp.f, .int .i64 sp.l, .slice sp.A sp.n sp.c, .slice sp.B sp.m sp.d] 25) = w19 := ⟨_, rfl⟩
  have ha19 : Mod (fun _ => False) w18 w19 := by rw [← hw19]; exact (Mod.refl _ w18).alloc _
  have hz19 : w18.heap.size + 1 ≤ w19.heap.size := by rw [← hw19]; simp
  have HBP19 : Hid ((sp : TxD).In w19 w18.heap.size) := by rw [← hw19]; exact TxD.In.new w18 sp
  have HM19 := Lib.hid (HM18.out.trans ha19 (fun _ _ h => h))
  have HB19 := Lib.hid (HB18.out.keep ha19)
  have HY19 := Lib.hid (HY18.out.keep ha19)
  have HBA19 := Lib.hid (HBA18.out.keep ha19)
  have HBB19 := Lib.hid (HBB18.out.keep ha19)
  have HBU19 := Lib.hid (HBU18.out.keep ha19)
  have HCU19 := Lib.hid (HCU18.out.keep ha19)
  have HBV19 := Lib.hid (HBV18.out.keep ha19)
  have HCV19 := Lib.hid (HCV18.out.keep ha19)
  have Kx19 := Lib.hid (Kx18.out.keep ha19)
  have Ka19 := Lib.hid (Ka18.out.keep ha19)
  have Kb19 := Lib.hid (Kb18.out.keep ha19)
  have Kux19 := Lib.hid (Kux18.out.keep ha19)
  have Kvx19 := Lib.hid (Kvx18.out.keep ha19)
  have Ksp19 := Lib.hid (Ksp18.out.keep ha19)
  have Ay19 := Lib.hid (Ay18.out.keep ha19)
  have Auc19 := Lib.hid (Auc18.out.keep ha19)
  have Avc19 := Lib.hid (Avc18.out.keep ha19)
  clear ha19
  obtain ⟨c0, c1, c2, c3, c4, c5⟩ : w19.cell? ⟨w.heap.size, 0, none⟩ = some (.int .i64 x.id) ∧ w19.cell? ⟨w.heap.size, 1, none⟩ = some (.int .i64 x.st) ∧ w19.cell? ⟨w.heap.size, 2, none⟩ = some (.int .i64 x.f) ∧ w19.cell? ⟨w.heap.size, 3, none⟩ = some (.int .i64 x.l) ∧ w19.cell? ⟨w.heap.size, 4, none⟩ = some (.slice x.A x.n x.c) ∧ w19.cell? ⟨w.heap.size, 5, none⟩ = some (.slice x.B x.m x.d) := HB19.out.cells
  go_wp2_with fail
  refine ((rsave_ok w.heap.size w19 x Kx19.out Hsz.out.2.1).mono (fun e w' h => h.at (saveE x.p) si rfl Hsi.out)).mono ?_
  rintro e w20 ⟨sq, rfl, hk, hp, hm⟩
  have HM20 := Lib.hid (HM19.out.trans hm (fun _ _ h => h))
  have hz20 := hm.size
  have HB20 := Lib.hid (HB19.out.keep hm)
  have HY20 := Lib.hid (HY19.out.keep hm)
  have HBA20 := Lib.hid (HBA19.out.keep hm)
  have HBB20 := Lib.hid (HBB19.out.keep hm)
  have HBU20 := Lib.hid (HBU19.out.keep hm)
  have HCU20 := Lib.hid (HCU19.out.keep hm)
  have HBV20 := Lib.hid (HBV19.out.keep hm)
  have HCV20 := Lib.hid (HCV19.out.keep hm)
  have HBP20 := Lib.hid (HBP19.out.keep hm)
  have Kx20 := Lib.hid (Kx19.out.keep hm)
  have Ka20 := Lib.hid (Ka19.out.keep hm)
  have Kb20 := Lib.hid (Kb19.out.keep hm)
  have Kux20 := Lib.hid (Kux19.out.keep hm)
  have Kvx20 := Lib.hid (Kvx19.out.keep hm)
  have Ksp20 := Lib.hid (Ksp19.out.keep hm)
  have Ay20 := Lib.hid (Ay19.out.keep hm)
  have Auc20 := Lib.hid (Auc19.out.keep hm)
  have Avc20 := Lib.hid (Avc19.out.keep hm)
  clear hm
  have Ksq20 := Lib.hid hk
  have Psq := Lib.hid hp
  clear hk hp
  clear c0 c1 c2 c3 c4 c5 hw19
  obtain ⟨w21, hw21⟩ : ∃ w21, w20.alloc (.cells #[.int .i64 sq.id, .int .i64 sq.st, .int .i64 sq.f, .int .i64 sq.l, .slice sq.A sq.n sq.c, .slice sq.B sq.m sq.d] 25) = w21 := ⟨_, rfl⟩
  have ha21 : Mod (fun _ => False) w20 w21 := by rw [← hw21]; exact (Mod.refl _ w20).alloc _
  have hz21 : w20.heap.size + 1 ≤ w21.heap.size := by rw [← hw21]; simp
  have HBQ21 : Hid ((sq : TxD).In w21 w20.heap.size) := by rw [← hw21]; exact TxD.In.new w20 sq
  have HM21 := Lib.hid (HM20.out.trans ha21 (fun _ _ h => h))
  have HB21 := Lib.hid (HB20.out.keep ha21)
  have HY21 := Lib.hid (HY20.out.keep ha21)
  have HBA21 := Lib.hid (HBA20.out.keep ha21)
  have HBB21 := Lib.hid (HBB20.out.keep ha21)
  have HBU21 := Lib.hid (HBU20.out.keep ha21)
  have HCU21 := Lib.hid (HCU20.out.keep ha21)
  have HBV21 := Lib.hid (HBV20.out.keep ha21)
  have HCV21 := Lib.hid (HCV20.out.keep ha21)
  have HBP21 := Lib.hid (HBP20.out.keep ha21)
  have Kx21 := Lib.hid (Kx20.out.keep ha21)
  have Ka21 := Lib.hid (Ka20.out.keep ha21)
  have Kb21 := Lib.hid (Kb20.out.keep ha21)
  have Kux21 := Lib.hid (Kux20.out.keep ha21)
  have Kvx21 := Lib.hid (Kvx20.out.keep ha21)
  have Ksp21 := Lib.hid (Ksp20.out.keep ha21)
  have Ksq21 := Lib.hid (Ksq20.out.keep ha21)
  have Ay21 := Lib.hid (Ay20.out.keep ha21)
  have Auc21 := Lib.hid (Auc20.out.keep ha21)
  have Avc21 := Lib.hid (Avc20.out.keep ha21)
  clear ha21
  obtain ⟨c0, c1, c2, c3, c4, c5⟩ : w21.cell? ⟨w.heap.size, 0, none⟩ = some (.int .i64 x.id) ∧ w21.cell? ⟨w.heap.size, 1, none⟩ = some (.int .i64 x.st) ∧ w21.cell? ⟨w.heap.size, 2, none⟩ = some (.int .i64 x.f) ∧ w21.cell? ⟨w.heap.size, 3, none⟩ = some (.int .i64 x.l) ∧ w21.cell? ⟨w.heap.size, 4, none⟩ = some (.slice x.A x.n x.c) ∧ w21.cell? ⟨w.heap.size, 5, none⟩ = some (.slice x.B x.m x.d) := HB21.out.cells
  go_wp2_with fail
  refine ((above_ok w21 x Kx21.out.at_ Hsz.out.1 Hsz.out.2.1 save).mono (fun e w' h => h.at (aboveE x.p save) ai rfl Hai.out)).mono ?_
  rintro e w22 ⟨rfl, hm⟩
  have HM22 := Lib.hid (HM21.out.trans hm (fun _ _ h => h))
  have hz22 := hm.size
  have HB22 := Lib.hid (HB21.out.keep hm)
  have HY22 := Lib.hid (HY21.out.keep hm)
  have HBA22 := Lib.hid (HBA21.out.keep hm)
  have HBB22 := Lib.hid (HBB21.out.keep hm)
  have HBU22 := Lib.hid (HBU21.out.keep hm)
  have HCU22 := Lib.hid (HCU21.out.keep hm)
  have HBV22 := Lib.hid (HBV21.out.keep hm)
  have HCV22 := Lib.hid (HCV21.out.keep hm)
  have HBP22 := Lib.hid (HBP21.out.keep hm)
  have HBQ22 := Lib.hid (HBQ21.out.keep hm)
  have Kx22 := Lib.hid (Kx21.out.keep hm)
  have Ka22 := Lib.hid (Ka21.out.keep hm)
  have Kb22 := Lib.hid (Kb21.out.keep hm)
  have Kux22 := Lib.hid (Kux21.out.keep hm)
  have Kvx22 := Lib.hid (Kvx21.out.keep hm)
  have Ksp22 := Lib.hid (Ksp21.out.keep hm)
  have Ksq22 := Lib.hid (Ksq21.out.keep hm)
  have Ay22 := Lib.hid (Ay21.out.keep hm)
  have Auc22 := Lib.hid (Auc21.out.keep hm)
  have Avc22 := Lib.hid (Avc21.out.keep hm)
  clear hm hw21 c0 c1 c2 c3 c4 c5
  obtain ⟨c0, c1, c2, c3, c4, c5⟩ : w22.cell? ⟨w.heap.size, 0, none⟩ = some (.int .i64 x.id) ∧ w22.cell? ⟨w.heap.size, 1, none⟩ = some (.int .i64 x.st) ∧ w22.cell? ⟨w.heap.size, 2, none⟩ = some (.int .i64 x.f) ∧ w22.cell? ⟨w.heap.size, 3, none⟩ = some (.int .i64 x.l) ∧ w22.cell? ⟨w.heap.size, 4, none⟩ = some (.slice x.A x.n x.c) ∧ w22.cell? ⟨w.heap.size, 5, none⟩ = some (.slice x.B x.m x.d) := HB22.out.cells
  go_wp2_with fail
  refine ((rabove_ok w22 x Kx22.out.at_ Hsz.out.1 save).mono (fun e w' h => h.at (aboveE x.p save) ai rfl Hai.out)).mono ?_
  rintro e w23 ⟨rfl, hm⟩
  have HM23 := Lib.hid (HM22.out.trans hm (fun _ _ h => h))
  have hz23 := hm.size
  have HB23 := Lib.hid (HB22.out.keep hm)
  have HY23 := Lib.hid (HY22.out.keep hm)
  have HBA23 := Lib.hid (HBA22.out.keep hm)
  have HBB23 := Lib.hid (HBB22.out.keep hm)
  have HBU23 := Lib.hid (HBU22.out.keep hm)
  have HCU23 := Lib.hid (HCU22.out.keep hm)
  have HBV23 := Lib.hid (HBV22.out.keep hm)
  have HCV23 := Lib.hid (HCV22.out.keep hm)
  have HBP23 := Lib.hid (HBP22.out.keep hm)
  have HBQ23 := Lib.hid (HBQ22.out.keep hm)
  have Kx23 := Lib.hid (Kx22.out.keep hm)
  have Ka23 := Lib.hid (Ka22.out.keep hm)
  have Kb23 := Lib.hid (Kb22.out.keep hm)
  have Kux23 := Lib.hid (Kux22.out.keep hm)
  have Kvx23 := Lib.hid (Kvx22.out.keep hm)
  have Ksp23 := Lib.hid (Ksp22.out.keep hm)
  have Ksq23 := Lib.hid (Ksq22.out.keep hm)
  have Ay23 := Lib.hid (Ay22.out.keep hm)
  have Auc23 := Lib.hid (Auc22.out.keep hm)
  have Avc23 := Lib.hid (Avc22.out.keep hm)
  clear hm c0 c1 c2 c3 c4 c5
  obtain ⟨c0, c1, c2, c3, c4, c5⟩ : w23.cell? ⟨w4.heap.size, 0, none⟩ = some (.int .i64 a.id) ∧ w23.cell? ⟨w4.heap.size, 1, none⟩ = some (.int .i64 a.st) ∧ w23.cell? ⟨w4.heap.size, 2, none⟩ = some (.int .i64 a.f) ∧ w23.cell? ⟨w4.heap.size, 3, none⟩ = some (.int .i64 a.l) ∧ w23.cell? ⟨w4.heap.size, 4, none⟩ = some (.slice a.A a.n a.c) ∧ w23.cell? ⟨w4.heap.size, 5, none⟩ = some (.slice a.B a.m a.d) := HBA23.out.cells
  obtain ⟨d0, d1, d2, d3, d4, d5⟩ : w23.cell? ⟨w6.heap.size, 0, none⟩ = some (.int .i64 b.id) ∧ w23.cell? ⟨w6.heap.size, 1, none⟩ = some (.int .i64 b.st) ∧ w23.cell? ⟨w6.heap.size, 2, none⟩ = some (.int .i64 b.f) ∧ w23.cell? ⟨w6.heap.size, 3, none⟩ = some (.int .i64 b.l) ∧ w23.cell? ⟨w6.heap.size, 4, none⟩ = some (.slice b.A b.n b.c) ∧ w23.cell? ⟨w6.heap.size, 5, none⟩ = some (.slice b.B b.m b.d) := HBB23.out.cells
  go_wp2_with fail
  refine (ksame Ka23.out Kb23.out (by rw [Pa.out, Pb.out]) (by rw [Pa.out]; exact SmT.ite (fun h => SmT.note h))).mono ?_
  rintro e w24 ⟨rfl, hm⟩
  have HM24 := Lib.hid (HM23.out.trans hm (fun _ _ h => h))
  have hz24 := hm.size
  have HB24 := Lib.hid (HB23.out.keep hm)
  have HY24 := Lib.hid (HY23.out.keep hm)
  have HBA24 := Lib.hid (HBA23.out.keep hm)
  have HBB24 := Lib.hid (HBB23.out.keep hm)
  have HBU24 := Lib.hid (HBU23.out.keep hm)
  have HCU24 := Lib.hid (HCU23.out.keep hm)
  have HBV24 := Lib.hid (HBV23.out.keep hm)
  have HCV24 := Lib.hid (HCV23.out.keep hm)
  have HBP24 := Lib.hid (HBP23.out.keep hm)
  have HBQ24 := Lib.hid (HBQ23.out.keep hm)
  have Kx24 := Lib.hid (Kx23.out.keep hm)
  have Ka24 := Lib.hid (Ka23.out.keep hm)
  have Kb24 := Lib.hid (Kb23.out.keep hm)
  have Kux24 := Lib.hid (Kux23.out.keep hm)
  have Kvx24 := Lib.hid (Kvx23.out.keep hm)
  have Ksp24 := Lib.hid (Ksp23.out.keep hm)
  have Ksq24 := Lib.hid (Ksq23.out.keep hm)
  have Ay24 := Lib.hid (Ay23.out.keep hm)
  have Auc24 := Lib.hid (Auc23.out.keep hm)
  have Avc24 := Lib.hid (Avc23.out.keep hm)
  clear hm c0 c1 c2 c3 c4 c5 d0 d1 d2 d3 d4 d5
  obtain ⟨c0, c1, c2, c3, c4, c5⟩ : w24.cell? ⟨w8.heap.size, 0, none⟩ = some (.int .i64 ux.id) ∧ w24.cell? ⟨w8.heap.size, 1, none⟩ = some (.int .i64 ux.st) ∧ w24.cell? ⟨w8.heap.size, 2, none⟩ = some (.int .i64 ux.f) ∧ w24.cell? ⟨w8.heap.size, 3, none⟩ = some (.int .i64 ux.l) ∧ w24.cell? ⟨w8.heap.size, 4, none⟩ = some (.slice ux.A ux.n ux.c) ∧ w24.cell? ⟨w8.heap.size, 5, none⟩ = some (.slice ux.B ux.m ux.d) := HBU24.out.cells
  obtain ⟨d0, d1, d2, d3, d4, d5⟩ : w24.cell? ⟨w13.heap.size, 0, none⟩ = some (.int .i64 vx.id) ∧ w24.cell? ⟨w13.heap.size, 1, none⟩ = some (.int .i64 vx.st) ∧ w24.cell? ⟨w13.heap.size, 2, none⟩ = some (.int .i64 vx.f) ∧ w24.cell? ⟨w13.heap.size, 3, none⟩ = some (.int .i64 vx.l) ∧ w24.cell? ⟨w13.heap.size, 4, none⟩ = some (.slice vx.A vx.n vx.c) ∧ w24.cell? ⟨w13.heap.size, 5, none⟩ = some (.slice vx.B vx.m vx.d) := HBV24.out.cells
  go_wp2_with fail
  refine (ksame Kux24.out Kvx24.out (by rw [Pux.out, Pvx.out]) (by rw [Pux.out]; exact SmT.ite (fun h => SmT.undo h))).mono ?_
  rintro e w25 ⟨rfl, hm⟩
  have HM25 := Lib.hid (HM24.out.trans hm (fun _ _ h => h))
  have hz25 := hm.size
  have HB25 := Lib.hid (HB24.out.keep hm)
  have HY25 := Lib.hid (HY24.out.keep hm)
  have HBA25 := Lib.hid (HBA24.out.keep hm)
  have HBB25 := Lib.hid (HBB24.out.keep hm)
  have HBU25 := Lib.hid (HBU24.out.keep hm)
  have HCU25 := Lib.hid (HCU24.out.keep hm)
  have HBV25 := Lib.hid (HBV24.out.keep hm)
  have HCV25 := Lib.hid (HCV24.out.keep hm)
  have HBP25 := Lib.hid (HBP24.out.keep hm)
  have HBQ25 := Lib.hid (HBQ24.out.keep hm)
  have Kx25 := Lib.hid (Kx24.out.keep hm)
  have Ka25 := Lib.hid (Ka24.out.keep hm)
  have Kb25 := Lib.hid (Kb24.out.keep hm)
  have Kux25 := Lib.hid (Kux24.out.keep hm)
  have Kvx25 := Lib.hid (Kvx24.out.keep hm)
  have Ksp25 := Lib.hid (Ksp24.out.keep hm)
  have Ksq25 := Lib.hid (Ksq24.out.keep hm)
  have Ay25 := Lib.hid (Ay24.out.keep hm)
  have Auc25 := Lib.hid (Auc24.out.keep hm)
  have Avc25 := Lib.hid (Avc24.out.keep hm)
  clear hm c0 c1 c2 c3 c4 c5 d0 d1 d2 d3 d4 d5
  obtain ⟨c0, c1, c2, c3, c4, c5, c6⟩ : w25.cell? ⟨w9.heap.size, 0, none⟩ = some (.int .i64 uc.lsn) ∧ w25.cell? ⟨w9.heap.size, 1, none⟩ = some (.int .i64 uc.page) ∧ w25.cell? ⟨w9.heap.size, 2, none⟩ = some (.int .i64 uc.key) ∧ w25.cell? ⟨w9.heap.size, 3, none⟩ = some (.bool uc.o.is) ∧ w25.cell? ⟨w9.heap.size, 4, none⟩ = some (.slice uc.o.B uc.o.m uc.o.d) ∧ w25.cell? ⟨w9.heap.size, 5, none⟩ = some (.bool uc.v.is) ∧ w25.cell? ⟨w9.heap.size, 6, none⟩ = some (.slice uc.v.B uc.v.m uc.v.d) := HCU25.out.cells
  obtain ⟨d0, d1, d2, d3, d4, d5, d6⟩ : w25.cell? ⟨w14.heap.size, 0, none⟩ = some (.int .i64 vc.lsn) ∧ w25.cell? ⟨w14.heap.size, 1, none⟩ = some (.int .i64 vc.page) ∧ w25.cell? ⟨w14.heap.size, 2, none⟩ = some (.int .i64 vc.key) ∧ w25.cell? ⟨w14.heap.size, 3, none⟩ = some (.bool vc.o.is) ∧ w25.cell? ⟨w14.heap.size, 4, none⟩ = some (.slice vc.o.B vc.o.m vc.o.d) ∧ w25.cell? ⟨w14.heap.size, 5, none⟩ = some (.bool vc.v.is) ∧ w25.cell? ⟨w14.heap.size, 6, none⟩ = some (.slice vc.v.B vc.v.m vc.v.d) := HCV25.out.cells
  go_wp2_with fail
  refine (kchanges Auc25.out Avc25.out (by rw [Puc.out, Pvc.out]) (by rw [Puc.out]; exact SmC.ite (fun h => SmC.undo h))).mono ?_
  rintro e w26 ⟨rfl, hm⟩
  have HM26 := Lib.hid (HM25.out.trans hm (fun _ _ h => h))
  have hz26 := hm.size
  have HB26 := Lib.hid (HB25.out.keep hm)
  have HY26 := Lib.hid (HY25.out.keep hm)
  have HBA26 := Lib.hid (HBA25.out.keep hm)
  have HBB26 := Lib.hid (HBB25.out.keep hm)
  have HBU26 := Lib.hid (HBU25.out.keep hm)
  have HCU26 := Lib.hid (HCU25.out.keep hm)
  have HBV26 := Lib.hid (HBV25.out.keep hm)
  have HCV26 := Lib.hid (HCV25.out.keep hm)
  have HBP26 := Lib.hid (HBP25.out.keep hm)
  have HBQ26 := Lib.hid (HBQ25.out.keep hm)
  have Kx26 := Lib.hid (Kx25.out.keep hm)
  have Ka26 := Lib.hid (Ka25.out.keep hm)
  have Kb26 := Lib.hid (Kb25.out.keep hm)
  have Kux26 := Lib.hid (Kux25.out.keep hm)
  have Kvx26 := Lib.hid (Kvx25.out.keep hm)
  have Ksp26 := Lib.hid (Ksp25.out.keep hm)
  have Ksq26 := Lib.hid (Ksq25.out.keep hm)
  have Ay26 := Lib.hid (Ay25.out.keep hm)
  have Auc26 := Lib.hid (Auc25.out.keep hm)
  have Avc26 := Lib.hid (Avc25.out.keep hm)
  clear hm c0 c1 c2 c3 c4 c5 c6 d0 d1 d2 d3 d4 d5 d6
  obtain ⟨c0, c1, c2, c3, c4, c5⟩ : w26.cell? ⟨w18.heap.size, 0, none⟩ = some (.int .i64 sp.id) ∧ w26.cell? ⟨w18.heap.size, 1, none⟩ = some (.int .i64 sp.st) ∧ w26.cell? ⟨w18.heap.size, 2, none⟩ = some (.int .i64 sp.f) ∧ w26.cell? ⟨w18.heap.size, 3, none⟩ = some (.int .i64 sp.l) ∧ w26.cell? ⟨w18.heap.size, 4, none⟩ = some (.slice sp.A sp.n sp.c) ∧ w26.cell? ⟨w18.heap.size, 5, none⟩ = some (.slice sp.B sp.m sp.d) := HBP26.out.cells
  obtain ⟨d0, d1, d2, d3, d4, d5⟩ : w26.cell? ⟨w20.heap.size, 0, none⟩ = some (.int .i64 sq.id) ∧ w26.cell? ⟨w20.heap.size, 1, none⟩ = some (.int .i64 sq.st) ∧ w26.cell? ⟨w20.heap.size, 2, none⟩ = some (.int .i64 sq.f) ∧ w26.cell? ⟨w20.heap.size, 3, none⟩ = some (.int .i64 sq.l) ∧ w26.cell? ⟨w20.heap.size, 4, none⟩ = some (.slice sq.A sq.n sq.c) ∧ w26.cell? ⟨w20.heap.size, 5, none⟩ = some (.slice sq.B sq.m sq.d) := HBQ26.out.cells
  go_wp2_with fail
  refine (ksame Ksp26.out Ksq26.out (by rw [Psp.out, Psq.out]) (by rw [Psp.out]; exact SmT.ite (fun h => SmT.save h))).mono ?_
  rintro e w27 ⟨rfl, hm⟩
  have HM27 := Lib.hid (HM26.out.trans hm (fun _ _ h => h))
  have hz27 := hm.size
  have HB27 := Lib.hid (HB26.out.keep hm)
  have HY27 := Lib.hid (HY26.out.keep hm)
  have HBA27 := Lib.hid (HBA26.out.keep hm)
  have HBB27 := Lib.hid (HBB26.out.keep hm)
  have HBU27 := Lib.hid (HBU26.out.keep hm)
  have HCU27 := Lib.hid (HCU26.out.keep hm)
  have HBV27 := Lib.hid (HBV26.out.keep hm)
  have HCV27 := Lib.hid (HCV26.out.keep hm)
  have HBP27 := Lib.hid (HBP26.out.keep hm)
  have HBQ27 := Lib.hid (HBQ26.out.keep hm)
  have Kx27 := Lib.hid (Kx26.out.keep hm)
  have Ka27 := Lib.hid (Ka26.out.keep hm)
  have Kb27 := Lib.hid (Kb26.out.keep hm)
  have Kux27 := Lib.hid (Kux26.out.keep hm)
  have Kvx27 := Lib.hid (Kvx26.out.keep hm)
  have Ksp27 := Lib.hid (Ksp26.out.keep hm)
  have Ksq27 := Lib.hid (Ksq26.out.keep hm)
  have Ay27 := Lib.hid (Ay26.out.keep hm)
  have Auc27 := Lib.hid (Auc26.out.keep hm)
  have Avc27 := Lib.hid (Avc26.out.keep hm)
  clear hm c0 c1 c2 c3 c4 c5 d0 d1 d2 d3 d4 d5
  have HMy := Lib.hid (fun V (hV : Mod (fun _ => False) w27 V) => may_ok V x (Kx27.out.keep hV).at_ Hsz.out.1 Hsz.out.2.1)
  have HRy := Lib.hid (fun V (hV : Mod (fun _ => False) w27 V) => rmay_ok V x (Kx27.out.keep hV).at_)
  have HD : Hid (Mod (fun _ => False) w27 w27.drew) := (Mod.refl _ w27).drew
  generalize noteE x.p y.p = E1 at *
  generalize undoE x.p = E2 at *
  generalize saveE x.p = E3 at *
  generalize aboveE x.p save = E4 at *
  generalize mayT x.p = bm at HMy HRy
  go_wp2_with fail
  refine wp_region_held (S := (fun V : World => V.cell? ⟨w.heap.size, 0, none⟩ = some (.int .i64 x.id) ∧ V.cell? ⟨w.heap.size, 1, none⟩ = some (.int .i64 x.st) ∧ V.cell? ⟨w.heap.size, 2, none⟩ = some (.int .i64 x.f) ∧ V.cell? ⟨w.heap.size, 3, none⟩ = some (.int .i64 x.l) ∧ V.cell? ⟨w.heap.size, 4, none⟩ = some (.slice x.A x.n x.c) ∧ V.cell? ⟨w.heap.size, 5, none⟩ = some (.slice x.B x.m x.d))) (by kernel_rfl) ?_
  have hI := (show (fun V : World => V.cell? ⟨w.heap.size, 0, none⟩ = some (.int .i64 x.id) ∧ V.cell? ⟨w.heap.size, 1, none⟩ = some (.int .i64 x.st) ∧ V.cell? ⟨w.heap.size, 2, none⟩ = some (.int .i64 x.f) ∧ V.cell? ⟨w.heap.size, 3, none⟩ = some (.int .i64 x.l) ∧ V.cell? ⟨w.heap.size, 4, none⟩ = some (.slice x.A x.n x.c) ∧ V.cell? ⟨w.heap.size, 5, none⟩ = some (.slice x.B x.m x.d)) _ from (HB27.out.keep HD.out).cells)
  refine rg_take (n := 47) (v := ?_) 0 (some 104) rfl rfl (by kernel_rfl) (by kernel_rfl) (by kernel_rfl) (fun _ _ _ h => h) (by rfl) hI ?_ ?_
  rotate_left
  · ((intro w hSw; (try dsimp only at hSw); go_simp); (try with_reducible rfl))
  try simp only [Act.put, List.setIfInBounds_toArray, List.set_cons_zero, List.set_cons_succ]
  refine rg_take (n := 46) (v := ?_) 1 (some 105) rfl rfl (by kernel_rfl) (by kernel_rfl) (by kernel_rfl) (fun _ _ _ h => h) (by rfl) hI ?_ ?_
  rotate_left
  · ((intro w hSw; (try dsimp only at hSw); go_simp); (try with_reducible rfl))
  try simp only [Act.put, List.setIfInBounds_toArray, List.set_cons_zero, List.set_cons_succ]
  refine rg_take (n := 45) (v := ?_) 2 (some 106) rfl rfl (by kernel_rfl) (by kernel_rfl) (by kernel_rfl) (fun _ _ _ h => h) (by rfl) hI ?_ ?_
  rotate_left
  · ((intro w hSw; (try dsimp only at hSw); go_simp); (try with_reducible rfl))
  try simp only [Act.put, List.setIfInBounds_toArray, List.set_cons_zero, List.set_cons_succ]
  refine rg_take (n := 44) (v := ?_) 3 (some 107) rfl rfl (by kernel_rfl) (by kernel_rfl) (by kernel_rfl) (fun _ _ _ h => h) (by rfl) hI ?_ ?_
  rotate_left
  · ((intro w hSw; (try dsimp only at hSw); go_simp); (try with_reducible rfl))
  try simp only [Act.put, List.setIfInBounds_toArray, List.set_cons_zero, List.set_cons_succ]
  refine rg_take (n := 43) (v := ?_) 4 (some 108) rfl rfl (by kernel_rfl) (by kernel_rfl) (by kernel_rfl) (fun _ _ _ h => h) (by rfl) hI ?_ ?_
  rotate_left
  · ((intro w hSw; (try dsimp only at hSw); go_simp); (try with_reducible rfl))
  try simp only [Act.put, List.setIfInBounds_toArray, List.set_cons_zero, List.set_cons_succ]
  refine rg_take (n := 42) (v := ?_) 5 (some 109) rfl rfl (by kernel_rfl) (by kernel_rfl) (by kernel_rfl) (fun _ _ _ h => h) (by rfl) hI ?_ ?_
  rotate_left
  · ((intro w hSw; (try dsimp only at hSw); go_simp); (try with_reducible rfl))
  try simp only [Act.put, List.setIfInBounds_toArray, List.set_cons_zero, List.set_cons_succ]
  refine rg_take (n := 41) (v := ?_) 6 (some 110) rfl rfl (by kernel_rfl) (by kernel_rfl) (by kernel_rfl) (fun _ _ _ h => h) (by rfl) hI ?_ ?_
  rotate_left
  · ((intro w hSw; (try dsimp only at hSw); go_simp); (try with_reducible rfl))
  try simp only [Act.put, List.setIfInBounds_toArray, List.set_cons_zero, List.set_cons_succ]
  refine rg_take (n := 40) (v := ?_) 7 (some 111) rfl rfl (by kernel_rfl) (by kernel_rfl) (by kernel_rfl) (fun _ _ _ h => h) (by rfl) hI ?_ ?_
  rotate_left
  · ((intro w hSw; (try dsimp only at hSw); go_simp); (try with_reducible rfl))
  try simp only [Act.put, List.setIfInBounds_toArray, List.set_cons_zero, List.set_cons_succ]
  refine rg_take (n := 39) (v := ?_) 8 (some 112) rfl rfl (by kernel_rfl) (by kernel_rfl) (by kernel_rfl) (fun _ _ _ h => h) (by rfl) hI ?_ ?_
  rotate_left
  · ((intro w hSw; (try dsimp only at hSw); go_simp); (try with_reducible rfl))
  try simp only [Act.put, List.setIfInBounds_toArray, List.set_cons_zero, List.set_cons_succ]
  refine rg_take (n := 38) (v := ?_) 9 (some 113) rfl rfl (by kernel_rfl) (by kernel_rfl) (by kernel_rfl) (fun _ _ _ h => h) (by rfl) hI ?_ ?_
  rotate_left
  · ((intro w hSw; (try dsimp only at hSw); go_simp); (try with_reducible rfl))
  try simp only [Act.put, List.setIfInBounds_toArray, List.set_cons_zero, List.set_cons_succ]
  refine rg_take (n := 37) (v := ?_) 10 (some 114) rfl rfl (by kernel_rfl) (by kernel_rfl) (by kernel_rfl) (fun _ _ _ h => h) (by rfl) hI ?_ ?_
  rotate_left
  · ((intro w hSw; (try dsimp only at hSw); go_simp); (try with_reducible rfl))
  try simp only [Act.put, List.setIfInBounds_toArray, List.set_cons_zero, List.set_cons_succ]
  refine rg_take (n := 36) (v := ?_) 11 (some 115) rfl rfl (by kernel_rfl) (by kernel_rfl) (by kernel_rfl) (fun _ _ _ h => h) (by rfl) hI ?_ ?_
  rotate_left
  · ((intro w hSw; (try dsimp only at hSw); go_simp); (try with_reducible rfl))
  try simp only [Act.put, List.setIfInBounds_toArray, List.set_cons_zero, List.set_cons_succ]
  refine rg_take (n := 35) (v := ?_) 12 (some 116) rfl rfl (by kernel_rfl) (by kernel_rfl) (by kernel_rfl) (fun _ _ _ h => h) (by rfl) hI ?_ ?_
  rotate_left
  · ((intro w hSw; (try dsimp only at hSw); go_simp); (try with_reducible rfl))
  try simp only [Act.put, List.setIfInBounds_toArray, List.set_cons_zero, List.set_cons_succ]
  refine rg_take (n := 34) (v := ?_) 13 (some 117) rfl rfl (by kernel_rfl) (by kernel_rfl) (by kernel_rfl) (fun _ _ _ h => h) (by rfl) hI ?_ ?_
  rotate_left
  · ((intro w hSw; (try dsimp only at hSw); go_simp); (try with_reducible rfl))
  try simp only [Act.put, List.setIfInBounds_toArray, List.set_cons_zero, List.set_cons_succ]
  refine rg_take (n := 33) (v := ?_) 14 (some 118) rfl rfl (by kernel_rfl) (by kernel_rfl) (by kernel_rfl) (fun _ _ _ h => h) (by rfl) hI ?_ ?_
  rotate_left
  · ((intro w hSw; (try dsimp only at hSw); go_simp); (try with_reducible rfl))
  try simp only [Act.put, List.setIfInBounds_toArray, List.set_cons_zero, List.set_cons_succ]
  refine rg_take (n := 32) (v := ?_) 15 (some 119) rfl rfl (by kernel_rfl) (by kernel_rfl) (by kernel_rfl) (fun _ _ _ h => h) (by rfl) hI ?_ ?_
  rotate_left
  · ((intro w hSw; (try dsimp only at hSw); go_simp); (try with_reducible rfl))
  try simp only [Act.put, List.setIfInBounds_toArray, List.set_cons_zero, List.set_cons_succ]
  refine rg_take (n := 31) (v := ?_) 16 (some 120) rfl rfl (by kernel_rfl) (by kernel_rfl) (by kernel_rfl) (fun _ _ _ h => h) (by rfl) hI ?_ ?_
  rotate_left
  · ((intro w hSw; (try dsimp only at hSw); go_simp); (try with_reducible rfl))
  try simp only [Act.put, List.setIfInBounds_toArray, List.set_cons_zero, List.set_cons_succ]
  refine rg_take (n := 30) (v := ?_) 17 (some 121) rfl rfl (by kernel_rfl) (by kernel_rfl) (by kernel_rfl) (fun _ _ _ h => h) (by rfl) hI ?_ ?_
  rotate_left
  · ((intro w hSw; (try dsimp only at hSw); go_simp); (try with_reducible rfl))
  try simp only [Act.put, List.setIfInBounds_toArray, List.set_cons_zero, List.set_cons_succ]
  refine rg_take (n := 29) (v := ?_) 18 (some 122) rfl rfl (by kernel_rfl) (by kernel_rfl) (by kernel_rfl) (fun _ _ _ h => h) (by rfl) hI ?_ ?_
  rotate_left
  · ((intro w hSw; (try dsimp only at hSw); go_simp); (try with_reducible rfl))
  try simp only [Act.put, List.setIfInBounds_toArray, List.set_cons_zero, List.set_cons_succ]
  refine rg_take (n := 28) (v := ?_) 19 (some 123) rfl rfl (by kernel_rfl) (by kernel_rfl) (by kernel_rfl) (fun _ _ _ h => h) (by rfl) hI ?_ ?_
  rotate_left
  · ((intro w hSw; (try dsimp only at hSw); go_simp); (try with_reducible rfl))
  try simp only [Act.put, List.setIfInBounds_toArray, List.set_cons_zero, List.set_cons_succ]
  refine rg_take (n := 27) (v := ?_) 20 (some 124) rfl rfl (by kernel_rfl) (by kernel_rfl) (by kernel_rfl) (fun _ _ _ h => h) (by rfl) hI ?_ ?_
  rotate_left
  · ((intro w hSw; (try dsimp only at hSw); go_simp); (try with_reducible rfl))
  try simp only [Act.put, List.setIfInBounds_toArray, List.set_cons_zero, List.set_cons_succ]
  refine rg_take (n := 26) (v := ?_) 21 (some 125) rfl rfl (by kernel_rfl) (by kernel_rfl) (by kernel_rfl) (fun _ _ _ h => h) (by rfl) hI ?_ ?_
  rotate_left
  · ((intro w hSw; (try dsimp only at hSw); go_simp); (try with_reducible rfl))
  try simp only [Act.put, List.setIfInBounds_toArray, List.set_cons_zero, List.set_cons_succ]
  refine rg_take (n := 25) (v := ?_) 22 (some 126) rfl rfl (by kernel_rfl) (by kernel_rfl) (by kernel_rfl) (fun _ _ _ h => h) (by rfl) hI ?_ ?_
  rotate_left
  · ((intro w hSw; (try dsimp only at hSw); go_simp); (try with_reducible rfl))
  try simp only [Act.put, List.setIfInBounds_toArray, List.set_cons_zero, List.set_cons_succ]
  refine rg_take (n := 24) (v := ?_) 23 (some 127) rfl rfl (by kernel_rfl) (by kernel_rfl) (by kernel_rfl) (fun _ _ _ h => h) (by rfl) hI ?_ ?_
  rotate_left
  · ((intro w hSw; (try dsimp only at hSw); go_simp); (try with_reducible rfl))
  try simp only [Act.put, List.setIfInBounds_toArray, List.set_cons_zero, List.set_cons_succ]
  refine rg_take (n := 23) (v := ?_) 24 (some 128) rfl rfl (by kernel_rfl) (by kernel_rfl) (by kernel_rfl) (fun _ _ _ h => h) (by rfl) hI ?_ ?_
  rotate_left
  · ((intro w hSw; (try dsimp only at hSw); go_simp); (try with_reducible rfl))
  try simp only [Act.put, List.setIfInBounds_toArray, List.set_cons_zero, List.set_cons_succ]
  refine rg_take (n := 22) (v := ?_) 25 (some 129) rfl rfl (by kernel_rfl) (by kernel_rfl) (by kernel_rfl) (fun _ _ _ h => h) (by rfl) hI ?_ ?_
  rotate_left
  · ((intro w hSw; (try dsimp only at hSw); go_simp); (try with_reducible rfl))
  try simp only [Act.put, List.setIfInBounds_toArray, List.set_cons_zero, List.set_cons_succ]
  refine rg_take (n := 21) (v := ?_) 26 (some 130) rfl rfl (by kernel_rfl) (by kernel_rfl) (by kernel_rfl) (fun _ _ _ h => h) (by rfl) hI ?_ ?_
  rotate_left
  · ((intro w hSw; (try dsimp only at hSw); go_simp); (try with_reducible rfl))
  try simp only [Act.put, List.setIfInBounds_toArray, List.set_cons_zero, List.set_cons_succ]
  refine rg_take (n := 20) (v := ?_) 27 (some 131) rfl rfl (by kernel_rfl) (by kernel_rfl) (by kernel_rfl) (fun _ _ _ h => h) (by rfl) hI ?_ ?_
  rotate_left
  · ((intro w hSw; (try dsimp only at hSw); go_simp); (try with_reducible rfl))
  try simp only [Act.put, List.setIfInBounds_toArray, List.set_cons_zero, List.set_cons_succ]
  refine rg_take (n := 19) (v := ?_) 28 (some 132) rfl rfl (by kernel_rfl) (by kernel_rfl) (by kernel_rfl) (fun _ _ _ h => h) (by rfl) hI ?_ ?_
  rotate_left
  · ((intro w hSw; (try dsimp only at hSw); go_simp); (try with_reducible rfl))
  try simp only [Act.put, List.setIfInBounds_toArray, List.set_cons_zero, List.set_cons_succ]
  refine rg_take (n := 18) (v := ?_) 29 (some 133) rfl rfl (by kernel_rfl) (by kernel_rfl) (by kernel_rfl) (fun _ _ _ h => h) (by rfl) hI ?_ ?_
  rotate_left
  · ((intro w hSw; (try dsimp only at hSw); go_simp); (try with_reducible rfl))
  try simp only [Act.put, List.setIfInBounds_toArray, List.set_cons_zero, List.set_cons_succ]
  refine rg_take (n := 17) (v := ?_) 30 (some 134) rfl rfl (by kernel_rfl) (by kernel_rfl) (by kernel_rfl) (fun _ _ _ h => h) (by rfl) hI ?_ ?_
  rotate_left
  · ((intro w hSw; (try dsimp only at hSw); go_simp); (try with_reducible rfl))
  try simp only [Act.put, List.setIfInBounds_toArray, List.set_cons_zero, List.set_cons_succ]
  refine rg_take (n := 16) (v := ?_) 31 (some 135) rfl rfl (by kernel_rfl) (by kernel_rfl) (by kernel_rfl) (fun _ _ _ h => h) (by rfl) hI ?_ ?_
  rotate_left
  · ((intro w hSw; (try dsimp only at hSw); go_simp); (try with_reducible rfl))
  try simp only [Act.put, List.setIfInBounds_toArray, List.set_cons_zero, List.set_cons_succ]
  refine rg_take (n := 15) (v := ?_) 32 (some 136) rfl rfl (by kernel_rfl) (by kernel_rfl) (by kernel_rfl) (fun _ _ _ h => h) (by rfl) hI ?_ ?_
  rotate_left
  · ((intro w hSw; (try dsimp only at hSw); go_simp); (try with_reducible rfl))
  try simp only [Act.put, List.setIfInBounds_toArray, List.set_cons_zero, List.set_cons_succ]
  refine rg_take (n := 14) (v := ?_) 33 (some 137) rfl rfl (by kernel_rfl) (by kernel_rfl) (by kernel_rfl) (fun _ _ _ h => h) (by rfl) hI ?_ ?_
  rotate_left
  · ((intro w hSw; (try dsimp only at hSw); go_simp); (try with_reducible rfl))
  try simp only [Act.put, List.setIfInBounds_toArray, List.set_cons_zero, List.set_cons_succ]
  refine rg_take (n := 13) (v := ?_) 34 (some 138) rfl rfl (by kernel_rfl) (by kernel_rfl) (by kernel_rfl) (fun _ _ _ h => h) (by rfl) hI ?_ ?_
  rotate_left
  · ((intro w hSw; (try dsimp only at hSw); go_simp); (try with_reducible rfl))
  try simp only [Act.put, List.setIfInBounds_toArray, List.set_cons_zero, List.set_cons_succ]
  refine rg_take (n := 12) (v := ?_) 35 (some 139) rfl rfl (by kernel_rfl) (by kernel_rfl) (by kernel_rfl) (fun _ _ _ h => h) (by rfl) hI ?_ ?_
  rotate_left
  · ((intro w hSw; (try dsimp only at hSw); go_simp); (try with_reducible rfl))
  try simp only [Act.put, List.setIfInBounds_toArray, List.set_cons_zero, List.set_cons_succ]
  refine rg_take (n := 11) (v := ?_) 36 (some 140) rfl rfl (by kernel_rfl) (by kernel_rfl) (by kernel_rfl) (fun _ _ _ h => h) (by rfl) hI ?_ ?_
  rotate_left
  · ((intro w hSw; (try dsimp only at hSw); go_simp); (try with_reducible rfl))
  try simp only [Act.put, List.setIfInBounds_toArray, List.set_cons_zero, List.set_cons_succ]
  refine rg_take (n := 10) (v := ?_) 37 (some 141) rfl rfl (by kernel_rfl) (by kernel_rfl) (by kernel_rfl) (fun _ _ _ h => h) (by rfl) hI ?_ ?_
  rotate_left
  · ((intro w hSw; (try dsimp only at hSw); go_simp); (try with_reducible rfl))
  try simp only [Act.put, List.setIfInBounds_toArray, List.set_cons_zero, List.set_cons_succ]
  refine rg_take (n := 9) (v := ?_) 38 (some 142) rfl rfl (by kernel_rfl) (by kernel_rfl) (by kernel_rfl) (fun _ _ _ h => h) (by rfl) hI ?_ ?_
  rotate_left
  · ((intro w hSw; (try dsimp only at hSw); go_simp); (try with_reducible rfl))
  try simp only [Act.put, List.setIfInBounds_toArray, List.set_cons_zero, List.set_cons_succ]
  refine rg_take (n := 8) (v := ?_) 39 (some 143) rfl rfl (by kernel_rfl) (by kernel_rfl) (by kernel_rfl) (fun _ _ _ h => h) (by rfl) hI ?_ ?_
  rotate_left
  · ((intro w hSw; (try dsimp only at hSw); go_simp); (try with_reducible rfl))
  try simp only [Act.put, List.setIfInBounds_toArray, List.set_cons_zero, List.set_cons_succ]
  refine rg_take (n := 7) (v := ?_) 40 (some 144) rfl rfl (by kernel_rfl) (by kernel_rfl) (by kernel_rfl) (fun _ _ _ h => h) (by rfl) hI ?_ ?_
  rotate_left
  · ((intro w hSw; (try dsimp only at hSw); go_simp); (try with_reducible rfl))
  try simp only [Act.put, List.setIfInBounds_toArray, List.set_cons_zero, List.set_cons_succ]
  refine rg_take (n := 6) (v := ?_) 41 (some 145) rfl rfl (by kernel_rfl) (by kernel_rfl) (by kernel_rfl) (fun _ _ _ h => h) (by rfl) hI ?_ ?_
  rotate_left
  · ((intro w hSw; (try dsimp only at hSw); go_simp); (try with_reducible rfl))
  try simp only [Act.put, List.setIfInBounds_toArray, List.set_cons_zero, List.set_cons_succ]
  refine rg_take (n := 5) (v := ?_) 43 (some 147) rfl rfl (by kernel_rfl) (by kernel_rfl) (by kernel_rfl) (fun _ _ _ h => h) (by rfl) hI ?_ ?_
  rotate_left
  · ((intro w hSw; (try dsimp only at hSw); go_simp); (try with_reducible rfl))
  try simp only [Act.put, List.setIfInBounds_toArray, List.set_cons_zero, List.set_cons_succ]
  refine rg_one (n := 4) 42 rfl (by kernel_rfl) (by rfl) ?_
  go_simp
  go_at_call 22
  refine (HMy.out _ HD.out).mono ?_
  rintro e v1 ⟨rfl, hm⟩
  have N1 := Lib.hid (HD.out.trans hm (fun _ _ h => h))
  clear hm
  clear hI
  have hI := (show (fun V : World => V.cell? ⟨w.heap.size, 0, none⟩ = some (.int .i64 x.id) ∧ V.cell? ⟨w.heap.size, 1, none⟩ = some (.int .i64 x.st) ∧ V.cell? ⟨w.heap.size, 2, none⟩ = some (.int .i64 x.f) ∧ V.cell? ⟨w.heap.size, 3, none⟩ = some (.int .i64 x.l) ∧ V.cell? ⟨w.heap.size, 4, none⟩ = some (.slice x.A x.n x.c) ∧ V.cell? ⟨w.heap.size, 5, none⟩ = some (.slice x.B x.m x.d)) _ from (HB27.out.keep N1.out).cells)
  refine ⟨hI, ?_⟩
  try simp only [Act.put, List.setIfInBounds_toArray, List.set_cons_zero, List.set_cons_succ]
  refine rg_one (n := 3) 44 rfl (by kernel_rfl) (by rfl) ?_
  go_simp
  go_at_call 23
  refine (HRy.out _ N1.out).mono ?_
  rintro e v2 ⟨rfl, hm⟩
  have N2 := Lib.hid (N1.out.trans hm (fun _ _ h => h))
  clear hm
  clear hI
  have hI := (show (fun V : World => V.cell? ⟨w.heap.size, 0, none⟩ = some (.int .i64 x.id) ∧ V.cell? ⟨w.heap.size, 1, none⟩ = some (.int .i64 x.st) ∧ V.cell? ⟨w.heap.size, 2, none⟩ = some (.int .i64 x.f) ∧ V.cell? ⟨w.heap.size, 3, none⟩ = some (.int .i64 x.l) ∧ V.cell? ⟨w.heap.size, 4, none⟩ = some (.slice x.A x.n x.c) ∧ V.cell? ⟨w.heap.size, 5, none⟩ = some (.slice x.B x.m x.d)) _ from (HB27.out.keep N2.out).cells)
  refine ⟨hI, ?_⟩
  try simp only [Act.put, List.setIfInBounds_toArray, List.set_cons_zero, List.set_cons_succ]
  refine rg_take (n := 2) (v := ?_) 45 (some 149) rfl rfl (by kernel_rfl) (by kernel_rfl) (by kernel_rfl) (fun _ _ _ h => h) (by rfl) hI ?_ ?_
  rotate_left
  · ((intro w hSw; (try dsimp only at hSw); go_simp); (try with_reducible rfl))
  try simp only [Act.put, List.setIfInBounds_toArray, List.set_cons_zero, List.set_cons_succ]
  refine rg_take (n := 1) (v := ?_) 46 (some 150) rfl rfl (by kernel_rfl) (by kernel_rfl) (by kernel_rfl) (fun _ _ _ h => h) (by rfl) hI ?_ ?_
  rotate_left
  · ((intro w hSw; (try dsimp only at hSw); go_simp); (try with_reducible rfl))
  try simp only [Act.put, List.setIfInBounds_toArray, List.set_cons_zero, List.set_cons_succ]
  refine rg_take (n := 0) (v := ?_) 47 (some 6) rfl rfl (by kernel_rfl) (by kernel_rfl) (by kernel_rfl) (fun _ _ _ h => h) (by rfl) hI ?_ ?_
  rotate_left
  · ((intro w hSw; (try dsimp only at hSw); go_simp); (try with_reducible rfl))
  try simp only [Act.put, List.setIfInBounds_toArray, List.set_cons_zero, List.set_cons_succ]
  refine wpAnyH_done (by kernel_rfl) ?_ _
  clear hI
  go_wp2
  go_ret
  exact ⟨rfl, (HM27.out.trans N2.out (fun _ _ h => h)).below (Nat.le_refl _) (fun _ _ h => h)⟩
end Go.Proofs.Ytidcmolkolcliaa
