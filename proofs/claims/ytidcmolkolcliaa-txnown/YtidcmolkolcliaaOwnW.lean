/-
  The law TxnOwn: its walk.
-/
import Derived.Test.YtidcmolkolcliaaXLw
import Derived.Deep.DeepCutAuto
namespace Go.Proofs.Ytidcmolkolcliaa
open Go Go.RowKit

set_option maxRecDepth 100000 in
set_option maxHeartbeats 12800000 in
theorem own_walk (w : World) (x : TxD) (hx : x.At w) (y : ChD) (hy : y.At w) :
    Calls Try.prog 9 #[.agg #[.int .i64 x.id, .int .i64 x.st, .int .i64 x.f, .int .i64 x.l, .slice x.A x.n x.c, .slice x.B x.m x.d], .agg #[.int .i64 y.lsn, .int .i64 y.page, .int .i64 y.key, .bool y.o.is, .slice y.o.B y.o.m y.o.d, .bool y.v.is, .slice y.v.B y.v.m y.v.d]] w fun e w' => e = .returned (.bool true) ∧ Below w.heap.size w w' := by
  obtain ⟨w1, hw1⟩ : ∃ w1, (w.alloc (.cells #[.int .i64 x.id, .int .i64 x.st, .int .i64 x.f, .int .i64 x.l, .slice x.A x.n x.c, .slice x.B x.m x.d] 25)).alloc (.cells #[.int .i64 y.lsn, .int .i64 y.page, .int .i64 y.key, .bool y.o.is, .slice y.o.B y.o.m y.o.d, .bool y.v.is, .slice y.v.B y.v.m y.v.d] 30) = w1 := ⟨_, rfl⟩
  have HB1 : Hid ((x : TxD).In w1 (w.heap.size)) := by
    rw [← hw1]
    have q := TxD.In.new (w) (x)
    exact q.keep ((Mod.refl (fun _ => False) _).alloc _)
  have HY1 : Hid ((y : ChD).In w1 (w.heap.size + 1)) := by
    rw [← hw1]
    have q := ChD.In.new (w.alloc (.cells #[.int .i64 x.id, .int .i64 x.st, .int .i64 x.f, .int .i64 x.l, .slice x.A x.n x.c, .slice x.B x.m x.d] 25)) (y)
    simp only [World.size_alloc] at q
    exact q.keep (Mod.refl (fun _ => False) _)
  have HM1 : Hid (Mod (fun _ => False) w w1) := by rw [← hw1]; exact ((Mod.refl (fun _ => False) w).alloc _).alloc _
  have hz1 : w.heap.size + 2 ≤ w1.heap.size := by rw [← hw1]; simp
  have Kx1 := Lib.hid (hx.kp0.keep HM1.out)
  have Ay1 := Lib.hid (hy.keep HM1.out)
  clear hx hy
  have HLt := Lib.hid (fun V (hV : Mod (fun _ => False) w1 V) => llight_ok V x y (Kx1.out.keep hV).at_ (Ay1.out.keep hV))
  have Hsm : Hid ((ltB x.p && smB y.p) = true → SmT x.p ∧ SmC y.p) := fun h => by
    rw [Bool.and_eq_true] at h
    exact ⟨SmT.lt h.1, smC_of (smB_iff.1 h.2)⟩
  generalize (ltB x.p && smB y.p) = b1 at *
  cases b1 with
  | false =>
    obtain ⟨c0, c1, c2, c3, c4, c5⟩ : w1.cell? ⟨w.heap.size, 0, none⟩ = some (.int .i64 x.id) ∧ w1.cell? ⟨w.heap.size, 1, none⟩ = some (.int .i64 x.st) ∧ w1.cell? ⟨w.heap.size, 2, none⟩ = some (.int .i64 x.f) ∧ w1.cell? ⟨w.heap.size, 3, none⟩ = some (.int .i64 x.l) ∧ w1.cell? ⟨w.heap.size, 4, none⟩ = some (.slice x.A x.n x.c) ∧ w1.cell? ⟨w.heap.size, 5, none⟩ = some (.slice x.B x.m x.d) := HB1.out.cells
    obtain ⟨y0, y1, y2, y3, y4, y5, y6⟩ : w1.cell? ⟨w.heap.size + 1, 0, none⟩ = some (.int .i64 y.lsn) ∧ w1.cell? ⟨w.heap.size + 1, 1, none⟩ = some (.int .i64 y.page) ∧ w1.cell? ⟨w.heap.size + 1, 2, none⟩ = some (.int .i64 y.key) ∧ w1.cell? ⟨w.heap.size + 1, 3, none⟩ = some (.bool y.o.is) ∧ w1.cell? ⟨w.heap.size + 1, 4, none⟩ = some (.slice y.o.B y.o.m y.o.d) ∧ w1.cell? ⟨w.heap.size + 1, 5, none⟩ = some (.bool y.v.is) ∧ w1.cell? ⟨w.heap.size + 1, 6, none⟩ = some (.slice y.v.B y.v.m y.v.d) := HY1.out.cells
    go_enter Try.func9, Try.ntmps9
    go_wp2_with fail
    refine (awake_ok w1).mono ?_
    rintro e w2 ⟨rfl, hm⟩
    have HM12 := Lib.hid hm
    have HM2 := Lib.hid (HM1.out.trans hm (fun _ _ h => h))
    have hz2 := hm.size
    have HB2 := Lib.hid (HB1.out.keep hm)
    have HY2 := Lib.hid (HY1.out.keep hm)
    have Kx2 := Lib.hid (Kx1.out.keep hm)
    have Ay2 := Lib.hid (Ay1.out.keep hm)
    clear hm hw1 c0 c1 c2 c3 c4 c5 y0 y1 y2 y3 y4 y5 y6
    obtain ⟨c0, c1, c2, c3, c4, c5⟩ : w2.cell? ⟨w.heap.size, 0, none⟩ = some (.int .i64 x.id) ∧ w2.cell? ⟨w.heap.size, 1, none⟩ = some (.int .i64 x.st) ∧ w2.cell? ⟨w.heap.size, 2, none⟩ = some (.int .i64 x.f) ∧ w2.cell? ⟨w.heap.size, 3, none⟩ = some (.int .i64 x.l) ∧ w2.cell? ⟨w.heap.size, 4, none⟩ = some (.slice x.A x.n x.c) ∧ w2.cell? ⟨w.heap.size, 5, none⟩ = some (.slice x.B x.m x.d) := HB2.out.cells
    obtain ⟨y0, y1, y2, y3, y4, y5, y6⟩ : w2.cell? ⟨w.heap.size + 1, 0, none⟩ = some (.int .i64 y.lsn) ∧ w2.cell? ⟨w.heap.size + 1, 1, none⟩ = some (.int .i64 y.page) ∧ w2.cell? ⟨w.heap.size + 1, 2, none⟩ = some (.int .i64 y.key) ∧ w2.cell? ⟨w.heap.size + 1, 3, none⟩ = some (.bool y.o.is) ∧ w2.cell? ⟨w.heap.size + 1, 4, none⟩ = some (.slice y.o.B y.o.m y.o.d) ∧ w2.cell? ⟨w.heap.size + 1, 5, none⟩ = some (.bool y.v.is) ∧ w2.cell? ⟨w.heap.size + 1, 6, none⟩ = some (.slice y.v.B y.v.m y.v.d) := HY2.out.cells
    go_wp2_with fail
    refine (HLt.out _ HM12.out).mono ?_
    rintro e w3 ⟨rfl, hm⟩
    have HM3 := Lib.hid (HM2.out.trans hm (fun _ _ h => h))
    have hz3 := hm.size
    have HB3 := Lib.hid (HB2.out.keep hm)
    have HY3 := Lib.hid (HY2.out.keep hm)
    have Kx3 := Lib.hid (Kx2.out.keep hm)
    have Ay3 := Lib.hid (Ay2.out.keep hm)
    clear hm HM12 c0 c1 c2 c3 c4 c5 y0 y1 y2 y3 y4 y5 y6
    obtain ⟨c0, c1, c2, c3, c4, c5⟩ : w3.cell? ⟨w.heap.size, 0, none⟩ = some (.int .i64 x.id) ∧ w3.cell? ⟨w.heap.size, 1, none⟩ = some (.int .i64 x.st) ∧ w3.cell? ⟨w.heap.size, 2, none⟩ = some (.int .i64 x.f) ∧ w3.cell? ⟨w.heap.size, 3, none⟩ = some (.int .i64 x.l) ∧ w3.cell? ⟨w.heap.size, 4, none⟩ = some (.slice x.A x.n x.c) ∧ w3.cell? ⟨w.heap.size, 5, none⟩ = some (.slice x.B x.m x.d) := HB3.out.cells
    obtain ⟨y0, y1, y2, y3, y4, y5, y6⟩ : w3.cell? ⟨w.heap.size + 1, 0, none⟩ = some (.int .i64 y.lsn) ∧ w3.cell? ⟨w.heap.size + 1, 1, none⟩ = some (.int .i64 y.page) ∧ w3.cell? ⟨w.heap.size + 1, 2, none⟩ = some (.int .i64 y.key) ∧ w3.cell? ⟨w.heap.size + 1, 3, none⟩ = some (.bool y.o.is) ∧ w3.cell? ⟨w.heap.size + 1, 4, none⟩ = some (.slice y.o.B y.o.m y.o.d) ∧ w3.cell? ⟨w.heap.size + 1, 5, none⟩ = some (.bool y.v.is) ∧ w3.cell? ⟨w.heap.size + 1, 6, none⟩ = some (.slice y.v.B y.v.m y.v.d) := HY3.out.cells
    go_wp2
    go_ret
    exact ⟨rfl, HM3.out.below (Nat.le_refl _) (fun _ _ h => h)⟩
  | true =>
  obtain ⟨hs1, hs2⟩ := Hsm.out (by trivial)
  have Hs2 := Lib.hid hs2
  have Hsz := Lib.hid (Kx1.out.at_.sm hs1)
  clear hs1 hs2 Hsm
  have HMy := Lib.hid (fun V (hV : Mod (fun _ => False) w1 V) => may_ok V x (Kx1.out.keep hV).at_ Hsz.out.1 Hsz.out.2.1)
  cases hb2 : mayT x.p with
  | false =>
    rw [hb2] at HMy
    clear hb2
    obtain ⟨c0, c1, c2, c3, c4, c5⟩ : w1.cell? ⟨w.heap.size, 0, none⟩ = some (.int .i64 x.id) ∧ w1.cell? ⟨w.heap.size, 1, none⟩ = some (.int .i64 x.st) ∧ w1.cell? ⟨w.heap.size, 2, none⟩ = some (.int .i64 x.f) ∧ w1.cell? ⟨w.heap.size, 3, none⟩ = some (.int .i64 x.l) ∧ w1.cell? ⟨w.heap.size, 4, none⟩ = some (.slice x.A x.n x.c) ∧ w1.cell? ⟨w.heap.size, 5, none⟩ = some (.slice x.B x.m x.d) := HB1.out.cells
    obtain ⟨y0, y1, y2, y3, y4, y5, y6⟩ : w1.cell? ⟨w.heap.size + 1, 0, none⟩ = some (.int .i64 y.lsn) ∧ w1.cell? ⟨w.heap.size + 1, 1, none⟩ = some (.int .i64 y.page) ∧ w1.cell? ⟨w.heap.size + 1, 2, none⟩ = some (.int .i64 y.key) ∧ w1.cell? ⟨w.heap.size + 1, 3, none⟩ = some (.bool y.o.is) ∧ w1.cell? ⟨w.heap.size + 1, 4, none⟩ = some (.slice y.o.B y.o.m y.o.d) ∧ w1.cell? ⟨w.heap.size + 1, 5, none⟩ = some (.bool y.v.is) ∧ w1.cell? ⟨w.heap.size + 1, 6, none⟩ = some (.slice y.v.B y.v.m y.v.d) := HY1.out.cells
    go_enter Try.func9, Try.ntmps9
    go_wp2_with fail
    refine (awake_ok w1).mono ?_
    rintro e w2 ⟨rfl, hm⟩
    have HM12 := Lib.hid hm
    have HM2 := Lib.hid (HM1.out.trans hm (fun _ _ h => h))
    have hz2 := hm.size
    have HB2 := Lib.hid (HB1.out.keep hm)
    have HY2 := Lib.hid (HY1.out.keep hm)
    have Kx2 := Lib.hid (Kx1.out.keep hm)
    have Ay2 := Lib.hid (Ay1.out.keep hm)
    clear hm hw1 c0 c1 c2 c3 c4 c5 y0 y1 y2 y3 y4 y5 y6
    obtain ⟨c0, c1, c2, c3, c4, c5⟩ : w2.cell? ⟨w.heap.size, 0, none⟩ = some (.int .i64 x.id) ∧ w2.cell? ⟨w.heap.size, 1, none⟩ = some (.int .i64 x.st) ∧ w2.cell? ⟨w.heap.size, 2, none⟩ = some (.int .i64 x.f) ∧ w2.cell? ⟨w.heap.size, 3, none⟩ = some (.int .i64 x.l) ∧ w2.cell? ⟨w.heap.size, 4, none⟩ = some (.slice x.A x.n x.c) ∧ w2.cell? ⟨w.heap.size, 5, none⟩ = some (.slice x.B x.m x.d) := HB2.out.cells
    obtain ⟨y0, y1, y2, y3, y4, y5, y6⟩ : w2.cell? ⟨w.heap.size + 1, 0, none⟩ = some (.int .i64 y.lsn) ∧ w2.cell? ⟨w.heap.size + 1, 1, none⟩ = some (.int .i64 y.page) ∧ w2.cell? ⟨w.heap.size + 1, 2, none⟩ = some (.int .i64 y.key) ∧ w2.cell? ⟨w.heap.size + 1, 3, none⟩ = some (.bool y.o.is) ∧ w2.cell? ⟨w.heap.size + 1, 4, none⟩ = some (.slice y.o.B y.o.m y.o.d) ∧ w2.cell? ⟨w.heap.size + 1, 5, none⟩ = some (.bool y.v.is) ∧ w2.cell? ⟨w.heap.size + 1, 6, none⟩ = some (.slice y.v.B y.v.m y.v.d) := HY2.out.cells
    go_wp2_with fail
    refine (HLt.out _ HM12.out).mono ?_
    rintro e w3 ⟨rfl, hm⟩
    have HM13 := Lib.hid (HM12.out.trans hm (fun _ _ h => h))
    have HM3 := Lib.hid (HM2.out.trans hm (fun _ _ h => h))
    have hz3 := hm.size
    have HB3 := Lib.hid (HB2.out.keep hm)
    have HY3 := Lib.hid (HY2.out.keep hm)
    have Kx3 := Lib.hid (Kx2.out.keep hm)
    have Ay3 := Lib.hid (Ay2.out.keep hm)
    clear hm HM12 c0 c1 c2 c3 c4 c5 y0 y1 y2 y3 y4 y5 y6
    obtain ⟨c0, c1, c2, c3, c4, c5⟩ : w3.cell? ⟨w.heap.size, 0, none⟩ = some (.int .i64 x.id) ∧ w3.cell? ⟨w.heap.size, 1, none⟩ = some (.int .i64 x.st) ∧ w3.cell? ⟨w.heap.size, 2, none⟩ = some (.int .i64 x.f) ∧ w3.cell? ⟨w.heap.size, 3, none⟩ = some (.int .i64 x.l) ∧ w3.cell? ⟨w.heap.size, 4, none⟩ = some (.slice x.A x.n x.c) ∧ w3.cell? ⟨w.heap.size, 5, none⟩ = some (.slice x.B x.m x.d) := HB3.out.cells
    obtain ⟨y0, y1, y2, y3, y4, y5, y6⟩ : w3.cell? ⟨w.heap.size + 1, 0, none⟩ = some (.int .i64 y.lsn) ∧ w3.cell? ⟨w.heap.size + 1, 1, none⟩ = some (.int .i64 y.page) ∧ w3.cell? ⟨w.heap.size + 1, 2, none⟩ = some (.int .i64 y.key) ∧ w3.cell? ⟨w.heap.size + 1, 3, none⟩ = some (.bool y.o.is) ∧ w3.cell? ⟨w.heap.size + 1, 4, none⟩ = some (.slice y.o.B y.o.m y.o.d) ∧ w3.cell? ⟨w.heap.size + 1, 5, none⟩ = some (.bool y.v.is) ∧ w3.cell? ⟨w.heap.size + 1, 6, none⟩ = some (.slice y.v.B y.v.m y.v.d) := HY3.out.cells
    go_wp2_with fail
    refine (HMy.out _ HM13.out).mono ?_
    rintro e w4 ⟨rfl, hm⟩
    have HM4 := Lib.hid (HM3.out.trans hm (fun _ _ h => h))
    have hz4 := hm.size
    have HB4 := Lib.hid (HB3.out.keep hm)
    have HY4 := Lib.hid (HY3.out.keep hm)
    have Kx4 := Lib.hid (Kx3.out.keep hm)
    have Ay4 := Lib.hid (Ay3.out.keep hm)
    clear hm HM13 c0 c1 c2 c3 c4 c5 y0 y1 y2 y3 y4 y5 y6
    obtain ⟨c0, c1, c2, c3, c4, c5⟩ : w4.cell? ⟨w.heap.size, 0, none⟩ = some (.int .i64 x.id) ∧ w4.cell? ⟨w.heap.size, 1, none⟩ = some (.int .i64 x.st) ∧ w4.cell? ⟨w.heap.size, 2, none⟩ = some (.int .i64 x.f) ∧ w4.cell? ⟨w.heap.size, 3, none⟩ = some (.int .i64 x.l) ∧ w4.cell? ⟨w.heap.size, 4, none⟩ = some (.slice x.A x.n x.c) ∧ w4.cell? ⟨w.heap.size, 5, none⟩ = some (.slice x.B x.m x.d) := HB4.out.cells
    obtain ⟨y0, y1, y2, y3, y4, y5, y6⟩ : w4.cell? ⟨w.heap.size + 1, 0, none⟩ = some (.int .i64 y.lsn) ∧ w4.cell? ⟨w.heap.size + 1, 1, none⟩ = some (.int .i64 y.page) ∧ w4.cell? ⟨w.heap.size + 1, 2, none⟩ = some (.int .i64 y.key) ∧ w4.cell? ⟨w.heap.size + 1, 3, none⟩ = some (.bool y.o.is) ∧ w4.cell? ⟨w.heap.size + 1, 4, none⟩ = some (.slice y.o.B y.o.m y.o.d) ∧ w4.cell? ⟨w.heap.size + 1, 5, none⟩ = some (.bool y.v.is) ∧ w4.cell? ⟨w.heap.size + 1, 6, none⟩ = some (.slice y.v.B y.v.m y.v.d) := HY4.out.cells
    go_wp2
    go_ret
    exact ⟨rfl, HM4.out.below (Nat.le_refl _) (fun _ _ h => h)⟩
  | true =>
  rw [hb2] at HMy
  have Hm := Lib.hid hb2
  clear hb2
  obtain ⟨c0, c1, c2, c3, c4, c5⟩ : w1.cell? ⟨w.heap.size, 0, none⟩ = some (.int .i64 x.id) ∧ w1.cell? ⟨w.heap.size, 1, none⟩ = some (.int .i64 x.st) ∧ w1.cell? ⟨w.heap.size, 2, none⟩ = some (.int .i64 x.f) ∧ w1.cell? ⟨w.heap.size, 3, none⟩ = some (.int .i64 x.l) ∧ w1.cell? ⟨w.heap.size, 4, none⟩ = some (.slice x.A x.n x.c) ∧ w1.cell? ⟨w.heap.size, 5, none⟩ = some (.slice x.B x.m x.d) := HB1.out.cells
  obtain ⟨y0, y1, y2, y3, y4, y5, y6⟩ : w1.cell? ⟨w.heap.size + 1, 0, none⟩ = some (.int .i64 y.lsn) ∧ w1.cell? ⟨w.heap.size + 1, 1, none⟩ = some (.int .i64 y.page) ∧ w1.cell? ⟨w.heap.size + 1, 2, none⟩ = some (.int .i64 y.key) ∧ w1.cell? ⟨w.heap.size + 1, 3, none⟩ = some (.bool y.o.is) ∧ w1.cell? ⟨w.heap.size + 1, 4, none⟩ = some (.slice y.o.B y.o.m y.o.d) ∧ w1.cell? ⟨w.heap.size + 1, 5, none⟩ = some (.bool y.v.is) ∧ w1.cell? ⟨w.heap.size + 1, 6, none⟩ = some (.slice y.v.B y.v.m y.v.d) := HY1.out.cells
  go_enter Try.func9, Try.ntmps9
  go_wp2_with fail
  refine (awake_ok w1).mono ?_
  rintro e w2 ⟨rfl, hm⟩
  have HM12 := Lib.hid hm
  have HM2 := Lib.hid (HM1.out.trans hm (fun _ _ h => h))
  have hz2 := hm.size
  have HB2 := Lib.hid (HB1.out.keep hm)
  have HY2 := Lib.hid (HY1.out.keep hm)
  have Kx2 := Lib.hid (Kx1.out.keep hm)
  have Ay2 := Lib.hid (Ay1.out.keep hm)
  clear hm hw1 c0 c1 c2 c3 c4 c5 y0 y1 y2 y3 y4 y5 y6
  obtain ⟨c0, c1, c2, c3, c4, c5⟩ : w2.cell? ⟨w.heap.size, 0, none⟩ = some (.int .i64 x.id) ∧ w2.cell? ⟨w.heap.size, 1, none⟩ = some (.int .i64 x.st) ∧ w2.cell? ⟨w.heap.size, 2, none⟩ = some (.int .i64 x.f) ∧ w2.cell? ⟨w.heap.size, 3, none⟩ = some (.int .i64 x.l) ∧ w2.cell? ⟨w.heap.size, 4, none⟩ = some (.slice x.A x.n x.c) ∧ w2.cell? ⟨w.heap.size, 5, none⟩ = some (.slice x.B x.m x.d) := HB2.out.cells
  obtain ⟨y0, y1, y2, y3, y4, y5, y6⟩ : w2.cell? ⟨w.heap.size + 1, 0, none⟩ = some (.int .i64 y.lsn) ∧ w2.cell? ⟨w.heap.size + 1, 1, none⟩ = some (.int .i64 y.page) ∧ w2.cell? ⟨w.heap.size + 1, 2, none⟩ = some (.int .i64 y.key) ∧ w2.cell? ⟨w.heap.size + 1, 3, none⟩ = some (.bool y.o.is) ∧ w2.cell? ⟨w.heap.size + 1, 4, none⟩ = some (.slice y.o.B y.o.m y.o.d) ∧ w2.cell? ⟨w.heap.size + 1, 5, none⟩ = some (.bool y.v.is) ∧ w2.cell? ⟨w.heap.size + 1, 6, none⟩ = some (.slice y.v.B y.v.m y.v.d) := HY2.out.cells
  go_wp2_with fail
  refine (HLt.out _ HM12.out).mono ?_
  rintro e w3 ⟨rfl, hm⟩
  have HM13 := Lib.hid (HM12.out.trans hm (fun _ _ h => h))
  have HM3 := Lib.hid (HM2.out.trans hm (fun _ _ h => h))
  have hz3 := hm.size
  have HB3 := Lib.hid (HB2.out.keep hm)
  have HY3 := Lib.hid (HY2.out.keep hm)
  have Kx3 := Lib.hid (Kx2.out.keep hm)
  have Ay3 := Lib.hid (Ay2.out.keep hm)
  clear hm HM12 c0 c1 c2 c3 c4 c5 y0 y1 y2 y3 y4 y5 y6
  obtain ⟨c0, c1, c2, c3, c4, c5⟩ : w3.cell? ⟨w.heap.size, 0, none⟩ = some (.int .i64 x.id) ∧ w3.cell? ⟨w.heap.size, 1, none⟩ = some (.int .i64 x.st) ∧ w3.cell? ⟨w.heap.size, 2, none⟩ = some (.int .i64 x.f) ∧ w3.cell? ⟨w.heap.size, 3, none⟩ = some (.int .i64 x.l) ∧ w3.cell? ⟨w.heap.size, 4, none⟩ = some (.slice x.A x.n x.c) ∧ w3.cell? ⟨w.heap.size, 5, none⟩ = some (.slice x.B x.m x.d) := HB3.out.cells
  obtain ⟨y0, y1, y2, y3, y4, y5, y6⟩ : w3.cell? ⟨w.heap.size + 1, 0, none⟩ = some (.int .i64 y.lsn) ∧ w3.cell? ⟨w.heap.size + 1, 1, none⟩ = some (.int .i64 y.page) ∧ w3.cell? ⟨w.heap.size + 1, 2, none⟩ = some (.int .i64 y.key) ∧ w3.cell? ⟨w.heap.size + 1, 3, none⟩ = some (.bool y.o.is) ∧ w3.cell? ⟨w.heap.size + 1, 4, none⟩ = some (.slice y.o.B y.o.m y.o.d) ∧ w3.cell? ⟨w.heap.size + 1, 5, none⟩ = some (.bool y.v.is) ∧ w3.cell? ⟨w.heap.size + 1, 6, none⟩ = some (.slice y.v.B y.v.m y.v.d) := HY3.out.cells
  go_wp2_with fail
  refine (HMy.out _ HM13.out).mono ?_
  rintro e w4 ⟨rfl, hm⟩
  have HM4 := Lib.hid (HM3.out.trans hm (fun _ _ h => h))
  have hz4 := hm.size
  have HB4 := Lib.hid (HB3.out.keep hm)
  have HY4 := Lib.hid (HY3.out.keep hm)
  have Kx4 := Lib.hid (Kx3.out.keep hm)
  have Ay4 := Lib.hid (Ay3.out.keep hm)
  clear hm HM13 c0 c1 c2 c3 c4 c5 y0 y1 y2 y3 y4 y5 y6
  obtain ⟨c0, c1, c2, c3, c4, c5⟩ : w4.cell? ⟨w.heap.size, 0, none⟩ = some (.int .i64 x.id) ∧ w4.cell? ⟨w.heap.size, 1, none⟩ = some (.int .i64 x.st) ∧ w4.cell? ⟨w.heap.size, 2, none⟩ = some (.int .i64 x.f) ∧ w4.cell? ⟨w.heap.size, 3, none⟩ = some (.int .i64 x.l) ∧ w4.cell? ⟨w.heap.size, 4, none⟩ = some (.slice x.A x.n x.c) ∧ w4.cell? ⟨w.heap.size, 5, none⟩ = some (.slice x.B x.m x.d) := HB4.out.cells
  obtain ⟨y0, y1, y2, y3, y4, y5, y6⟩ : w4.cell? ⟨w.heap.size + 1, 0, none⟩ = some (.int .i64 y.lsn) ∧ w4.cell? ⟨w.heap.size + 1, 1, none⟩ = some (.int .i64 y.page) ∧ w4.cell? ⟨w.heap.size + 1, 2, none⟩ = some (.int .i64 y.key) ∧ w4.cell? ⟨w.heap.size + 1, 3, none⟩ = some (.bool y.o.is) ∧ w4.cell? ⟨w.heap.size + 1, 4, none⟩ = some (.slice y.o.B y.o.m y.o.d) ∧ w4.cell? ⟨w.heap.size + 1, 5, none⟩ = some (.bool y.v.is) ∧ w4.cell? ⟨w.heap.size + 1, 6, none⟩ = some (.slice y.v.B y.v.m y.v.d) := HY4.out.cells
  obtain ⟨si, hsi⟩ : ∃ si, (if saveE x.p = 0 then (x.m : Int) else 0) = si := ⟨_, rfl⟩
  have Hsi := Lib.hid hsi
  clear hsi
  by_cases hE : saveE x.p = 0
  · have HE := Lib.hid hE
    clear hE
    go_wp2_with fail
    refine ((save_ok w4 x Kx4.out.at_ Hsz.out.1 Hsz.out.2.1).mono (fun e w' h => (SvAns.rs (b0 := w.heap.size) h).at 0 si HE.out (by have := Hsi.out; rw [HE.out] at this; exact this))).mono ?_
    rintro e w5 ⟨su, rfl, hk, hp, hm⟩
    have HM5 := Lib.hid (HM4.out.trans hm (fun _ _ h => h))
    have hz5 := hm.size
    have HB5 := Lib.hid (HB4.out.keep hm)
    have HY5 := Lib.hid (HY4.out.keep hm)
    have Kx5 := Lib.hid (Kx4.out.keep hm)
    have Ay5 := Lib.hid (Ay4.out.keep hm)
    clear hm
    have Ksu5 := Lib.hid hk
    have Psu := Lib.hid hp
    clear hk hp
    clear c0 c1 c2 c3 c4 c5 y0 y1 y2 y3 y4 y5 y6
    have Psu2 : Hid (su.p = saveT x.p) := by show _ = _; have := Psu.out; rwa [if_pos rfl] at this
    obtain ⟨w6, hw6⟩ : ∃ w6, w5.alloc (.cells #[.int .i64 su.id, .int .i64 su.st, .int .i64 su.f, .int .i64 su.l, .slice su.A su.n su.c, .slice su.B su.m su.d] 25) = w6 := ⟨_, rfl⟩
    have ha6 : Mod (fun _ => False) w5 w6 := by rw [← hw6]; exact (Mod.refl _ w5).alloc _
    have hz6 : w5.heap.size + 1 ≤ w6.heap.size := by rw [← hw6]; simp
    have HBU6 : Hid ((su : TxD).In w6 w5.heap.size) := by rw [← hw6]; exact TxD.In.new w5 su
    have HM6 := Lib.hid (HM5.out.trans ha6 (fun _ _ h => h))
    have HB6 := Lib.hid (HB5.out.keep ha6)
    have HY6 := Lib.hid (HY5.out.keep ha6)
    have Kx6 := Lib.hid (Kx5.out.keep ha6)
    have Ksu6 := Lib.hid (Ksu5.out.keep ha6)
    have Ay6 := Lib.hid (Ay5.out.keep ha6)
    clear ha6
    obtain ⟨c0, c1, c2, c3, c4, c5⟩ : w6.cell? ⟨w.heap.size, 0, none⟩ = some (.int .i64 x.id) ∧ w6.cell? ⟨w.heap.size, 1, none⟩ = some (.int .i64 x.st) ∧ w6.cell? ⟨w.heap.size, 2, none⟩ = some (.int .i64 x.f) ∧ w6.cell? ⟨w.heap.size, 3, none⟩ = some (.int .i64 x.l) ∧ w6.cell? ⟨w.heap.size, 4, none⟩ = some (.slice x.A x.n x.c) ∧ w6.cell? ⟨w.heap.size, 5, none⟩ = some (.slice x.B x.m x.d) := HB6.out.cells
    go_wp2_with fail
    refine ((save_ok w6 x Kx6.out.at_ Hsz.out.1 Hsz.out.2.1).mono (fun e w' h => (SvAns.rs (b0 := w.heap.size) h).at 0 si HE.out (by have := Hsi.out; rw [HE.out] at this; exact this))).mono ?_
    rintro e w7 ⟨sw, rfl, hk, hp, hm⟩
    have HM7 := Lib.hid (HM6.out.trans hm (fun _ _ h => h))
    have hz7 := hm.size
    have HB7 := Lib.hid (HB6.out.keep hm)
    have HY7 := Lib.hid (HY6.out.keep hm)
    have HBU7 := Lib.hid (HBU6.out.keep hm)
    have Kx7 := Lib.hid (Kx6.out.keep hm)
    have Ksu7 := Lib.hid (Ksu6.out.keep hm)
    have Ay7 := Lib.hid (Ay6.out.keep hm)
    clear hm
    have Ksw7 := Lib.hid hk
    have Psw := Lib.hid hp
    clear hk hp
    clear c0 c1 c2 c3 c4 c5 hw6
    have Psw2 : Hid (sw.p = saveT x.p) := by show _ = _; have := Psw.out; rwa [if_pos rfl] at this
    clear Psu Psw
    obtain ⟨w8, hw8⟩ : ∃ w8, w7.alloc (.cells #[.int .i64 sw.id, .int .i64 sw.st, .int .i64 sw.f, .int .i64 sw.l, .slice sw.A sw.n sw.c, .slice sw.B sw.m sw.d] 25) = w8 := ⟨_, rfl⟩
    have ha8 : Mod (fun _ => False) w7 w8 := by rw [← hw8]; exact (Mod.refl _ w7).alloc _
    have hz8 : w7.heap.size + 1 ≤ w8.heap.size := by rw [← hw8]; simp
    have HBW8 : Hid ((sw : TxD).In w8 w7.heap.size) := by rw [← hw8]; exact TxD.In.new w7 sw
    have HM8 := Lib.hid (HM7.out.trans ha8 (fun _ _ h => h))
    have HB8 := Lib.hid (HB7.out.keep ha8)
    have HY8 := Lib.hid (HY7.out.keep ha8)
    have HBU8 := Lib.hid (HBU7.out.keep ha8)
    have Kx8 := Lib.hid (Kx7.out.keep ha8)
    have Ksu8 := Lib.hid (Ksu7.out.keep ha8)
    have Ksw8 := Lib.hid (Ksw7.out.keep ha8)
    have Ay8 := Lib.hid (Ay7.out.keep ha8)
    clear ha8
    obtain ⟨c0, c1, c2, c3, c4, c5⟩ : w8.cell? ⟨w5.heap.size, 0, none⟩ = some (.int .i64 su.id) ∧ w8.cell? ⟨w5.heap.size, 1, none⟩ = some (.int .i64 su.st) ∧ w8.cell? ⟨w5.heap.size, 2, none⟩ = some (.int .i64 su.f) ∧ w8.cell? ⟨w5.heap.size, 3, none⟩ = some (.int .i64 su.l) ∧ w8.cell? ⟨w5.heap.size, 4, none⟩ = some (.slice su.A su.n su.c) ∧ w8.cell? ⟨w5.heap.size, 5, none⟩ = some (.slice su.B su.m su.d) := HBU8.out.cells
    obtain ⟨y0, y1, y2, y3, y4, y5, y6⟩ : w8.cell? ⟨w.heap.size + 1, 0, none⟩ = some (.int .i64 y.lsn) ∧ w8.cell? ⟨w.heap.size + 1, 1, none⟩ = some (.int .i64 y.page) ∧ w8.cell? ⟨w.heap.size + 1, 2, none⟩ = some (.int .i64 y.key) ∧ w8.cell? ⟨w.heap.size + 1, 3, none⟩ = some (.bool y.o.is) ∧ w8.cell? ⟨w.heap.size + 1, 4, none⟩ = some (.slice y.o.B y.o.m y.o.d) ∧ w8.cell? ⟨w.heap.size + 1, 5, none⟩ = some (.bool y.v.is) ∧ w8.cell? ⟨w.heap.size + 1, 6, none⟩ = some (.slice y.v.B y.v.m y.v.d) := HY8.out.cells
    have Hsu : Hid (SmT su.p) := by show SmT _; rw [Psu2.out]; exact SmT.save HE.out
    have Hsn := Lib.hid (Ksu8.out.at_.sm Hsu.out)
    by_cases hF : noteE su.p y.p = 0
    · have HF := Lib.hid hF
      clear hF
      go_wp2_with fail
      refine ((note_ok w8 su y Ksu8.out.at_ Ay8.out Hsn.out.1 Hsn.out.2.1).mono (fun e w' h => (NwAns.rn (b0 := w.heap.size) h).at 0 HF.out)).mono ?_
      rintro e w9 ⟨a, rfl, hk, hp, hm⟩
      have HM9 := Lib.hid (HM8.out.trans hm (fun _ _ h => h))
      have hz9 := hm.size
      have HB9 := Lib.hid (HB8.out.keep hm)
      have HY9 := Lib.hid (HY8.out.keep hm)
      have HBU9 := Lib.hid (HBU8.out.keep hm)
      have HBW9 := Lib.hid (HBW8.out.keep hm)
      have Kx9 := Lib.hid (Kx8.out.keep hm)
      have Ksu9 := Lib.hid (Ksu8.out.keep hm)
      have Ksw9 := Lib.hid (Ksw8.out.keep hm)
      have Ay9 := Lib.hid (Ay8.out.keep hm)
      clear hm
      have Ka9 := Lib.hid hk
      have Pa := Lib.hid hp
      clear hk hp
      clear c0 c1 c2 c3 c4 c5 y0 y1 y2 y3 y4 y5 y6 hw8
      have Pa2 : Hid (a.p = noteT su.p y.p) := by show _ = _; have := Pa.out; rwa [if_pos rfl] at this
      clear Pa
      obtain ⟨w10, hw10⟩ : ∃ w10, w9.alloc (.cells #[.int .i64 a.id, .int .i64 a.st, .int .i64 a.f, .int .i64 a.l, .slice a.A a.n a.c, .slice a.B a.m a.d] 25) = w10 := ⟨_, rfl⟩
      have ha10 : Mod (fun _ => False) w9 w10 := by rw [← hw10]; exact (Mod.refl _ w9).alloc _
      have hz10 : w9.heap.size + 1 ≤ w10.heap.size := by rw [← hw10]; simp
      have HBA10 : Hid ((a : TxD).In w10 w9.heap.size) := by rw [← hw10]; exact TxD.In.new w9 a
      have HM10 := Lib.hid (HM9.out.trans ha10 (fun _ _ h => h))
      have HB10 := Lib.hid (HB9.out.keep ha10)
      have HY10 := Lib.hid (HY9.out.keep ha10)
      have HBU10 := Lib.hid (HBU9.out.keep ha10)
      have HBW10 := Lib.hid (HBW9.out.keep ha10)
      have Kx10 := Lib.hid (Kx9.out.keep ha10)
      have Ksu10 := Lib.hid (Ksu9.out.keep ha10)
      have Ksw10 := Lib.hid (Ksw9.out.keep ha10)
      have Ka10 := Lib.hid (Ka9.out.keep ha10)
      have Ay10 := Lib.hid (Ay9.out.keep ha10)
      clear ha10
      have Han := Lib.hid (Ka10.out.at_.sm (by rw [Pa2.out]; exact SmT.note HF.out))
      obtain ⟨c0, c1, c2, c3, c4, c5⟩ : w10.cell? ⟨w9.heap.size, 0, none⟩ = some (.int .i64 a.id) ∧ w10.cell? ⟨w9.heap.size, 1, none⟩ = some (.int .i64 a.st) ∧ w10.cell? ⟨w9.heap.size, 2, none⟩ = some (.int .i64 a.f) ∧ w10.cell? ⟨w9.heap.size, 3, none⟩ = some (.int .i64 a.l) ∧ w10.cell? ⟨w9.heap.size, 4, none⟩ = some (.slice a.A a.n a.c) ∧ w10.cell? ⟨w9.heap.size, 5, none⟩ = some (.slice a.B a.m a.d) := HBA10.out.cells
      go_wp2_with fail
      refine ((undo_ok w10 a Ka10.out.at_ Han.out.1 Han.out.2.1).mono (fun e w' h => UnAns.ru (b0 := w.heap.size) h)).mono ?_
      rintro e w11 ⟨b, bc, rfl, hk, ha, hp, hpc, hm⟩
      have HM11 := Lib.hid (HM10.out.trans hm (fun _ _ h => h))
      have hz11 := hm.size
      have HB11 := Lib.hid (HB10.out.keep hm)
      have HY11 := Lib.hid (HY10.out.keep hm)
      have HBU11 := Lib.hid (HBU10.out.keep hm)
      have HBW11 := Lib.hid (HBW10.out.keep hm)
      have HBA11 := Lib.hid (HBA10.out.keep hm)
      have Kx11 := Lib.hid (Kx10.out.keep hm)
      have Ksu11 := Lib.hid (Ksu10.out.keep hm)
      have Ksw11 := Lib.hid (Ksw10.out.keep hm)
      have Ka11 := Lib.hid (Ka10.out.keep hm)
      have Ay11 := Lib.hid (Ay10.out.keep hm)
      clear hm
      have Kb11 := Lib.hid hk
      have Pb := Lib.hid hp
      clear hk hp
      have Abc11 := Lib.hid ha
      have Pbc := Lib.hid hpc
      clear ha hpc c0 c1 c2 c3 c4 c5 hw10
      have Hbn := Lib.hid (Kb11.out.at_.sm (by rw [Pb.out]; exact SmT.ite (fun h => SmT.undo h)))
      clear Pb Pbc
      obtain ⟨w12, hw12⟩ : ∃ w12, w11.alloc (.cells #[.int .i64 0, .int .i64 0, .int .i64 0, .int .i64 0, .slice none 0 0, .slice none 0 0] 25) = w12 := ⟨_, rfl⟩
      have ha : Mod (fun _ => False) w11 w12 := by rw [← hw12]; exact (Mod.refl _ _).alloc _
      have hz12 : w11.heap.size + 1 ≤ w12.heap.size := by rw [← hw12]; simp
      have hT0 : TxD.zero.In w12 w11.heap.size := by rw [← hw12]; exact TxD.In.new w11 TxD.zero
      obtain ⟨w13, hw13⟩ : ∃ w13, w12.alloc (.cells #[.int .i64 0, .int .i64 0, .int .i64 0, .bool false, .slice none 0 0, .bool false, .slice none 0 0] 30) = w13 := ⟨_, rfl⟩
      have hb : Mod (fun _ => False) w12 w13 := by rw [← hw13]; exact (Mod.refl _ _).alloc _
      have hz13 : w12.heap.size + 1 ≤ w13.heap.size := by rw [← hw13]; simp
      have hC0 : ChD.zero.In w13 w12.heap.size := by rw [← hw13]; exact ChD.In.new w12 ChD.zero
      have hT1 := hT0.keep hb
      have vg0 := hT1.fz 0
      have vg1 := hT1.fz 1
      have vg2 := hT1.fz 2
      have vg3 := hT1.fz 3
      have vg4 := hT1.fz 4
      have vg5 := hT1.fz 5
      obtain ⟨vr0, vr1, vr2, vr3, vr4, vr5⟩ : w13.cell? ⟨w11.heap.size, 0, none⟩ = some (.int .i64 0) ∧ w13.cell? ⟨w11.heap.size, 1, none⟩ = some (.int .i64 0) ∧ w13.cell? ⟨w11.heap.size, 2, none⟩ = some (.int .i64 0) ∧ w13.cell? ⟨w11.heap.size, 3, none⟩ = some (.int .i64 0) ∧ w13.cell? ⟨w11.heap.size, 4, none⟩ = some (.slice none 0 0) ∧ w13.cell? ⟨w11.heap.size, 5, none⟩ = some (.slice none 0 0) := hT1.cells
      obtain ⟨w14, hw14⟩ : ∃ w14, (((((w13.setCell ⟨w11.heap.size, 0, none⟩ (.int .i64 b.id)).setCell ⟨w11.heap.size, 1, none⟩ (.int .i64 b.st)).setCell ⟨w11.heap.size, 2, none⟩ (.int .i64 b.f)).setCell ⟨w11.heap.size, 3, none⟩ (.int .i64 b.l)).setCell ⟨w11.heap.size, 4, none⟩ (.slice b.A b.n b.c)).setCell ⟨w11.heap.size, 5, none⟩ (.slice b.B b.m b.d) = w14 := ⟨_, rfl⟩
      have hq : stT w13 (w11.heap.size) b = w14 := hw14
      have hc : Mod (fun k => k = w11.heap.size) w13 w14 := by rw [← hq]; exact stT_mod _ _ b
      have hz14 := hc.size
      have hT2 : (b : TxD).In w14 (w11.heap.size) := by rw [← hq]; exact hT1.set b
      clear hq
      have hC1 := hC0.mod hc (fun e => by omega)
      have vk0 := hC1.fz 0
      have vk1 := hC1.fz 1
      have vk2 := hC1.fz 2
      have vk3 := hC1.fz 3
      have vk4 := hC1.fz 4
      have vk5 := hC1.fz 5
      have vk6 := hC1.fz 6
      obtain ⟨vs0, vs1, vs2, vs3, vs4, vs5, vs6⟩ : w14.cell? ⟨w12.heap.size, 0, none⟩ = some (.int .i64 0) ∧ w14.cell? ⟨w12.heap.size, 1, none⟩ = some (.int .i64 0) ∧ w14.cell? ⟨w12.heap.size, 2, none⟩ = some (.int .i64 0) ∧ w14.cell? ⟨w12.heap.size, 3, none⟩ = some (.bool false) ∧ w14.cell? ⟨w12.heap.size, 4, none⟩ = some (.slice none 0 0) ∧ w14.cell? ⟨w12.heap.size, 5, none⟩ = some (.bool false) ∧ w14.cell? ⟨w12.heap.size, 6, none⟩ = some (.slice none 0 0) := hC1.cells
      obtain ⟨w15, hw15⟩ : ∃ w15, ((((((w14.setCell ⟨w12.heap.size, 0, none⟩ (.int .i64 bc.lsn)).setCell ⟨w12.heap.size, 1, none⟩ (.int .i64 bc.page)).setCell ⟨w12.heap.size, 2, none⟩ (.int .i64 bc.key)).setCell ⟨w12.heap.size, 3, none⟩ (.bool bc.o.is)).setCell ⟨w12.heap.size, 4, none⟩ (.slice bc.o.B bc.o.m bc.o.d)).setCell ⟨w12.heap.size, 5, none⟩ (.bool bc.v.is)).setCell ⟨w12.heap.size, 6, none⟩ (.slice bc.v.B bc.v.m bc.v.d) = w15 := ⟨_, rfl⟩
      have hq : stC w14 (w12.heap.size) 0 bc = w15 := hw15
      have hd : Mod (fun k => k = w12.heap.size) w14 w15 := by rw [← hq]; exact stC_mod _ _ 0 bc
      have hz15 := hd.size
      have HBC15 : Hid ((bc : ChD).In w15 (w12.heap.size)) := by rw [← hq]; exact hC1.set bc
      clear hq
      have HBB15 : Hid ((b : TxD).In w15 (w11.heap.size)) := hT2.mod hd (fun e => by omega)
      have hm0 : Mod (fun _ => False) w11 w15 := ((ha.trans hb (fun _ _ h => h)).trans hc (fun k hk e => by omega)).trans hd (fun k hk e => by omega)
      have HM15 := Lib.hid (HM11.out.trans hm0 (fun _ _ h => h))
      have HB15 := Lib.hid (HB11.out.keep hm0)
      have HY15 := Lib.hid (HY11.out.keep hm0)
      have HBU15 := Lib.hid (HBU11.out.keep hm0)
      have HBW15 := Lib.hid (HBW11.out.keep hm0)
      have HBA15 := Lib.hid (HBA11.out.keep hm0)
      have Kx15 := Lib.hid (Kx11.out.keep hm0)
      have Ksu15 := Lib.hid (Ksu11.out.keep hm0)
      have Ksw15 := Lib.hid (Ksw11.out.keep hm0)
      have Ka15 := Lib.hid (Ka11.out.keep hm0)
      have Kb15 := Lib.hid (Kb11.out.keep hm0)
      have Ay15 := Lib.hid (Ay11.out.keep hm0)
      have Abc15 := Lib.hid (Abc11.out.keep hm0)
      clear ha hb hc hd hT0 hT1 hT2 hC0 hC1 hm0
      obtain ⟨c0, c1, c2, c3, c4, c5⟩ : w15.cell? ⟨w11.heap.size, 0, none⟩ = some (.int .i64 b.id) ∧ w15.cell? ⟨w11.heap.size, 1, none⟩ = some (.int .i64 b.st) ∧ w15.cell? ⟨w11.heap.size, 2, none⟩ = some (.int .i64 b.f) ∧ w15.cell? ⟨w11.heap.size, 3, none⟩ = some (.int .i64 b.l) ∧ w15.cell? ⟨w11.heap.size, 4, none⟩ = some (.slice b.A b.n b.c) ∧ w15.cell? ⟨w11.heap.size, 5, none⟩ = some (.slice b.B b.m b.d) := HBB15.out.cells
      obtain ⟨y0, y1, y2, y3, y4, y5, y6⟩ : w15.cell? ⟨w.heap.size + 1, 0, none⟩ = some (.int .i64 y.lsn) ∧ w15.cell? ⟨w.heap.size + 1, 1, none⟩ = some (.int .i64 y.page) ∧ w15.cell? ⟨w.heap.size + 1, 2, none⟩ = some (.int .i64 y.key) ∧ w15.cell? ⟨w.heap.size + 1, 3, none⟩ = some (.bool y.o.is) ∧ w15.cell? ⟨w.heap.size + 1, 4, none⟩ = some (.slice y.o.B y.o.m y.o.d) ∧ w15.cell? ⟨w.heap.size + 1, 5, none⟩ = some (.bool y.v.is) ∧ w15.cell? ⟨w.heap.size + 1, 6, none⟩ = some (.slice y.v.B y.v.m y.v.d) := HY15.out.cells
      go_wp2_with fail
      refine ((note_ok w15 b ⟨y.lsn, 0, 9, VlD.none, VlD.none⟩ Kb15.out.at_ ⟨VlD.none_at _, VlD.none_at _⟩ Hbn.out.1 Hbn.out.2.1).mono (fun e w' h => NwAns.rn (b0 := w.heap.size) h)).mono ?_
      rintro e w16 ⟨dd, rfl, hk, hp, hm⟩
      have HM16 := Lib.hid (HM15.out.trans hm (fun _ _ h => h))
      have hz16 := hm.size
      have HB16 := Lib.hid (HB15.out.keep hm)
      have HY16 := Lib.hid (HY15.out.keep hm)
      have HBU16 := Lib.hid (HBU15.out.keep hm)
      have HBW16 := Lib.hid (HBW15.out.keep hm)
      have HBA16 := Lib.hid (HBA15.out.keep hm)
      have HBB16 := Lib.hid (HBB15.out.keep hm)
      have HBC16 := Lib.hid (HBC15.out.keep hm)
      have Kx16 := Lib.hid (Kx15.out.keep hm)
      have Ksu16 := Lib.hid (Ksu15.out.keep hm)
      have Ksw16 := Lib.hid (Ksw15.out.keep hm)
      have Ka16 := Lib.hid (Ka15.out.keep hm)
      have Kb16 := Lib.hid (Kb15.out.keep hm)
      have Ay16 := Lib.hid (Ay15.out.keep hm)
      have Abc16 := Lib.hid (Abc15.out.keep hm)
      clear hm
      have Kdd16 := Lib.hid hk
      have Pdd := Lib.hid hp
      clear hk hp
      clear c0 c1 c2 c3 c4 c5 y0 y1 y2 y3 y4 y5 y6 vg0 vg1 vg2 vg3 vg4 vg5 vr0 vr1 vr2 vr3 vr4 vr5 vk0 vk1 vk2 vk3 vk4 vk5 vk6 vs0 vs1 vs2 vs3 vs4 vs5 vs6 hw12 hw13 hw14 hw15
      obtain ⟨w17, hw17⟩ : ∃ w17, w16.alloc (.cells #[.int .i64 dd.id, .int .i64 dd.st, .int .i64 dd.f, .int .i64 dd.l, .slice dd.A dd.n dd.c, .slice dd.B dd.m dd.d] 25) = w17 := ⟨_, rfl⟩
      have ha17 : Mod (fun _ => False) w16 w17 := by rw [← hw17]; exact (Mod.refl _ w16).alloc _
      have hz17 : w16.heap.size + 1 ≤ w17.heap.size := by rw [← hw17]; simp
      have HBD17 : Hid ((dd : TxD).In w17 w16.heap.size) := by rw [← hw17]; exact TxD.In.new w16 dd
      have HM17 := Lib.hid (HM16.out.trans ha17 (fun _ _ h => h))
      have HB17 := Lib.hid (HB16.out.keep ha17)
      have HY17 := Lib.hid (HY16.out.keep ha17)
      have HBU17 := Lib.hid (HBU16.out.keep ha17)
      have HBW17 := Lib.hid (HBW16.out.keep ha17)
      have HBA17 := Lib.hid (HBA16.out.keep ha17)
      have HBB17 := Lib.hid (HBB16.out.keep ha17)
      have HBC17 := Lib.hid (HBC16.out.keep ha17)
      have Kx17 := Lib.hid (Kx16.out.keep ha17)
      have Ksu17 := Lib.hid (Ksu16.out.keep ha17)
      have Ksw17 := Lib.hid (Ksw16.out.keep ha17)
      have Ka17 := Lib.hid (Ka16.out.keep ha17)
      have Kb17 := Lib.hid (Kb16.out.keep ha17)
      have Kdd17 := Lib.hid (Kdd16.out.keep ha17)
      have Ay17 := Lib.hid (Ay16.out.keep ha17)
      have Abc17 := Lib.hid (Abc16.out.keep ha17)
      clear ha17
      obtain ⟨ha0, u, hu, hup⟩ := last_of Ka17.out.at_ (L := su.p.L) (c := y.p) (by rw [Pa2.out]; rfl)
      obtain ⟨bA, oA, hA, hcs⟩ := Ka17.out.at_.L.cells ha0
      have hcu := hcs _ u hu
      have HK := Lib.hid (fun V (hV : Mod (fun _ => False) w17 V) => kchanges ((Ka17.out.keep hV).at_.L.ats u (List.mem_of_getElem? hu)) (Ay17.out.keep hV) hup.symm (by rw [hup]; exact Hs2.out))
      have HSt : Hid (∀ V, Mod (fun _ => False) w17 V → V.cell? ⟨w9.heap.size, 4, none⟩ = some (.slice (some ⟨bA, oA, none⟩) a.n a.c) ∧ (V.cell? ⟨bA, oA + (a.n - 1) * 7, none⟩ = some (.int .i64 u.lsn) ∧ V.cell? ⟨bA, oA + (a.n - 1) * 7 + 1, none⟩ = some (.int .i64 u.page) ∧ V.cell? ⟨bA, oA + (a.n - 1) * 7 + 2, none⟩ = some (.int .i64 u.key) ∧ V.cell? ⟨bA, oA + (a.n - 1) * 7 + 3, none⟩ = some (.bool u.o.is) ∧ V.cell? ⟨bA, oA + (a.n - 1) * 7 + 4, none⟩ = some (.slice u.o.B u.o.m u.o.d) ∧ V.cell? ⟨bA, oA + (a.n - 1) * 7 + 5, none⟩ = some (.bool u.v.is) ∧ V.cell? ⟨bA, oA + (a.n - 1) * 7 + 6, none⟩ = some (.slice u.v.B u.v.m u.v.d)) ∧ (V.cell? ⟨w.heap.size + 1, 0, none⟩ = some (.int .i64 y.lsn) ∧ V.cell? ⟨w.heap.size + 1, 1, none⟩ = some (.int .i64 y.page) ∧ V.cell? ⟨w.heap.size + 1, 2, none⟩ = some (.int .i64 y.key) ∧ V.cell? ⟨w.heap.size + 1, 3, none⟩ = some (.bool y.o.is) ∧ V.cell? ⟨w.heap.size + 1, 4, none⟩ = some (.slice y.o.B y.o.m y.o.d) ∧ V.cell? ⟨w.heap.size + 1, 5, none⟩ = some (.bool y.v.is) ∧ V.cell? ⟨w.heap.size + 1, 6, none⟩ = some (.slice y.v.B y.v.m y.v.d))) := fun V hV => by
        have q1 := (HBA17.out.keep hV).cells.2.2.2.2.1
        rw [hA] at q1
        have q3 := hcu.keep (hV.block bA hcu.lt (fun h => h))
        exact ⟨q1, ⟨q3.c0, q3.c1, q3.c2, q3.c3, q3.c4, q3.c5, q3.c6⟩, (HY17.out.keep hV).cells⟩
      have HD : Hid (Mod (fun _ => False) w17 w17.drew) := (Mod.refl _ w17).drew
      have ha1 := Han.out.1
      have e1 : IntKind.i64.wrap ((a.n - 1 : Nat) : Int) = ((a.n - 1 : Nat) : Int) := by rw [IntKind.wrap_i64]; omega
      have e2 : (a.n : Int) - 1 = ((a.n - 1 : Nat) : Int) := by omega
      have l1 : a.n - 1 < a.n := by omega
      clear hA hcs hcu hu hup
      go_wp2_with fail
      refine wp_region_held (S := (fun V : World => V.cell? ⟨w9.heap.size, 4, none⟩ = some (.slice (some ⟨bA, oA, none⟩) a.n a.c) ∧ (V.cell? ⟨bA, oA + (a.n - 1) * 7, none⟩ = some (.int .i64 u.lsn) ∧ V.cell? ⟨bA, oA + (a.n - 1) * 7 + 1, none⟩ = some (.int .i64 u.page) ∧ V.cell? ⟨bA, oA + (a.n - 1) * 7 + 2, none⟩ = some (.int .i64 u.key) ∧ V.cell? ⟨bA, oA + (a.n - 1) * 7 + 3, none⟩ = some (.bool u.o.is) ∧ V.cell? ⟨bA, oA + (a.n - 1) * 7 + 4, none⟩ = some (.slice u.o.B u.o.m u.o.d) ∧ V.cell? ⟨bA, oA + (a.n - 1) * 7 + 5, none⟩ = some (.bool u.v.is) ∧ V.cell? ⟨bA, oA + (a.n - 1) * 7 + 6, none⟩ = some (.slice u.v.B u.v.m u.v.d)) ∧ (V.cell? ⟨w.heap.size + 1, 0, none⟩ = some (.int .i64 y.lsn) ∧ V.cell? ⟨w.heap.size + 1, 1, none⟩ = some (.int .i64 y.page) ∧ V.cell? ⟨w.heap.size + 1, 2, none⟩ = some (.int .i64 y.key) ∧ V.cell? ⟨w.heap.size + 1, 3, none⟩ = some (.bool y.o.is) ∧ V.cell? ⟨w.heap.size + 1, 4, none⟩ = some (.slice y.o.B y.o.m y.o.d) ∧ V.cell? ⟨w.heap.size + 1, 5, none⟩ = some (.bool y.v.is) ∧ V.cell? ⟨w.heap.size + 1, 6, none⟩ = some (.slice y.v.B y.v.m y.v.d)))) (by kernel_rfl) ?_
      have hI := (show (fun V : World => V.cell? ⟨w9.heap.size, 4, none⟩ = some (.slice (some ⟨bA, oA, none⟩) a.n a.c) ∧ (V.cell? ⟨bA, oA + (a.n - 1) * 7, none⟩ = some (.int .i64 u.lsn) ∧ V.cell? ⟨bA, oA + (a.n - 1) * 7 + 1, none⟩ = some (.int .i64 u.page) ∧ V.cell? ⟨bA, oA + (a.n - 1) * 7 + 2, none⟩ = some (.int .i64 u.key) ∧ V.cell? ⟨bA, oA + (a.n - 1) * 7 + 3, none⟩ = some (.bool u.o.is) ∧ V.cell? ⟨bA, oA + (a.n - 1) * 7 + 4, none⟩ = some (.slice u.o.B u.o.m u.o.d) ∧ V.cell? ⟨bA, oA + (a.n - 1) * 7 + 5, none⟩ = some (.bool u.v.is) ∧ V.cell? ⟨bA, oA + (a.n - 1) * 7 + 6, none⟩ = some (.slice u.v.B u.v.m u.v.d)) ∧ (V.cell? ⟨w.heap.size + 1, 0, none⟩ = some (.int .i64 y.lsn) ∧ V.cell? ⟨w.heap.size + 1, 1, none⟩ = some (.int .i64 y.page) ∧ V.cell? ⟨w.heap.size + 1, 2, none⟩ = some (.int .i64 y.key) ∧ V.cell? ⟨w.heap.size + 1, 3, none⟩ = some (.bool y.o.is) ∧ V.cell? ⟨w.heap.size + 1, 4, none⟩ = some (.slice y.o.B y.o.m y.o.d) ∧ V.cell? ⟨w.heap.size + 1, 5, none⟩ = some (.bool y.v.is) ∧ V.cell? ⟨w.heap.size + 1, 6, none⟩ = some (.slice y.v.B y.v.m y.v.d))) _ from HSt.out _ HD.out)
      refine rg_take (n := 10) (v := ?_) 0 (some 76) rfl rfl (by kernel_rfl) (by kernel_rfl) (by kernel_rfl) (fun _ _ _ h => h) (by rfl) hI ?_ ?_
      rotate_left
      · ((intro w hSw; (try dsimp only at hSw); go_simp); (try with_reducible rfl))
      try simp only [Act.put, List.setIfInBounds_toArray, List.set_cons_zero, List.set_cons_succ]
      refine rg_take (n := 9) (v := ?_) 1 (some 77) rfl rfl (by kernel_rfl) (by kernel_rfl) (by kernel_rfl) (fun _ _ _ h => h) (by rfl) hI ?_ ?_
      rotate_left
      · ((intro w hSw; (try dsimp only at hSw); go_simp); (try with_reducible rfl))
      try simp only [Act.put, List.setIfInBounds_toArray, List.set_cons_zero, List.set_cons_succ]
      refine rg_take (n := 8) (v := ?_) 2 (some 78) rfl rfl (by kernel_rfl) (by kernel_rfl) (by kernel_rfl) (fun _ _ _ h => h) (by rfl) hI ?_ ?_
      rotate_left
      · ((intro w hSw; (try dsimp only at hSw); go_simp); (try with_reducible rfl))
      try simp only [Act.put, List.setIfInBounds_toArray, List.set_cons_zero, List.set_cons_succ]
      refine rg_take (n := 7) (v := ?_) 3 (some 79) rfl rfl (by kernel_rfl) (by kernel_rfl) (by kernel_rfl) (fun _ _ _ h => h) (by rfl) hI ?_ ?_
      rotate_left
      · ((intro w hSw; (try dsimp only at hSw); go_simp); (try with_reducible rfl))
      try simp only [Act.put, List.setIfInBounds_toArray, List.set_cons_zero, List.set_cons_succ]
      refine rg_take (n := 6) (v := ?_) 4 (some 80) rfl rfl (by kernel_rfl) (by kernel_rfl) (by kernel_rfl) (fun _ _ _ h => h) (by rfl) hI ?_ ?_
      rotate_left
      · ((intro w hSw; (try dsimp only at hSw); go_simp); (try with_reducible rfl))
      try simp only [Act.put, List.setIfInBounds_toArray, List.set_cons_zero, List.set_cons_succ]
      refine rg_take (n := 5) (v := ?_) 5 (some 81) rfl rfl (by kernel_rfl) (by kernel_rfl) (by kernel_rfl) (fun _ _ _ h => h) (by rfl) hI ?_ ?_
      rotate_left
      · ((intro w hSw; (try dsimp only at hSw); go_simp); (try with_reducible rfl))
      try simp only [Act.put, List.setIfInBounds_toArray, List.set_cons_zero, List.set_cons_succ]
      refine rg_take (n := 4) (v := ?_) 6 (some 82) rfl rfl (by kernel_rfl) (by kernel_rfl) (by kernel_rfl) (fun _ _ _ h => h) (by rfl) hI ?_ ?_
      rotate_left
      · ((intro w hSw; (try dsimp only at hSw); go_simp); (try with_reducible rfl))
      try simp only [Act.put, List.setIfInBounds_toArray, List.set_cons_zero, List.set_cons_succ]
      refine rg_take (n := 3) (v := ?_) 7 (some 83) rfl rfl (by kernel_rfl) (by kernel_rfl) (by kernel_rfl) (fun _ _ _ h => h) (by rfl) hI ?_ ?_
      rotate_left
      · ((intro w hSw; (try dsimp only at hSw); go_simp); (try with_reducible rfl))
      try simp only [Act.put, List.setIfInBounds_toArray, List.set_cons_zero, List.set_cons_succ]
      refine rg_take (n := 2) (v := ?_) 8 (some 84) rfl rfl (by kernel_rfl) (by kernel_rfl) (by kernel_rfl) (fun _ _ _ h => h) (by rfl) hI ?_ ?_
      rotate_left
      · ((intro w hSw; (try dsimp only at hSw); go_simp); (try with_reducible rfl))
      try simp only [Act.put, List.setIfInBounds_toArray, List.set_cons_zero, List.set_cons_succ]
      refine rg_one (n := 1) 9 rfl (by kernel_rfl) (by rfl) ?_
      go_simp
      go_at_call 21
      refine (HK.out _ HD.out).mono ?_
      rintro e w18 ⟨rfl, hm⟩
      have hmv := HD.out.trans hm (fun _ _ h => h)
      have HSn := Lib.hid (HSt.out _ hmv)
      have HM18 := Lib.hid (HM17.out.trans hmv (fun _ _ h => h))
      have hz18 := hmv.size
      have HB18 := Lib.hid (HB17.out.keep hmv)
      have HY18 := Lib.hid (HY17.out.keep hmv)
      have HBU18 := Lib.hid (HBU17.out.keep hmv)
      have HBW18 := Lib.hid (HBW17.out.keep hmv)
      have HBA18 := Lib.hid (HBA17.out.keep hmv)
      have HBB18 := Lib.hid (HBB17.out.keep hmv)
      have HBC18 := Lib.hid (HBC17.out.keep hmv)
      have HBD18 := Lib.hid (HBD17.out.keep hmv)
      have Kx18 := Lib.hid (Kx17.out.keep hmv)
      have Ksu18 := Lib.hid (Ksu17.out.keep hmv)
      have Ksw18 := Lib.hid (Ksw17.out.keep hmv)
      have Ka18 := Lib.hid (Ka17.out.keep hmv)
      have Kb18 := Lib.hid (Kb17.out.keep hmv)
      have Kdd18 := Lib.hid (Kdd17.out.keep hmv)
      have Ay18 := Lib.hid (Ay17.out.keep hmv)
      have Abc18 := Lib.hid (Abc17.out.keep hmv)
      clear hm hmv
      clear hI
      have hI := (show (fun V : World => V.cell? ⟨w9.heap.size, 4, none⟩ = some (.slice (some ⟨bA, oA, none⟩) a.n a.c) ∧ (V.cell? ⟨bA, oA + (a.n - 1) * 7, none⟩ = some (.int .i64 u.lsn) ∧ V.cell? ⟨bA, oA + (a.n - 1) * 7 + 1, none⟩ = some (.int .i64 u.page) ∧ V.cell? ⟨bA, oA + (a.n - 1) * 7 + 2, none⟩ = some (.int .i64 u.key) ∧ V.cell? ⟨bA, oA + (a.n - 1) * 7 + 3, none⟩ = some (.bool u.o.is) ∧ V.cell? ⟨bA, oA + (a.n - 1) * 7 + 4, none⟩ = some (.slice u.o.B u.o.m u.o.d) ∧ V.cell? ⟨bA, oA + (a.n - 1) * 7 + 5, none⟩ = some (.bool u.v.is) ∧ V.cell? ⟨bA, oA + (a.n - 1) * 7 + 6, none⟩ = some (.slice u.v.B u.v.m u.v.d)) ∧ (V.cell? ⟨w.heap.size + 1, 0, none⟩ = some (.int .i64 y.lsn) ∧ V.cell? ⟨w.heap.size + 1, 1, none⟩ = some (.int .i64 y.page) ∧ V.cell? ⟨w.heap.size + 1, 2, none⟩ = some (.int .i64 y.key) ∧ V.cell? ⟨w.heap.size + 1, 3, none⟩ = some (.bool y.o.is) ∧ V.cell? ⟨w.heap.size + 1, 4, none⟩ = some (.slice y.o.B y.o.m y.o.d) ∧ V.cell? ⟨w.heap.size + 1, 5, none⟩ = some (.bool y.v.is) ∧ V.cell? ⟨w.heap.size + 1, 6, none⟩ = some (.slice y.v.B y.v.m y.v.d))) _ from HSn.out)
      refine ⟨hI, ?_⟩
      try simp only [Act.put, List.setIfInBounds_toArray, List.set_cons_zero, List.set_cons_succ]
      refine rg_take (n := 0) (v := ?_) 10 (some 20) rfl rfl (by kernel_rfl) (by kernel_rfl) (by kernel_rfl) (fun _ _ _ h => h) (by rfl) hI ?_ ?_
      rotate_left
      · ((intro w hSw; (try dsimp only at hSw); go_simp); (try with_reducible rfl))
      try simp only [Act.put, List.setIfInBounds_toArray, List.set_cons_zero, List.set_cons_succ]
      refine wpAnyH_done (by kernel_rfl) ?_ _
      clear hI
      clear hw17 e1 e2 l1 ha1 ha0 HSn HSt HK HD
      have Hdn := Lib.hid (Kdd18.out.at_.sm (by rw [Pdd.out]; exact SmT.ite (fun h => SmT.note h)))
      by_cases hG : noteE b.p (⟨y.lsn, 0, 9, VlD.none, VlD.none⟩ : ChD).p = 0
      · rw [if_pos hG] at Pdd
        obtain ⟨ha0, u2, hu, hup⟩ := last_of Kdd18.out.at_ (L := b.p.L) (c := (⟨y.lsn, 0, 9, VlD.none, VlD.none⟩ : ChD).p) (by rw [Pdd.out]; rfl)
        have hkey : u2.key = 9 := congrArg Cp.key hup
        obtain ⟨b2, o2, hA, hcs⟩ := Kdd18.out.at_.L.cells ha0
        have s2 := (hcs _ u2 hu).c2
        rw [hkey] at s2
        have hd1 : ((dd.n : Int) == 0) = false := by simpa using (by omega : ¬ dd.n = 0)
        have ha1 := Hdn.out.1
        have e1 : IntKind.i64.wrap ((dd.n - 1 : Nat) : Int) = ((dd.n - 1 : Nat) : Int) := by rw [IntKind.wrap_i64]; omega
        have e2 : (dd.n : Int) - 1 = ((dd.n - 1 : Nat) : Int) := by omega
        have l1 : dd.n - 1 < dd.n := by omega
        obtain ⟨c0, c1, c2, c3, c4, c5⟩ : w18.cell? ⟨w16.heap.size, 0, none⟩ = some (.int .i64 dd.id) ∧ w18.cell? ⟨w16.heap.size, 1, none⟩ = some (.int .i64 dd.st) ∧ w18.cell? ⟨w16.heap.size, 2, none⟩ = some (.int .i64 dd.f) ∧ w18.cell? ⟨w16.heap.size, 3, none⟩ = some (.int .i64 dd.l) ∧ w18.cell? ⟨w16.heap.size, 4, none⟩ = some (.slice dd.A dd.n dd.c) ∧ w18.cell? ⟨w16.heap.size, 5, none⟩ = some (.slice dd.B dd.m dd.d) := HBD18.out.cells
        rw [hA] at c4
        clear hG hu hup hkey hcs hA
        go_upto_region 17 with fail
        clear s2 e1 e2 c0 c1 c2 c3 c4 c5
        obtain ⟨c0, c1, c2, c3, c4, c5⟩ : w18.cell? ⟨w5.heap.size, 0, none⟩ = some (.int .i64 su.id) ∧ w18.cell? ⟨w5.heap.size, 1, none⟩ = some (.int .i64 su.st) ∧ w18.cell? ⟨w5.heap.size, 2, none⟩ = some (.int .i64 su.f) ∧ w18.cell? ⟨w5.heap.size, 3, none⟩ = some (.int .i64 su.l) ∧ w18.cell? ⟨w5.heap.size, 4, none⟩ = some (.slice su.A su.n su.c) ∧ w18.cell? ⟨w5.heap.size, 5, none⟩ = some (.slice su.B su.m su.d) := HBU18.out.cells
        obtain ⟨d0, d1, d2, d3, d4, d5⟩ : w18.cell? ⟨w7.heap.size, 0, none⟩ = some (.int .i64 sw.id) ∧ w18.cell? ⟨w7.heap.size, 1, none⟩ = some (.int .i64 sw.st) ∧ w18.cell? ⟨w7.heap.size, 2, none⟩ = some (.int .i64 sw.f) ∧ w18.cell? ⟨w7.heap.size, 3, none⟩ = some (.int .i64 sw.l) ∧ w18.cell? ⟨w7.heap.size, 4, none⟩ = some (.slice sw.A sw.n sw.c) ∧ w18.cell? ⟨w7.heap.size, 5, none⟩ = some (.slice sw.B sw.m sw.d) := HBW18.out.cells
        go_wp2_with fail
        refine (ksame Ksu18.out Ksw18.out (by rw [Psw2.out, Psu2.out]) Hsu.out).mono ?_
        rintro e w19 ⟨rfl, hm⟩
        have HM19 := Lib.hid (HM18.out.trans hm (fun _ _ h => h))
        have hz19 := hm.size
        have HB19 := Lib.hid (HB18.out.keep hm)
        have HY19 := Lib.hid (HY18.out.keep hm)
        have HBU19 := Lib.hid (HBU18.out.keep hm)
        have HBW19 := Lib.hid (HBW18.out.keep hm)
        have HBA19 := Lib.hid (HBA18.out.keep hm)
        have HBB19 := Lib.hid (HBB18.out.keep hm)
        have HBC19 := Lib.hid (HBC18.out.keep hm)
        have HBD19 := Lib.hid (HBD18.out.keep hm)
        have Kx19 := Lib.hid (Kx18.out.keep hm)
        have Ksu19 := Lib.hid (Ksu18.out.keep hm)
        have Ksw19 := Lib.hid (Ksw18.out.keep hm)
        have Ka19 := Lib.hid (Ka18.out.keep hm)
        have Kb19 := Lib.hid (Kb18.out.keep hm)
        have Kdd19 := Lib.hid (Kdd18.out.keep hm)
        have Ay19 := Lib.hid (Ay18.out.keep hm)
        have Abc19 := Lib.hid (Abc18.out.keep hm)
        clear hm c0 c1 c2 c3 c4 c5 d0 d1 d2 d3 d4 d5
        go_wp2
        go_ret
        exact ⟨rfl, HM19.out.below (Nat.le_refl _) (fun _ _ h => h)⟩
      · rw [if_neg hG] at Pdd
        have hd0 : dd.n = 0 := by have := Kdd18.out.at_.nL; rw [Pdd.out] at this; exact this.symm
        have hd1 : ((dd.n : Int) == 0) = true := by simp [hd0]
        clear hG hd0
        obtain ⟨c0, c1, c2, c3, c4, c5⟩ : w18.cell? ⟨w16.heap.size, 0, none⟩ = some (.int .i64 dd.id) ∧ w18.cell? ⟨w16.heap.size, 1, none⟩ = some (.int .i64 dd.st) ∧ w18.cell? ⟨w16.heap.size, 2, none⟩ = some (.int .i64 dd.f) ∧ w18.cell? ⟨w16.heap.size, 3, none⟩ = some (.int .i64 dd.l) ∧ w18.cell? ⟨w16.heap.size, 4, none⟩ = some (.slice dd.A dd.n dd.c) ∧ w18.cell? ⟨w16.heap.size, 5, none⟩ = some (.slice dd.B dd.m dd.d) := HBD18.out.cells
        go_upto_region 17 with fail
        clear c0 c1 c2 c3 c4 c5
        obtain ⟨c0, c1, c2, c3, c4, c5⟩ : w18.cell? ⟨w5.heap.size, 0, none⟩ = some (.int .i64 su.id) ∧ w18.cell? ⟨w5.heap.size, 1, none⟩ = some (.int .i64 su.st) ∧ w18.cell? ⟨w5.heap.size, 2, none⟩ = some (.int .i64 su.f) ∧ w18.cell? ⟨w5.heap.size, 3, none⟩ = some (.int .i64 su.l) ∧ w18.cell? ⟨w5.heap.size, 4, none⟩ = some (.slice su.A su.n su.c) ∧ w18.cell? ⟨w5.heap.size, 5, none⟩ = some (.slice su.B su.m su.d) := HBU18.out.cells
        obtain ⟨d0, d1, d2, d3, d4, d5⟩ : w18.cell? ⟨w7.heap.size, 0, none⟩ = some (.int .i64 sw.id) ∧ w18.cell? ⟨w7.heap.size, 1, none⟩ = some (.int .i64 sw.st) ∧ w18.cell? ⟨w7.heap.size, 2, none⟩ = some (.int .i64 sw.f) ∧ w18.cell? ⟨w7.heap.size, 3, none⟩ = some (.int .i64 sw.l) ∧ w18.cell? ⟨w7.heap.size, 4, none⟩ = some (.slice sw.A sw.n sw.c) ∧ w18.cell? ⟨w7.heap.size, 5, none⟩ = some (.slice sw.B sw.m sw.d) := HBW18.out.cells
        go_wp2_with fail
        refine (ksame Ksu18.out Ksw18.out (by rw [Psw2.out, Psu2.out]) Hsu.out).mono ?_
        rintro e w19 ⟨rfl, hm⟩
        have HM19 := Lib.hid (HM18.out.trans hm (fun _ _ h => h))
        have hz19 := hm.size
        have HB19 := Lib.hid (HB18.out.keep hm)
        have HY19 := Lib.hid (HY18.out.keep hm)
        have HBU19 := Lib.hid (HBU18.out.keep hm)
        have HBW19 := Lib.hid (HBW18.out.keep hm)
        have HBA19 := Lib.hid (HBA18.out.keep hm)
        have HBB19 := Lib.hid (HBB18.out.keep hm)
        have HBC19 := Lib.hid (HBC18.out.keep hm)
        have HBD19 := Lib.hid (HBD18.out.keep hm)
        have Kx19 := Lib.hid (Kx18.out.keep hm)
        have Ksu19 := Lib.hid (Ksu18.out.keep hm)
        have Ksw19 := Lib.hid (Ksw18.out.keep hm)
        have Ka19 := Lib.hid (Ka18.out.keep hm)
        have Kb19 := Lib.hid (Kb18.out.keep hm)
        have Kdd19 := Lib.hid (Kdd18.out.keep hm)
        have Ay19 := Lib.hid (Ay18.out.keep hm)
        have Abc19 := Lib.hid (Abc18.out.keep hm)
        clear hm c0 c1 c2 c3 c4 c5 d0 d1 d2 d3 d4 d5
        go_wp2
        go_ret
        exact ⟨rfl, HM19.out.below (Nat.le_refl _) (fun _ _ h => h)⟩
    · have hfd : (noteE su.p y.p == 0) = false := by simpa using hF
      clear hF
      go_wp2_with fail
      refine ((note_ok w8 su y Ksu8.out.at_ Ay8.out Hsn.out.1 Hsn.out.2.1).mono (fun e w' h => NwAns.rn (b0 := w.heap.size) h)).mono ?_
      rintro e w9 ⟨a, rfl, hk, hp, hm⟩
      have HM9 := Lib.hid (HM8.out.trans hm (fun _ _ h => h))
      have hz9 := hm.size
      have HB9 := Lib.hid (HB8.out.keep hm)
      have HY9 := Lib.hid (HY8.out.keep hm)
      have HBU9 := Lib.hid (HBU8.out.keep hm)
      have HBW9 := Lib.hid (HBW8.out.keep hm)
      have Kx9 := Lib.hid (Kx8.out.keep hm)
      have Ksu9 := Lib.hid (Ksu8.out.keep hm)
      have Ksw9 := Lib.hid (Ksw8.out.keep hm)
      have Ay9 := Lib.hid (Ay8.out.keep hm)
      clear hm
      have Ka9 := Lib.hid hk
      have Pa := Lib.hid hp
      clear hk hp
      clear c0 c1 c2 c3 c4 c5 y0 y1 y2 y3 y4 y5 y6 hw8
      clear Pa
      obtain ⟨w10, hw10⟩ : ∃ w10, w9.alloc (.cells #[.int .i64 a.id, .int .i64 a.st, .int .i64 a.f, .int .i64 a.l, .slice a.A a.n a.c, .slice a.B a.m a.d] 25) = w10 := ⟨_, rfl⟩
      have ha10 : Mod (fun _ => False) w9 w10 := by rw [← hw10]; exact (Mod.refl _ w9).alloc _
      have hz10 : w9.heap.size + 1 ≤ w10.heap.size := by rw [← hw10]; simp
      have HBA10 : Hid ((a : TxD).In w10 w9.heap.size) := by rw [← hw10]; exact TxD.In.new w9 a
      have HM10 := Lib.hid (HM9.out.trans ha10 (fun _ _ h => h))
      have HB10 := Lib.hid (HB9.out.keep ha10)
      have HY10 := Lib.hid (HY9.out.keep ha10)
      have HBU10 := Lib.hid (HBU9.out.keep ha10)
      have HBW10 := Lib.hid (HBW9.out.keep ha10)
      have Kx10 := Lib.hid (Kx9.out.keep ha10)
      have Ksu10 := Lib.hid (Ksu9.out.keep ha10)
      have Ksw10 := Lib.hid (Ksw9.out.keep ha10)
      have Ka10 := Lib.hid (Ka9.out.keep ha10)
      have Ay10 := Lib.hid (Ay9.out.keep ha10)
      clear ha10
      obtain ⟨c0, c1, c2, c3, c4, c5⟩ : w10.cell? ⟨w5.heap.size, 0, none⟩ = some (.int .i64 su.id) ∧ w10.cell? ⟨w5.heap.size, 1, none⟩ = some (.int .i64 su.st) ∧ w10.cell? ⟨w5.heap.size, 2, none⟩ = some (.int .i64 su.f) ∧ w10.cell? ⟨w5.heap.size, 3, none⟩ = some (.int .i64 su.l) ∧ w10.cell? ⟨w5.heap.size, 4, none⟩ = some (.slice su.A su.n su.c) ∧ w10.cell? ⟨w5.heap.size, 5, none⟩ = some (.slice su.B su.m su.d) := HBU10.out.cells
      obtain ⟨d0, d1, d2, d3, d4, d5⟩ : w10.cell? ⟨w7.heap.size, 0, none⟩ = some (.int .i64 sw.id) ∧ w10.cell? ⟨w7.heap.size, 1, none⟩ = some (.int .i64 sw.st) ∧ w10.cell? ⟨w7.heap.size, 2, none⟩ = some (.int .i64 sw.f) ∧ w10.cell? ⟨w7.heap.size, 3, none⟩ = some (.int .i64 sw.l) ∧ w10.cell? ⟨w7.heap.size, 4, none⟩ = some (.slice sw.A sw.n sw.c) ∧ w10.cell? ⟨w7.heap.size, 5, none⟩ = some (.slice sw.B sw.m sw.d) := HBW10.out.cells
      go_wp2_with fail
      refine (ksame Ksu10.out Ksw10.out (by rw [Psw2.out, Psu2.out]) Hsu.out).mono ?_
      rintro e w11 ⟨rfl, hm⟩
      have HM11 := Lib.hid (HM10.out.trans hm (fun _ _ h => h))
      have hz11 := hm.size
      have HB11 := Lib.hid (HB10.out.keep hm)
      have HY11 := Lib.hid (HY10.out.keep hm)
      have HBU11 := Lib.hid (HBU10.out.keep hm)
      have HBW11 := Lib.hid (HBW10.out.keep hm)
      have HBA11 := Lib.hid (HBA10.out.keep hm)
      have Kx11 := Lib.hid (Kx10.out.keep hm)
      have Ksu11 := Lib.hid (Ksu10.out.keep hm)
      have Ksw11 := Lib.hid (Ksw10.out.keep hm)
      have Ka11 := Lib.hid (Ka10.out.keep hm)
      have Ay11 := Lib.hid (Ay10.out.keep hm)
      clear hm c0 c1 c2 c3 c4 c5 d0 d1 d2 d3 d4 d5
      go_wp2
      go_ret
      exact ⟨rfl, HM11.out.below (Nat.le_refl _) (fun _ _ h => h)⟩
  · have HE4 : Hid (saveE x.p = 4) := by
      show _ = _
      unfold saveE at hE ⊢
      rw [Hm.out] at hE ⊢
      rw [if_pos rfl] at hE ⊢
      split at hE
      · rename_i h; rw [if_pos h]
      · exact absurd rfl hE
    clear hE Hsi
    go_wp2_with fail
    refine ((save_ok w4 x Kx4.out.at_ Hsz.out.1 Hsz.out.2.1).mono (fun e w' h => (SvAns.rs (b0 := w.heap.size) h).at 4 0 HE4.out (by rfl))).mono ?_
    rintro e w5 ⟨su, rfl, hk, hp, hm⟩
    have HM5 := Lib.hid (HM4.out.trans hm (fun _ _ h => h))
    have hz5 := hm.size
    have HB5 := Lib.hid (HB4.out.keep hm)
    have HY5 := Lib.hid (HY4.out.keep hm)
    have Kx5 := Lib.hid (Kx4.out.keep hm)
    have Ay5 := Lib.hid (Ay4.out.keep hm)
    clear hm
    have Ksu5 := Lib.hid hk
    have Psu := Lib.hid hp
    clear hk hp
    clear c0 c1 c2 c3 c4 c5 y0 y1 y2 y3 y4 y5 y6
    obtain ⟨w6, hw6⟩ : ∃ w6, w5.alloc (.cells #[.int .i64 su.id, .int .i64 su.st, .int .i64 su.f, .int .i64 su.l, .slice su.A su.n su.c, .slice su.B su.m su.d] 25) = w6 := ⟨_, rfl⟩
    have ha6 : Mod (fun _ => False) w5 w6 := by rw [← hw6]; exact (Mod.refl _ w5).alloc _
    have hz6 : w5.heap.size + 1 ≤ w6.heap.size := by rw [← hw6]; simp
    have HBU6 : Hid ((su : TxD).In w6 w5.heap.size) := by rw [← hw6]; exact TxD.In.new w5 su
    have HM6 := Lib.hid (HM5.out.trans ha6 (fun _ _ h => h))
    have HB6 := Lib.hid (HB5.out.keep ha6)
    have HY6 := Lib.hid (HY5.out.keep ha6)
    have Kx6 := Lib.hid (Kx5.out.keep ha6)
    have Ksu6 := Lib.hid (Ksu5.out.keep ha6)
    have Ay6 := Lib.hid (Ay5.out.keep ha6)
    clear ha6
    go_wp2
    go_ret
    exact ⟨rfl, HM6.out.below (Nat.le_refl _) (fun _ _ h => h)⟩
end Go.Proofs.Ytidcmolkolcliaa
