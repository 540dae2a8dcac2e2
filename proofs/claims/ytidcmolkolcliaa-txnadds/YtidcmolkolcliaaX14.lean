/-
  The reference: Light, Changes, Same; the law's light.
-/
import Derived.Test.YtidcmolkolcliaaXKp
import Derived.Test.YtidcmolkolcliaaXLm
import Derived.BigQuiet
namespace Go.Proofs.Ytidcmolkolcliaa
open Go Go.RowKit

set_option maxRecDepth 100000 in
theorem vals_ok (w : World) (A B : Option Addr) (n m c d : Nat) (xs ys : List UInt8) (p q : Bool) (h : Sl w A n c xs) (k : Sl w B m d ys) (hc : n ≤ 140737488355328) (hd : m ≤ 140737488355328) :
    Calls Try.prog 37 #[.agg #[.bool p, .slice A n c], .agg #[.bool q, .slice B m d]] w fun e w' => e = .returned (.bool (eqB xs ys && (p == q))) ∧ Mod (fun _ => False) w w' := by
  have hm : Mod (fun _ => False) w ((w.alloc (.cells #[.bool p, .slice A n c] 28)).alloc (.cells #[.bool q, .slice B m d] 28)) := ((Mod.refl _ w).alloc _).alloc _
  have Hsame := Lib.hid (same_ok _ A B n m c d xs ys (h.mod hm (fun _ _ _ => id)) (k.mod hm (fun _ _ _ => id)) hc hd)
  have Hm := Lib.hid hm
  have hb1 : ((w.alloc (.cells #[.bool p, .slice A n c] 28)).alloc (.cells #[.bool q, .slice B m d] 28)).heap[w.heap.size]? = some (.cells #[.bool p, .slice A n c] 28 (0, 0)) :=
    (Below.heap_alloc _ _ _ (by rw [World.size_alloc]; omega)).trans (heap_alloc_new w _)
  have hb2 : ((w.alloc (.cells #[.bool p, .slice A n c] 28)).alloc (.cells #[.bool q, .slice B m d] 28)).heap[w.heap.size + 1]? = some (.cells #[.bool q, .slice B m d] 28 (0, 0)) := by
    have := heap_alloc_new (w.alloc (.cells #[.bool p, .slice A n c] 28)) (.cells #[.bool q, .slice B m d] 28)
    rw [World.size_alloc] at this
    exact this
  have Hb1 := Lib.hid hb1
  have Hb2 := Lib.hid hb2
  clear h k hm hb1 hb2
  go_enter Try.func37, Try.ntmps37
  go_wp2_with fail
  obtain ⟨w2, hw2⟩ : ∃ w2, w2 = (w.alloc (.cells #[.bool p, .slice A n c] 28)).alloc (.cells #[.bool q, .slice B m d] 28) := ⟨_, rfl⟩
  rw [← hw2] at Hsame Hm Hb1 Hb2 ⊢
  clear hw2
  refine Hsame.out.mono ?_
  rintro e w3 ⟨rfl, r, rfl⟩
  have p0 : (w2.drewN r).cell? ⟨w.heap.size, 0, none⟩ = some (.bool p) := by show w2.cell? _ = _; rw [cell_of_row _ _ _ _ _ _ Hb1.out]; rfl
  have q0 : (w2.drewN r).cell? ⟨w.heap.size + 1, 0, none⟩ = some (.bool q) := by show w2.cell? _ = _; rw [cell_of_row _ _ _ _ _ _ Hb2.out]; rfl
  have Hm3 := Lib.hid (Hm.out.drewN r)
  generalize w2.drewN r = w3 at *
  cases heq : eqB xs ys with
  | true =>
    have Heq := Lib.hid heq
    clear heq
    go_wp2
    go_ret
    exact ⟨by rw [Heq.out, Bool.true_and]; rfl, Hm3.out⟩
  | false =>
    have Heq := Lib.hid heq
    clear heq
    go_wp2
    go_ret
    exact ⟨by rw [Heq.out]; rfl, Hm3.out⟩

set_option maxRecDepth 100000 in
set_option maxHeartbeats 3200000 in
theorem rlight_ok (w : World) (x : TxD) (h : x.At w) :
    Calls Try.prog 24 #[.agg #[.int .i64 x.id, .int .i64 x.st, .int .i64 x.f, .int .i64 x.l, .slice x.A x.n x.c, .slice x.B x.m x.d], .int .i64 20] w fun e w' => e = .returned (.bool (ltB x.p)) ∧ Mod (fun _ => False) w w' := by
  obtain ⟨w1, hw1⟩ : ∃ w1, w.alloc (.cells #[.int .i64 x.id, .int .i64 x.st, .int .i64 x.f, .int .i64 x.l, .slice x.A x.n x.c, .slice x.B x.m x.d] 25) = w1 := ⟨_, rfl⟩
  have HB1 : Hid ((x : TxD).In w1 (w.heap.size)) := by
    rw [← hw1]
    have q := TxD.In.new (w) (x)
    exact q.keep (Mod.refl (fun _ => False) _)
  have HM1 : Hid (Mod (fun _ => False) w w1) := by rw [← hw1]; exact (Mod.refl (fun _ => False) w).alloc _
  have hz1 : w.heap.size + 1 ≤ w1.heap.size := by rw [← hw1]; simp
  clear hz1
  obtain ⟨c0, c1, c2, c3, c4, c5⟩ := HB1.out.cells
  have HX := Lib.hid (h.keep HM1.out)
  have HnL := Lib.hid h.nL
  have HnS := Lib.hid h.nS
  have Hll : Hid (x.L.length = x.n) := h.L.len
  have hcap := h.L.cap
  have Hno1 : Hid ((20 < x.n ∨ 20 < x.m) → ltB x.p = false) := fun h1 => by
    cases hc : ltB x.p with
    | false => rfl
    | true =>
      obtain ⟨h2, h3, _⟩ := ltB_iff.1 hc
      rw [h.nL] at h2
      rw [h.nS] at h3
      omega
  clear h
  by_cases k0 : (20 : Int) < (x.n : Int)
  · have e0 : decide ((20 : Int) < (x.n : Int)) = true := decide_eq_true k0
    have e0' : decide (20 < x.n) = true := decide_eq_true (by omega)
    have Hno : Hid (ltB x.p = false) := Hno1.out (.inl (by omega))
    clear k0
    go_enter Try.func24, Try.ntmps24
    go_wp2
    go_ret
    exact ⟨by rw [Hno.out]; rfl, HM1.out⟩
  have e0 : decide ((20 : Int) < (x.n : Int)) = false := decide_eq_false k0
  have e0' : decide (20 < x.n) = false := decide_eq_false (by omega)
  by_cases k1 : (20 : Int) < (x.m : Int)
  · have e1 : decide ((20 : Int) < (x.m : Int)) = true := decide_eq_true k1
    have e1' : decide (20 < x.m) = true := decide_eq_true (by omega)
    have Hno : Hid (ltB x.p = false) := Hno1.out (.inr (by omega))
    clear k0 k1
    go_enter Try.func24, Try.ntmps24
    go_wp2
    go_ret
    exact ⟨by rw [Hno.out]; rfl, HM1.out⟩
  have e1 : decide ((20 : Int) < (x.m : Int)) = false := decide_eq_false k1
  have e1' : decide (20 < x.m) = false := decide_eq_false (by omega)
  have hn20 : x.n ≤ 20 := by omega
  have Hm20 : Hid (x.m ≤ 20) := by show _ ≤ _; omega
  clear k0 k1
  go_enter Try.func24, Try.ntmps24
  go_wp2_with fail
  clear e0 e1 e0' e1' hw1
  go_loopw [5] (fun k wr => ∃ i : Nat, k = .int .i64 i ∧ i ≤ x.n ∧ (∀ j, j < i → smB (atC (pc x.L) j) = true) ∧ Mod (fun _ => False) w1 wr) (fun k _ => x.n - (intOf k).toNat)
  case atStart => exact ⟨0, rfl, by omega, fun j hj => by omega, Mod.refl _ _⟩
  case round =>
    obtain ⟨i, rfl, hi, hs, hm⟩ := hrel
    have HS := Lib.hid hs
    have HM := Lib.hid hm
    have HI := Lib.hid (HB1.out.keep hm)
    clear hs hm c0 c1 c2 c3 c4 c5
    obtain ⟨c0, c1, c2, c3, c4, c5⟩ := HI.out.cells
    by_cases hlt : i < x.n
    · obtain ⟨y, hy⟩ : ∃ y, x.L[i]? = some y := ⟨_, List.getElem?_eq_getElem (by rw [Hll.out]; exact hlt)⟩
      have hxr := HX.out.keep HM.out
      obtain ⟨b, o, hA, hcs⟩ := hxr.L.cells (by omega)
      obtain ⟨s0, s1, s2, s3, s4, s5, s6⟩ := hcs i y hy
      have hya := hxr.L.ats y (List.mem_of_getElem? hy)
      have ho := hya.o.len
      have hv := hya.v.len
      have hok : smB (atC (pc x.L) i) = (decide (y.o.m ≤ 100) && decide (y.v.m ≤ 100)) := by rw [atC_of (pc_at hy), ← ho, ← hv]; rfl
      have Hok := Lib.hid hok
      have Hno : Hid (smB (atC (pc x.L) i) = false → ltB x.p = false) := fun hf => by
        cases hc : ltB x.p with
        | false => rfl
        | true =>
          have h5 := (ltB_iff.1 hc).2.2 i (by rw [HnL.out]; exact hlt)
          have h6 : smB (atC x.p.L i) = false := hf
          rw [h5] at h6
          cases h6
      have l1 : i < x.c := by omega
      rw [hA] at c4
      clear hcs hA hxr hy hok hya ho hv
      by_cases k0 : (100 : Int) < (y.o.m : Int)
      · have e0 : decide ((100 : Int) < (y.o.m : Int)) = true := decide_eq_true k0
        have e0' : decide (100 < y.o.m) = true := decide_eq_true (by omega)
        have Hmf : Hid (ltB x.p = false) := Hno.out (by rw [Hok.out, decide_eq_false (by omega)]; rfl)
        clear k0
        go_wp2
        go_ret
        exact ⟨by rw [Hmf.out]; rfl, HM1.out.trans HM.out (fun _ _ h => h)⟩
      · have e0 : decide ((100 : Int) < (y.o.m : Int)) = false := decide_eq_false k0
        have e0' : decide (100 < y.o.m) = false := decide_eq_false (by omega)
        by_cases k1 : (100 : Int) < (y.v.m : Int)
        · have e1 : decide ((100 : Int) < (y.v.m : Int)) = true := decide_eq_true k1
          have e1' : decide (100 < y.v.m) = true := decide_eq_true (by omega)
          have Hmf : Hid (ltB x.p = false) := Hno.out (by rw [Hok.out, decide_eq_true (by omega), decide_eq_false (by omega)]; rfl)
          clear k0 k1
          go_wp2
          go_ret
          exact ⟨by rw [Hmf.out]; rfl, HM1.out.trans HM.out (fun _ _ h => h)⟩
        · have e1 : decide ((100 : Int) < (y.v.m : Int)) = false := decide_eq_false k1
          have e1' : decide (100 < y.v.m) = false := decide_eq_false (by omega)
          have HS2 : Hid (∀ j, j < i + 1 → smB (atC (pc x.L) j) = true) := fun j hj => by
            rcases Nat.lt_or_ge j i with h | h
            · exact HS.out j h
            · obtain rfl : j = i := by omega
              rw [Hok.out, decide_eq_true (by omega), decide_eq_true (by omega)]
              rfl
          clear k0 k1
          go_wp2
          go_roundw
          case rel => exact ⟨i + 1, by go_num, by omega, HS2.out, HM.out⟩
          case measure => simp [intOf]; omega
    · obtain rfl : i = x.n := by omega
      have Hyes : Hid (ltB x.p = true) := ltB_iff.2 ⟨by rw [HnL.out]; exact hn20, by rw [HnS.out]; exact Hm20.out, fun j hj => HS.out j (by rw [HnL.out] at hj; exact hj)⟩
      go_wp2
      go_ret
      exact ⟨by rw [Hyes.out]; rfl, HM1.out.trans HM.out (fun _ _ h => h)⟩
set_option maxRecDepth 100000 in
set_option maxHeartbeats 3200000 in
theorem llight_ok (w : World) (x : TxD) (y : ChD) (h : x.At w) (hy : y.At w) :
    Calls Try.prog 11 #[.agg #[.int .i64 x.id, .int .i64 x.st, .int .i64 x.f, .int .i64 x.l, .slice x.A x.n x.c, .slice x.B x.m x.d], .agg #[.int .i64 y.lsn, .int .i64 y.page, .int .i64 y.key, .bool y.o.is, .slice y.o.B y.o.m y.o.d, .bool y.v.is, .slice y.v.B y.v.m y.v.d]] w fun e w' => e = .returned (.bool (ltB x.p && smB y.p)) ∧ Mod (fun _ => False) w w' := by
  obtain ⟨w1, hw1⟩ : ∃ w1, (w.alloc (.cells #[.int .i64 x.id, .int .i64 x.st, .int .i64 x.f, .int .i64 x.l, .slice x.A x.n x.c, .slice x.B x.m x.d] 25)).alloc (.cells #[.int .i64 y.lsn, .int .i64 y.page, .int .i64 y.key, .bool y.o.is, .slice y.o.B y.o.m y.o.d, .bool y.v.is, .slice y.v.B y.v.m y.v.d] 30) = w1 := ⟨_, rfl⟩
  have HB1 : Hid ((x : TxD).In w1 (w.heap.size)) := by
    rw [← hw1]
    have q := TxD.In.new (w) (x)
    exact q.keep ((Mod.refl (fun _ => False) _).alloc _)
  have HY1 : Hid ((y : ChD).In w1 (w.heap.size + 1)) := by
    rw [← hw1]
    have q := ChD.In.new (w.alloc (.cells #[.int .i64 x.id, .int .i64 x.st, .int .i64 x.f, .int .i64 x.l, .slice x.A x.n x.c, .slice x.B x.m x.d] 25)) (y)
    simp only [World.size_alloc] at q
    exact q.keep (Mod.refl (fun _ => False) _)
  have HM1 : Hid (Mod (fun _ => False) w w1) := by rw [← hw1]; exact ((Mod.refl (fun _ => False) w).alloc _).alloc _
  have hz1 : w.heap.size + 2 ≤ w1.heap.size := by rw [← hw1]; simp
  clear hz1
  obtain ⟨c0, c1, c2, c3, c4, c5⟩ := HB1.out.cells
  obtain ⟨y0, y1, y2, y3, y4, y5, y6⟩ := HY1.out.cells
  have HL := Lib.hid (rlight_ok w1 x (h.keep HM1.out))
  have ho := hy.o.len
  have hv := hy.v.len
  have hok : smB y.p = (decide (y.o.m ≤ 100) && decide (y.v.m ≤ 100)) := by rw [← ho, ← hv]; rfl
  rw [hok]
  clear h hy ho hv hok
  generalize ltB x.p = b1 at *
  obtain ⟨b2, hb2⟩ : ∃ b2, decide (y.o.m ≤ 100) = b2 := ⟨_, rfl⟩
  obtain ⟨b3, hb3⟩ : ∃ b3, decide (y.v.m ≤ 100) = b3 := ⟨_, rfl⟩
  have hb2' : decide ((y.o.m : Int) ≤ 100) = b2 := by rw [← hb2, decide_eq_decide]; omega
  have hb3' : decide ((y.v.m : Int) ≤ 100) = b3 := by rw [← hb3, decide_eq_decide]; omega
  rw [hb2, hb3]
  cases b1 with
  | false =>
    go_enter Try.func11, Try.ntmps11
    go_wp2_with fail
    refine HL.out.mono ?_
    rintro e w2 ⟨rfl, hm2⟩
    have HM2 := Lib.hid (HM1.out.trans hm2 (fun _ _ h => h))
    have HB2 := Lib.hid (HB1.out.keep hm2)
    have HY2 := Lib.hid (HY1.out.keep hm2)
    clear hm2 hw1 c0 c1 c2 c3 c4 c5 y0 y1 y2 y3 y4 y5 y6
    obtain ⟨c0, c1, c2, c3, c4, c5⟩ := HB2.out.cells
    obtain ⟨y0, y1, y2, y3, y4, y5, y6⟩ := HY2.out.cells
    go_wp2
    go_ret
    exact ⟨rfl, HM2.out⟩
  | true =>
  cases b2 with
  | false =>
    go_enter Try.func11, Try.ntmps11
    go_wp2_with fail
    refine HL.out.mono ?_
    rintro e w2 ⟨rfl, hm2⟩
    have HM2 := Lib.hid (HM1.out.trans hm2 (fun _ _ h => h))
    have HB2 := Lib.hid (HB1.out.keep hm2)
    have HY2 := Lib.hid (HY1.out.keep hm2)
    clear hm2 hw1 c0 c1 c2 c3 c4 c5 y0 y1 y2 y3 y4 y5 y6
    obtain ⟨c0, c1, c2, c3, c4, c5⟩ := HB2.out.cells
    obtain ⟨y0, y1, y2, y3, y4, y5, y6⟩ := HY2.out.cells
    go_wp2
    go_ret
    exact ⟨rfl, HM2.out⟩
  | true =>
  cases b3 with
  | false =>
    go_enter Try.func11, Try.ntmps11
    go_wp2_with fail
    refine HL.out.mono ?_
    rintro e w2 ⟨rfl, hm2⟩
    have HM2 := Lib.hid (HM1.out.trans hm2 (fun _ _ h => h))
    have HB2 := Lib.hid (HB1.out.keep hm2)
    have HY2 := Lib.hid (HY1.out.keep hm2)
    clear hm2 hw1 c0 c1 c2 c3 c4 c5 y0 y1 y2 y3 y4 y5 y6
    obtain ⟨c0, c1, c2, c3, c4, c5⟩ := HB2.out.cells
    obtain ⟨y0, y1, y2, y3, y4, y5, y6⟩ := HY2.out.cells
    go_wp2
    go_ret
    exact ⟨rfl, HM2.out⟩
  | true =>
    go_enter Try.func11, Try.ntmps11
    go_wp2_with fail
    refine HL.out.mono ?_
    rintro e w2 ⟨rfl, hm2⟩
    have HM2 := Lib.hid (HM1.out.trans hm2 (fun _ _ h => h))
    have HB2 := Lib.hid (HB1.out.keep hm2)
    have HY2 := Lib.hid (HY1.out.keep hm2)
    clear hm2 hw1 c0 c1 c2 c3 c4 c5 y0 y1 y2 y3 y4 y5 y6
    obtain ⟨c0, c1, c2, c3, c4, c5⟩ := HB2.out.cells
    obtain ⟨y0, y1, y2, y3, y4, y5, y6⟩ := HY2.out.cells
    go_wp2
    go_ret
    exact ⟨rfl, HM2.out⟩
theorem valE (a b : VlD) (h : b.p = a.p) (w : World) (ha : a.At w) (hb : b.At w) (hl : a.m ≤ 1000) :
    Calls Try.prog 37 #[.agg #[.bool a.is, .slice a.B a.m a.d], .agg #[.bool b.is, .slice b.B b.m b.d]] w fun e w' => e = .returned (.bool true) ∧ Mod (fun _ => False) w w' := by
  have h1 : b.is = a.is := congrArg Prod.fst h
  have h2 : b.vs = a.vs := congrArg Prod.snd h
  have h3 : b.m = a.m := by have := ha.len; have := hb.len; rw [h2] at this; omega
  refine (vals_ok w a.B b.B a.m b.m a.d b.d a.vs b.vs a.is b.is ha hb (by omega) (by omega)).mono ?_
  rintro e w' ⟨rfl, hm⟩
  refine ⟨?_, hm⟩
  rw [h1, h2, eqB_self]
  simp
set_option maxRecDepth 100000 in
set_option maxHeartbeats 3200000 in
theorem rchanges_ok (w : World) (x y : ChD) (hx : x.At w) (hy : y.At w) (hp : y.p = x.p) (ho : x.o.m ≤ 1000) (hv : x.v.m ≤ 1000) :
    Calls Try.prog 21 #[.agg #[.int .i64 x.lsn, .int .i64 x.page, .int .i64 x.key, .bool x.o.is, .slice x.o.B x.o.m x.o.d, .bool x.v.is, .slice x.v.B x.v.m x.v.d], .agg #[.int .i64 y.lsn, .int .i64 y.page, .int .i64 y.key, .bool y.o.is, .slice y.o.B y.o.m y.o.d, .bool y.v.is, .slice y.v.B y.v.m y.v.d]] w fun e w' => e = .returned (.bool true) ∧ Mod (fun _ => False) w w' := by
  have p1 : y.lsn = x.lsn := congrArg Cp.lsn hp
  have p2 : y.page = x.page := congrArg Cp.page hp
  have p3 : y.key = x.key := congrArg Cp.key hp
  obtain ⟨w1, hw1⟩ : ∃ w1, (w.alloc (.cells #[.int .i64 x.lsn, .int .i64 x.page, .int .i64 x.key, .bool x.o.is, .slice x.o.B x.o.m x.o.d, .bool x.v.is, .slice x.v.B x.v.m x.v.d] 30)).alloc (.cells #[.int .i64 y.lsn, .int .i64 y.page, .int .i64 y.key, .bool y.o.is, .slice y.o.B y.o.m y.o.d, .bool y.v.is, .slice y.v.B y.v.m y.v.d] 30) = w1 := ⟨_, rfl⟩
  have HB1 : Hid ((x : ChD).In w1 (w.heap.size)) := by
    rw [← hw1]
    have q := ChD.In.new (w) (x)
    exact q.keep ((Mod.refl (fun _ => False) _).alloc _)
  have HY1 : Hid ((y : ChD).In w1 (w.heap.size + 1)) := by
    rw [← hw1]
    have q := ChD.In.new (w.alloc (.cells #[.int .i64 x.lsn, .int .i64 x.page, .int .i64 x.key, .bool x.o.is, .slice x.o.B x.o.m x.o.d, .bool x.v.is, .slice x.v.B x.v.m x.v.d] 30)) (y)
    simp only [World.size_alloc] at q
    exact q.keep (Mod.refl (fun _ => False) _)
  have HM1 : Hid (Mod (fun _ => False) w w1) := by rw [← hw1]; exact ((Mod.refl (fun _ => False) w).alloc _).alloc _
  have hz1 : w.heap.size + 2 ≤ w1.heap.size := by rw [← hw1]; simp
  clear hz1
  obtain ⟨c0, c1, c2, c3, c4, c5, c6⟩ := HB1.out.cells
  obtain ⟨y0, y1, y2, y3, y4, y5, y6⟩ := HY1.out.cells
  have V1 := Lib.hid (fun V (hV : Mod (fun _ => False) w V) => valE x.o y.o (congrArg Cp.o hp) V (hx.keep hV).o (hy.keep hV).o ho)
  have V2 := Lib.hid (fun V (hV : Mod (fun _ => False) w V) => valE x.v y.v (congrArg Cp.v hp) V (hx.keep hV).v (hy.keep hV).v hv)
  clear hx hy hp ho hv
  have P1 := Lib.hid p1
  have P2 := Lib.hid p2
  have P3 := Lib.hid p3
  clear p1 p2 p3
  go_enter Try.func21, Try.ntmps21
  go_wp2_with fail
  refine (V1.out _ HM1.out).mono ?_
  rintro e w2 ⟨rfl, hm2⟩
  have HM2 := Lib.hid (HM1.out.trans hm2 (fun _ _ h => h))
  have HB2 := Lib.hid (HB1.out.keep hm2)
  have HY2 := Lib.hid (HY1.out.keep hm2)
  clear hm2 hw1 c0 c1 c2 c3 c4 c5 c6 y0 y1 y2 y3 y4 y5 y6
  obtain ⟨c0, c1, c2, c3, c4, c5, c6⟩ := HB2.out.cells
  obtain ⟨y0, y1, y2, y3, y4, y5, y6⟩ := HY2.out.cells
  go_wp2_with fail
  refine (V2.out _ HM2.out).mono ?_
  rintro e w3 ⟨rfl, hm3⟩
  have HM3 := Lib.hid (HM2.out.trans hm3 (fun _ _ h => h))
  have HB3 := Lib.hid (HB2.out.keep hm3)
  have HY3 := Lib.hid (HY2.out.keep hm3)
  clear hm3 c0 c1 c2 c3 c4 c5 c6 y0 y1 y2 y3 y4 y5 y6
  obtain ⟨c0, c1, c2, c3, c4, c5, c6⟩ := HB3.out.cells
  obtain ⟨y0, y1, y2, y3, y4, y5, y6⟩ := HY3.out.cells
  rw [P1.out] at y0
  rw [P2.out] at y1
  rw [P3.out] at y2
  go_wp2
  go_ret
  exact ⟨rfl, HM3.out⟩
set_option maxRecDepth 100000 in
set_option maxHeartbeats 3200000 in
theorem rsame_ok (w : World) (x y : TxD) (hx : x.At w) (hy : y.At w) (hp : y.p = x.p) (hv : ∀ z ∈ x.L, z.o.m ≤ 1000 ∧ z.v.m ≤ 1000) (hn : x.n ≤ 1000) (hm : x.m ≤ 1000) :
    Calls Try.prog 20 #[.agg #[.int .i64 x.id, .int .i64 x.st, .int .i64 x.f, .int .i64 x.l, .slice x.A x.n x.c, .slice x.B x.m x.d], .agg #[.int .i64 y.id, .int .i64 y.st, .int .i64 y.f, .int .i64 y.l, .slice y.A y.n y.c, .slice y.B y.m y.d]] w fun e w' => e = .returned (.bool true) ∧ Mod (fun _ => False) w w' := by
  have p1 : y.id = x.id := congrArg Tp.id hp
  have p2 : y.st = x.st := congrArg Tp.st hp
  have p3 : y.f = x.f := congrArg Tp.f hp
  have p4 : y.l = x.l := congrArg Tp.l hp
  have pL : pc y.L = pc x.L := congrArg Tp.L hp
  have pS : y.S = x.S := congrArg Tp.S hp
  have pn : y.n = x.n := by have h1 := hx.nL; have h2 := hy.nL; rw [hp] at h2; omega
  have pm : y.m = x.m := by have h1 := hx.nS; have h2 := hy.nS; rw [hp] at h2; omega
  obtain ⟨w1, hw1⟩ : ∃ w1, (w.alloc (.cells #[.int .i64 x.id, .int .i64 x.st, .int .i64 x.f, .int .i64 x.l, .slice x.A x.n x.c, .slice x.B x.m x.d] 25)).alloc (.cells #[.int .i64 y.id, .int .i64 y.st, .int .i64 y.f, .int .i64 y.l, .slice y.A y.n y.c, .slice y.B y.m y.d] 25) = w1 := ⟨_, rfl⟩
  have HB1 : Hid ((x : TxD).In w1 (w.heap.size)) := by
    rw [← hw1]
    have q := TxD.In.new (w) (x)
    exact q.keep ((Mod.refl (fun _ => False) _).alloc _)
  have HY1 : Hid ((y : TxD).In w1 (w.heap.size + 1)) := by
    rw [← hw1]
    have q := TxD.In.new (w.alloc (.cells #[.int .i64 x.id, .int .i64 x.st, .int .i64 x.f, .int .i64 x.l, .slice x.A x.n x.c, .slice x.B x.m x.d] 25)) (y)
    simp only [World.size_alloc] at q
    exact q.keep (Mod.refl (fun _ => False) _)
  have HM1 : Hid (Mod (fun _ => False) w w1) := by rw [← hw1]; exact ((Mod.refl (fun _ => False) w).alloc _).alloc _
  have hz1 : w.heap.size + 2 ≤ w1.heap.size := by rw [← hw1]; simp
  clear hz1
  have HX := Lib.hid (hx.keep HM1.out)
  have HY := Lib.hid (hy.keep HM1.out)
  have HYc : Hid (∀ V, Mod (fun _ => False) w1 V → V.cell? ⟨w.heap.size + 1, 0, none⟩ = some (.int .i64 x.id) ∧ V.cell? ⟨w.heap.size + 1, 1, none⟩ = some (.int .i64 x.st) ∧ V.cell? ⟨w.heap.size + 1, 2, none⟩ = some (.int .i64 x.f) ∧ V.cell? ⟨w.heap.size + 1, 3, none⟩ = some (.int .i64 x.l) ∧ V.cell? ⟨w.heap.size + 1, 4, none⟩ = some (.slice y.A x.n y.c) ∧ V.cell? ⟨w.heap.size + 1, 5, none⟩ = some (.slice y.B x.m y.d)) := fun V hV => by
    have q := (HY1.out.keep hV).cells
    rw [p1, p2, p3, p4, pn, pm] at q
    exact q
  obtain ⟨c0, c1, c2, c3, c4, c5⟩ := HB1.out.cells
  obtain ⟨y0, y1, y2, y3, y4, y5⟩ : w1.cell? ⟨w.heap.size + 1, 0, none⟩ = some (.int .i64 x.id) ∧ w1.cell? ⟨w.heap.size + 1, 1, none⟩ = some (.int .i64 x.st) ∧ w1.cell? ⟨w.heap.size + 1, 2, none⟩ = some (.int .i64 x.f) ∧ w1.cell? ⟨w.heap.size + 1, 3, none⟩ = some (.int .i64 x.l) ∧ w1.cell? ⟨w.heap.size + 1, 4, none⟩ = some (.slice y.A x.n y.c) ∧ w1.cell? ⟨w.heap.size + 1, 5, none⟩ = some (.slice y.B x.m y.d) := HYc.out _ (Mod.refl _ _)
  have HV := Lib.hid hv
  have Hn := Lib.hid hn
  have Hm := Lib.hid hm
  have PL := Lib.hid pL
  have PS := Lib.hid pS
  have Hlx : Hid (x.L.length = x.n) := hx.L.len
  have Hly : Hid (y.L.length = x.n) := by rw [← pn]; exact hy.L.len
  have Hsx : Hid (x.S.length = x.m) := hx.nS
  have hcx := hx.L.cap
  have hcy : x.n ≤ y.c := by rw [← pn]; exact hy.L.cap
  have hdx := hx.S.cap
  have hdy : x.m ≤ y.d := by rw [← pm]; exact hy.S.cap
  have HAy : Hid (0 < x.n → 0 < y.n) := fun h => by omega
  have HBy : Hid (0 < x.m → 0 < y.m) := fun h => by omega
  clear hx hy hp hv hn hm p1 p2 p3 p4 pL pS
  have PN := Lib.hid pn
  have PM := Lib.hid pm
  clear pn pm
  go_enter Try.func20, Try.ntmps20
  go_wp2_with fail
  clear hw1
  go_loopw [5] (fun k wr => ∃ i : Nat, k = .int .i64 i ∧ i ≤ x.n ∧ Mod (fun _ => False) w1 wr) (fun k _ => x.n - (intOf k).toNat)
  case atStart => exact ⟨0, rfl, by omega, Mod.refl _ _⟩
  case round =>
    obtain ⟨i, rfl, hi, hm⟩ := hrel
    have HM := Lib.hid hm
    have HI := Lib.hid (HB1.out.keep hm)
    clear hm c0 c1 c2 c3 c4 c5 y0 y1 y2 y3 y4 y5
    obtain ⟨c0, c1, c2, c3, c4, c5⟩ := HI.out.cells
    obtain ⟨y0, y1, y2, y3, y4, y5⟩ : wr.cell? ⟨w.heap.size + 1, 0, none⟩ = some (.int .i64 x.id) ∧ wr.cell? ⟨w.heap.size + 1, 1, none⟩ = some (.int .i64 x.st) ∧ wr.cell? ⟨w.heap.size + 1, 2, none⟩ = some (.int .i64 x.f) ∧ wr.cell? ⟨w.heap.size + 1, 3, none⟩ = some (.int .i64 x.l) ∧ wr.cell? ⟨w.heap.size + 1, 4, none⟩ = some (.slice y.A x.n y.c) ∧ wr.cell? ⟨w.heap.size + 1, 5, none⟩ = some (.slice y.B x.m y.d) := HYc.out _ HM.out
    by_cases hlt : i < x.n
    · obtain ⟨u, hu⟩ : ∃ u, x.L[i]? = some u := ⟨_, List.getElem?_eq_getElem (by rw [Hlx.out]; exact hlt)⟩
      obtain ⟨v, hv⟩ : ∃ v, y.L[i]? = some v := ⟨_, List.getElem?_eq_getElem (by rw [Hly.out]; exact hlt)⟩
      have hxr := HX.out.keep HM.out
      have hyr := HY.out.keep HM.out
      obtain ⟨b, o, hA, hcs⟩ := hxr.L.cells (by omega)
      obtain ⟨b2, o2, hA2, hcs2⟩ := hyr.L.cells (HAy.out (by omega))
      have hcu := hcs i u hu
      have hcv := hcs2 i v hv
      have hvu : v.p = u.p := by
        have e1 := pc_at hu
        have e2 := pc_at hv
        rw [PL.out, e1] at e2
        exact (Option.some.inj e2).symm
      have hvs := HV.out u (List.mem_of_getElem? hu)
      have HK := Lib.hid (fun V (hV : Mod (fun _ => False) wr V) => rchanges_ok V u v ((hxr.keep hV).L.ats u (List.mem_of_getElem? hu)) ((hyr.keep hV).L.ats v (List.mem_of_getElem? hv)) hvu hvs.1 hvs.2)
      have HSt : Hid (∀ V, Mod (fun _ => False) wr V → (V.cell? ⟨w.heap.size, 4, none⟩ = some (.slice (some ⟨b, o, none⟩) x.n x.c) ∧ V.cell? ⟨w.heap.size + 1, 4, none⟩ = some (.slice (some ⟨b2, o2, none⟩) x.n y.c)) ∧ (V.cell? ⟨b, o + i * 7, none⟩ = some (.int .i64 u.lsn) ∧ V.cell? ⟨b, o + i * 7 + 1, none⟩ = some (.int .i64 u.page) ∧ V.cell? ⟨b, o + i * 7 + 2, none⟩ = some (.int .i64 u.key) ∧ V.cell? ⟨b, o + i * 7 + 3, none⟩ = some (.bool u.o.is) ∧ V.cell? ⟨b, o + i * 7 + 4, none⟩ = some (.slice u.o.B u.o.m u.o.d) ∧ V.cell? ⟨b, o + i * 7 + 5, none⟩ = some (.bool u.v.is) ∧ V.cell? ⟨b, o + i * 7 + 6, none⟩ = some (.slice u.v.B u.v.m u.v.d)) ∧ (V.cell? ⟨b2, o2 + i * 7, none⟩ = some (.int .i64 v.lsn) ∧ V.cell? ⟨b2, o2 + i * 7 + 1, none⟩ = some (.int .i64 v.page) ∧ V.cell? ⟨b2, o2 + i * 7 + 2, none⟩ = some (.int .i64 v.key) ∧ V.cell? ⟨b2, o2 + i * 7 + 3, none⟩ = some (.bool v.o.is) ∧ V.cell? ⟨b2, o2 + i * 7 + 4, none⟩ = some (.slice v.o.B v.o.m v.o.d) ∧ V.cell? ⟨b2, o2 + i * 7 + 5, none⟩ = some (.bool v.v.is) ∧ V.cell? ⟨b2, o2 + i * 7 + 6, none⟩ = some (.slice v.v.B v.v.m v.v.d))) := fun V hV => by
        have q1 := (HI.out.keep hV).cells.2.2.2.2.1
        have q2 := (HYc.out _ (HM.out.trans hV (fun _ _ h => h))).2.2.2.2.1
        rw [hA] at q1
        rw [hA2] at q2
        have q3 := hcu.keep (hV.block b hcu.lt (fun h => h))
        have q4 := hcv.keep (hV.block b2 hcv.lt (fun h => h))
        exact ⟨⟨q1, q2⟩, ⟨q3.c0, q3.c1, q3.c2, q3.c3, q3.c4, q3.c5, q3.c6⟩, q4.c0, q4.c1, q4.c2, q4.c3, q4.c4, q4.c5, q4.c6⟩
      have HD : Hid (Mod (fun _ => False) wr wr.drew) := (Mod.refl _ wr).drew
      have l1 : i < x.c := by omega
      have l2 : i < y.c := by omega
      clear hu hv hxr hyr hA hA2 hcs hcs2 hcu hcv hvu hvs
      have hn1 : x.n ≤ 1000 := Hn.out
      go_wp2_with fail
      refine wp_region_held (S := (fun W : World => (W.cell? ⟨w.heap.size, 4, none⟩ = some (.slice (some ⟨b, o, none⟩) x.n x.c) ∧ W.cell? ⟨w.heap.size + 1, 4, none⟩ = some (.slice (some ⟨b2, o2, none⟩) x.n y.c)) ∧ (W.cell? ⟨b, o + i * 7, none⟩ = some (.int .i64 u.lsn) ∧ W.cell? ⟨b, o + i * 7 + 1, none⟩ = some (.int .i64 u.page) ∧ W.cell? ⟨b, o + i * 7 + 2, none⟩ = some (.int .i64 u.key) ∧ W.cell? ⟨b, o + i * 7 + 3, none⟩ = some (.bool u.o.is) ∧ W.cell? ⟨b, o + i * 7 + 4, none⟩ = some (.slice u.o.B u.o.m u.o.d) ∧ W.cell? ⟨b, o + i * 7 + 5, none⟩ = some (.bool u.v.is) ∧ W.cell? ⟨b, o + i * 7 + 6, none⟩ = some (.slice u.v.B u.v.m u.v.d)) ∧ (W.cell? ⟨b2, o2 + i * 7, none⟩ = some (.int .i64 v.lsn) ∧ W.cell? ⟨b2, o2 + i * 7 + 1, none⟩ = some (.int .i64 v.page) ∧ W.cell? ⟨b2, o2 + i * 7 + 2, none⟩ = some (.int .i64 v.key) ∧ W.cell? ⟨b2, o2 + i * 7 + 3, none⟩ = some (.bool v.o.is) ∧ W.cell? ⟨b2, o2 + i * 7 + 4, none⟩ = some (.slice v.o.B v.o.m v.o.d) ∧ W.cell? ⟨b2, o2 + i * 7 + 5, none⟩ = some (.bool v.v.is) ∧ W.cell? ⟨b2, o2 + i * 7 + 6, none⟩ = some (.slice v.v.B v.v.m v.v.d)))) (by kernel_rfl) ?_
      have hI := (show (fun W : World => (W.cell? ⟨w.heap.size, 4, none⟩ = some (.slice (some ⟨b, o, none⟩) x.n x.c) ∧ W.cell? ⟨w.heap.size + 1, 4, none⟩ = some (.slice (some ⟨b2, o2, none⟩) x.n y.c)) ∧ (W.cell? ⟨b, o + i * 7, none⟩ = some (.int .i64 u.lsn) ∧ W.cell? ⟨b, o + i * 7 + 1, none⟩ = some (.int .i64 u.page) ∧ W.cell? ⟨b, o + i * 7 + 2, none⟩ = some (.int .i64 u.key) ∧ W.cell? ⟨b, o + i * 7 + 3, none⟩ = some (.bool u.o.is) ∧ W.cell? ⟨b, o + i * 7 + 4, none⟩ = some (.slice u.o.B u.o.m u.o.d) ∧ W.cell? ⟨b, o + i * 7 + 5, none⟩ = some (.bool u.v.is) ∧ W.cell? ⟨b, o + i * 7 + 6, none⟩ = some (.slice u.v.B u.v.m u.v.d)) ∧ (W.cell? ⟨b2, o2 + i * 7, none⟩ = some (.int .i64 v.lsn) ∧ W.cell? ⟨b2, o2 + i * 7 + 1, none⟩ = some (.int .i64 v.page) ∧ W.cell? ⟨b2, o2 + i * 7 + 2, none⟩ = some (.int .i64 v.key) ∧ W.cell? ⟨b2, o2 + i * 7 + 3, none⟩ = some (.bool v.o.is) ∧ W.cell? ⟨b2, o2 + i * 7 + 4, none⟩ = some (.slice v.o.B v.o.m v.o.d) ∧ W.cell? ⟨b2, o2 + i * 7 + 5, none⟩ = some (.bool v.v.is) ∧ W.cell? ⟨b2, o2 + i * 7 + 6, none⟩ = some (.slice v.v.B v.v.m v.v.d))) _ from HSt.out _ HD.out)
      refine rg_take (n := 11) (v := ?_) 0 (some 59) rfl rfl (by kernel_rfl) (by kernel_rfl) (by kernel_rfl) (fun _ _ _ h => h) (by rfl) hI ?_ ?_
      rotate_left
      · ((intro w hSw; (try dsimp only at hSw); go_simp); (try with_reducible rfl))
      try simp only [Act.put, List.setIfInBounds_toArray, List.set_cons_zero, List.set_cons_succ]
      refine rg_take (n := 10) (v := ?_) 1 (some 60) rfl rfl (by kernel_rfl) (by kernel_rfl) (by kernel_rfl) (fun _ _ _ h => h) (by rfl) hI ?_ ?_
      rotate_left
      · ((intro w hSw; (try dsimp only at hSw); go_simp); (try with_reducible rfl))
      try simp only [Act.put, List.setIfInBounds_toArray, List.set_cons_zero, List.set_cons_succ]
      refine rg_take (n := 9) (v := ?_) 2 (some 61) rfl rfl (by kernel_rfl) (by kernel_rfl) (by kernel_rfl) (fun _ _ _ h => h) (by rfl) hI ?_ ?_
      rotate_left
      · ((intro w hSw; (try dsimp only at hSw); go_simp); (try with_reducible rfl))
      try simp only [Act.put, List.setIfInBounds_toArray, List.set_cons_zero, List.set_cons_succ]
      refine rg_take (n := 8) (v := ?_) 3 (some 62) rfl rfl (by kernel_rfl) (by kernel_rfl) (by kernel_rfl) (fun _ _ _ h => h) (by rfl) hI ?_ ?_
      rotate_left
      · ((intro w hSw; (try dsimp only at hSw); go_simp); (try with_reducible rfl))
      try simp only [Act.put, List.setIfInBounds_toArray, List.set_cons_zero, List.set_cons_succ]
      refine rg_take (n := 7) (v := ?_) 4 (some 63) rfl rfl (by kernel_rfl) (by kernel_rfl) (by kernel_rfl) (fun _ _ _ h => h) (by rfl) hI ?_ ?_
      rotate_left
      · ((intro w hSw; (try dsimp only at hSw); go_simp); (try with_reducible rfl))
      try simp only [Act.put, List.setIfInBounds_toArray, List.set_cons_zero, List.set_cons_succ]
      refine rg_take (n := 6) (v := ?_) 5 (some 64) rfl rfl (by kernel_rfl) (by kernel_rfl) (by kernel_rfl) (fun _ _ _ h => h) (by rfl) hI ?_ ?_
      rotate_left
      · ((intro w hSw; (try dsimp only at hSw); go_simp); (try with_reducible rfl))
      try simp only [Act.put, List.setIfInBounds_toArray, List.set_cons_zero, List.set_cons_succ]
      refine rg_take (n := 5) (v := ?_) 6 (some 65) rfl rfl (by kernel_rfl) (by kernel_rfl) (by kernel_rfl) (fun _ _ _ h => h) (by rfl) hI ?_ ?_
      rotate_left
      · ((intro w hSw; (try dsimp only at hSw); go_simp); (try with_reducible rfl))
      try simp only [Act.put, List.setIfInBounds_toArray, List.set_cons_zero, List.set_cons_succ]
      refine rg_take (n := 4) (v := ?_) 7 (some 66) rfl rfl (by kernel_rfl) (by kernel_rfl) (by kernel_rfl) (fun _ _ _ h => h) (by rfl) hI ?_ ?_
      rotate_left
      · ((intro w hSw; (try dsimp only at hSw); go_simp); (try with_reducible rfl))
      try simp only [Act.put, List.setIfInBounds_toArray, List.set_cons_zero, List.set_cons_succ]
      refine rg_take (n := 3) (v := ?_) 8 (some 67) rfl rfl (by kernel_rfl) (by kernel_rfl) (by kernel_rfl) (fun _ _ _ h => h) (by rfl) hI ?_ ?_
      rotate_left
      · ((intro w hSw; (try dsimp only at hSw); go_simp); (try with_reducible rfl))
      try simp only [Act.put, List.setIfInBounds_toArray, List.set_cons_zero, List.set_cons_succ]
      refine rg_take (n := 2) (v := ?_) 9 (some 68) rfl rfl (by kernel_rfl) (by kernel_rfl) (by kernel_rfl) (fun _ _ _ h => h) (by rfl) hI ?_ ?_
      rotate_left
      · ((intro w hSw; (try dsimp only at hSw); go_simp); (try with_reducible rfl))
      try simp only [Act.put, List.setIfInBounds_toArray, List.set_cons_zero, List.set_cons_succ]
      refine rg_one (n := 1) 10 rfl (by kernel_rfl) (by rfl) ?_
      go_simp
      go_at_call 21
      refine (HK.out _ HD.out).mono ?_
      rintro e w3 ⟨rfl, hm3⟩
      have HM3 := Lib.hid (HD.out.trans hm3 (fun _ _ h => h))
      clear hm3
      clear hI
      have hI := (show (fun W : World => (W.cell? ⟨w.heap.size, 4, none⟩ = some (.slice (some ⟨b, o, none⟩) x.n x.c) ∧ W.cell? ⟨w.heap.size + 1, 4, none⟩ = some (.slice (some ⟨b2, o2, none⟩) x.n y.c)) ∧ (W.cell? ⟨b, o + i * 7, none⟩ = some (.int .i64 u.lsn) ∧ W.cell? ⟨b, o + i * 7 + 1, none⟩ = some (.int .i64 u.page) ∧ W.cell? ⟨b, o + i * 7 + 2, none⟩ = some (.int .i64 u.key) ∧ W.cell? ⟨b, o + i * 7 + 3, none⟩ = some (.bool u.o.is) ∧ W.cell? ⟨b, o + i * 7 + 4, none⟩ = some (.slice u.o.B u.o.m u.o.d) ∧ W.cell? ⟨b, o + i * 7 + 5, none⟩ = some (.bool u.v.is) ∧ W.cell? ⟨b, o + i * 7 + 6, none⟩ = some (.slice u.v.B u.v.m u.v.d)) ∧ (W.cell? ⟨b2, o2 + i * 7, none⟩ = some (.int .i64 v.lsn) ∧ W.cell? ⟨b2, o2 + i * 7 + 1, none⟩ = some (.int .i64 v.page) ∧ W.cell? ⟨b2, o2 + i * 7 + 2, none⟩ = some (.int .i64 v.key) ∧ W.cell? ⟨b2, o2 + i * 7 + 3, none⟩ = some (.bool v.o.is) ∧ W.cell? ⟨b2, o2 + i * 7 + 4, none⟩ = some (.slice v.o.B v.o.m v.o.d) ∧ W.cell? ⟨b2, o2 + i * 7 + 5, none⟩ = some (.bool v.v.is) ∧ W.cell? ⟨b2, o2 + i * 7 + 6, none⟩ = some (.slice v.v.B v.v.m v.v.d))) _ from HSt.out _ HM3.out)
      refine ⟨hI, ?_⟩
      try simp only [Act.put, List.setIfInBounds_toArray, List.set_cons_zero, List.set_cons_succ]
      refine rg_take (n := 0) (v := ?_) 11 (some 6) rfl rfl (by kernel_rfl) (by kernel_rfl) (by kernel_rfl) (fun _ _ _ h => h) (by rfl) hI ?_ ?_
      rotate_left
      · ((intro w hSw; (try dsimp only at hSw); go_simp); (try with_reducible rfl))
      try simp only [Act.put, List.setIfInBounds_toArray, List.set_cons_zero, List.set_cons_succ]
      refine wpAnyH_done (by kernel_rfl) ?_ _
      clear hI
      go_wp2
      go_roundw
      case rel => exact ⟨i + 1, by go_num, by omega, HM.out.trans HM3.out (fun _ _ h => h)⟩
      case measure => simp [intOf]; omega
    · obtain rfl : i = x.n := by omega
      rename World => V0
      go_wp2_with fail
      go_loopw [7] (fun k W => ∃ i : Nat, k = .int .i64 i ∧ i ≤ x.m ∧ Mod (fun _ => False) w1 W) (fun k _ => x.m - (intOf k).toNat)
      case atStart => exact ⟨0, rfl, by omega, HM.out⟩
      case round =>
        obtain ⟨i, rfl, hi, hm⟩ := hrel
        have HM2 := Lib.hid hm
        have HI2 := Lib.hid (HB1.out.keep hm)
        clear hm c0 c1 c2 c3 c4 c5 y0 y1 y2 y3 y4 y5
        obtain ⟨c0, c1, c2, c3, c4, c5⟩ := HI2.out.cells
        obtain ⟨y0, y1, y2, y3, y4, y5⟩ : wr.cell? ⟨w.heap.size + 1, 0, none⟩ = some (.int .i64 x.id) ∧ wr.cell? ⟨w.heap.size + 1, 1, none⟩ = some (.int .i64 x.st) ∧ wr.cell? ⟨w.heap.size + 1, 2, none⟩ = some (.int .i64 x.f) ∧ wr.cell? ⟨w.heap.size + 1, 3, none⟩ = some (.int .i64 x.l) ∧ wr.cell? ⟨w.heap.size + 1, 4, none⟩ = some (.slice y.A x.n y.c) ∧ wr.cell? ⟨w.heap.size + 1, 5, none⟩ = some (.slice y.B x.m y.d) := HYc.out _ HM2.out
        by_cases hlt : i < x.m
        · have hxr := HX.out.keep HM2.out
          have hyr := HY.out.keep HM2.out
          obtain ⟨b, o, hB, hcs⟩ := hxr.S.2.2 (by omega)
          obtain ⟨b2, o2, hB2, hcs2⟩ := hyr.S.2.2 (HBy.out (by omega))
          have s0 := hcs i _ (atI_at (by rw [Hsx.out]; exact hlt))
          have s1 := hcs2 i _ (atI_at (by rw [PS.out, Hsx.out]; exact hlt))
          rw [PS.out] at s1
          have l1 : i < x.d := by omega
          have l2 : i < y.d := by omega
          have hm1 : x.m ≤ 1000 := Hm.out
          rw [hB] at c5
          rw [hB2] at y5
          clear hxr hyr hB hB2 hcs hcs2
          go_wp2_with fail
          go_quiet (fail)
          go_wp2
          go_roundw
          case rel => exact ⟨i + 1, by go_num, by omega, HM2.out.drewN _⟩
          case measure => simp [intOf]; omega
        · obtain rfl : i = x.m := by omega
          go_wp2
          go_ret
          exact ⟨rfl, HM1.out.trans HM2.out (fun _ _ h => h)⟩
end Go.Proofs.Ytidcmolkolcliaa
