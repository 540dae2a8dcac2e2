/-
  wal.ring.batches: its iterator.
-/
import Derived.Test.YtnbamljaiahmdaaGreatQRdB
import Derived.Test.YtnbamljaiahmdaaGreatQRd
import Derived.Lib.SliceRun
import Derived.Shelf.Abstract
import Derived.Shelf.RegionOpen
import Derived.RangeFuncBound
import Derived.RangeFuncCalls
import Derived.WalkKit
import Derived.OwnWalkIn
import Derived.TacticsInMore
import Derived.LoopNIn
import Derived.LoopIn
namespace Go.Proofs.YtnbamljaiahmdaaGreat
open Go Go.RowKit Go.Shelf
attribute [local go_sem] Oper.semAt_some

theorem grown_none {w w' : World} (h : Mod (fun _ => False) w w') : w.grownBy w' none := ⟨h.os, h.tape, h.output, h.size, fun k hk _ => h.block k hk id⟩
theorem grown_one {w w' : World} {b : Nat} (h : Mod (fun k => k = b) w w') : w.grownBy w' (some b) := ⟨h.os, h.tape, h.output, h.size, fun k hk hne => h.block k hk (fun e => hne (by rw [e]))⟩

/-- What is known of a batch that is handed on. -/
def FxB (B : Nat) (z : BtD) (W : World) : Prop := OwN W (B + 1) 47 14 z.A z.n z.c (recsC z.l) ∧ (∀ y ∈ z.l, y.o.Own W (B + 1) ∧ y.v.Own W (B + 1)) ∧ headOk z.e z.s z.f = true ∧ z.l.length ≤ 60 ∧ B + 1 ≤ W.heap.size
/-- What a round keeps: what lay, but for G; all batches. -/
def KpB (n0 : Nat) (G : Nat → Prop) (X Y : World) : Prop := Mod (fun k => G k ∨ n0 ≤ k) X Y ∧ ∀ (k : Nat) (cur : Array Value) (fr : Nat × Nat), X.heap[k]? = some (.cells cur 68 fr) → Y.heap[k]? = some (.cells cur 68 fr)
theorem KpB.trans {n0 : Nat} {G : Nat → Prop} {A B C : World} (h : KpB n0 G A B) (k : KpB n0 G B C) : KpB n0 G A C := ⟨h.1.trans k.1 (fun _ _ h => h), fun i cur fr e => k.2 i cur fr (h.2 i cur fr e)⟩

theorem mod_cut {G : Nat → Prop} {w W : World} (h : Mod (fun k => G k ∨ w.heap.size ≤ k) w W) : Mod G w W := ⟨h.os, h.tape, h.output, h.size, fun k hk hG => h.block k hk (fun e => e.elim hG (fun e => by omega))⟩

set_option maxRecDepth 100000 in
set_option maxHeartbeats 4000000 in
theorem bats_seq (m Bf Br : Nat) (hm : 2 ≤ m) (w : World) (x : DV) (d : Dk) (G : Nat → Prop) (b from_ : Int) (n : Nat) (b0 : 0 ≤ b) (b1 : b ≤ 4096) (n2 : 2 ≤ n) (n1 : n ≤ 4096) (f0 : 0 ≤ from_) (f1 : from_ ≤ 16777215)
    (hD : ∀ W, Mod G w W → ∃ w0, Dev w0 W x d) (hBf : ∀ W, Mod G w W → W.cell? ⟨Bf, 0, none⟩ = some (.int .i64 from_))
    (hBr : ∀ W, Mod G w W → W.cell? ⟨Br, 0, none⟩ = some (.pointer (some ⟨x.p, 0, none⟩)) ∧ W.cell? ⟨Br, 1, none⟩ = some (.int .i64 b) ∧ W.cell? ⟨Br, 2, none⟩ = some (.int .i64 n)) :
    SeqT Fence.wide m Tryz.prog 41 #[.pointer (some ⟨Bf, 0, none⟩), .pointer (some ⟨Br, 0, none⟩)] (fun z => #[.agg z.cells]) FxB (KpB w.heap.size G) 1 n
      (fun zs => zs.map BtD.m = batsM (fun q => d.read (b + q % n)) n from_ .zero) w := by
  intro l J W0 hW hJ hY h0
  obtain ⟨R, hR⟩ : ∃ R : Int → List UInt8, (fun q : Int => d.read (b + q % n)) = R := ⟨_, rfl⟩
  have hRq : ∀ q, d.read (b + q % n) = R q := fun q => by rw [← hR]
  rw [hR]
  have hBa : ∀ W, Mod G w W → ∀ q, 0 ≤ q → Calls Tryz.prog 42 #[.agg #[.pointer (some ⟨x.p, 0, none⟩), .int .i64 b, .int .i64 n], .int .i64 q] W (BaA W (batM (R q) q)) := fun W hW q hq => by
    obtain ⟨w0, hd⟩ := hD W hW
    have := batch_ok W w0 x d hd b n q b0 b1 (by omega) (by omega) hq
    rw [hRq] at this
    exact this
  have HBa := Lib.hid hBa
  have HY := Lib.hid hY
  have HJ := Lib.hid hJ
  have HBf := Lib.hid hBf
  have HBr := Lib.hid hBr
  obtain ⟨B, hB⟩ : ∃ B, W0.heap.size = B := ⟨_, rfl⟩
  rw [hB] at HY HJ
  have hmW : Mod (fun k => G k ∨ w.heap.size ≤ k) w W0 := (Mod.of_below hW (F := fun k => w.heap.size ≤ k) (fun _ h => h)).mono (fun _ _ h => .inr h)
  have hnB : w.heap.size ≤ B := by rw [← hB]; exact hmW.size
  obtain ⟨W1, hW1⟩ : ∃ W1, W0.alloc (.cells BtD.zero.cells 68) = W1 := ⟨_, rfl⟩
  have hm1 : Mod (fun _ => False) W0 W1 := by rw [← hW1]; exact (Mod.refl _ W0).alloc _
  have hI1 : BtD.zero.In W1 B := by rw [← hW1, ← hB]; exact BtD.In.new W0 _
  have HJ1 : Hid (J [] W1) := hJ [] W0 W1 none h0 (grown_none hm1) (fun r e => by cases e)
  have Hm1 : Hid (Mod (fun k => G k ∨ w.heap.size ≤ k) w W1) := hmW.trans (hm1.mono (fun _ _ h => h.elim)) (fun _ _ h => h)
  have HI1 := Lib.hid hI1
  have hW1' : W0.alloc (.cells #[.int .i64 0, .int .i64 0, .int .i64 0, .slice none 0 0] 68) = W1 := hW1
  have HB := Lib.hid hB
  have HnB := Lib.hid hnB
  have cf := hBf W1 (mod_cut Hm1.out)
  clear hBa hY hJ hBf hBr hD hRq hR hB hmW hW h0 hm1 hI1 hW1 hnB
  refine callsIn_of_wp Tryz.func41 rfl trivial ?_ rfl
  simp only [Tryz.ntmps41, List.size_toArray, List.length_cons, List.length_nil, Nat.reduceAdd, Nat.reduceSub, Array.replicate_succ, Array.replicate_zero, List.push_toArray, List.append_toArray, List.nil_append, List.cons_append]
  have h1 : 1 ≤ m := by omega
  gi_wp2_with fail
  rw [HB.out]
  clear hW1' cf
  gi_loopw [5] (fun i wr => ∃ (j : Nat) (pre : List BtD) (y : BtD), j ≤ n ∧ pre.length = j ∧ i = .int .i64 (from_ + j) ∧ J pre wr ∧ y.In wr B ∧ y.m = lastB (pre.map BtD.m) ∧ pre.map BtD.m ++ batsM R (n - j) (from_ + j) y.m = batsM R n from_ .zero ∧ Mod (fun k => G k ∨ w.heap.size ≤ k) w wr) (fun i _ => (from_ + n - (intOf i)).toNat)
  case atStart => exact ⟨0, [], BtD.zero, by omega, rfl, by simp, HJ1.out, HI1.out, rfl, by simp; rfl, Hm1.out⟩
  case round =>
    obtain ⟨j, pre, y, hj, hpl, rfl, hJp, hIy, hyl, hgo, hmr⟩ := hrel
    have cf := HBf.out wr (mod_cut hmr)
    obtain ⟨r0, r1, r2⟩ := HBr.out wr (mod_cut hmr)
    have HJp := Lib.hid hJp
    have HIy := Lib.hid hIy
    have Hyl := Lib.hid hyl
    have Hgo := Lib.hid hgo
    have Hmr := Lib.hid hmr
    have Hpl := Lib.hid hpl
    clear hJp hIy hyl hgo hmr hpl HJ1 HI1 Hm1
    by_cases hlt : j < n
    · have q1 : decide (from_ + (j : Int) < from_ + (n : Int)) = true := by rw [decide_eq_true_eq]; omega
      have HB2 := Lib.hid (HBa.out wr (mod_cut Hmr.out) (from_ + j) (by omega))
      obtain ⟨K, hK⟩ : ∃ K, n - j = K + 1 := ⟨n - j - 1, by omega⟩
      have HK := Lib.hid hK
      clear hK
      gi_wp2_with fail
      refine ⟨trivial, ?_⟩
      refine (callsIn_wide.2 HB2.out).mono ?_
      rintro e w2 ⟨z, rfl, hm2, hz⟩
      have hJ2 := HJ.out pre wr w2 none HJp.out (grown_none hm2) (fun r e => by cases e)
      have hma : Mod (fun _ => False) w2 (w2.alloc (.cells z.cells 68)) := (Mod.refl _ w2).alloc _
      have hJ3 := HJ.out pre w2 _ none hJ2 (grown_none hma) (fun r e => by cases e)
      have HJ3 := Lib.hid hJ3
      have hI3 := (HIy.out.keep hm2).keep hma
      have hX3 := BtD.In.new w2 z
      cases hb : batM (R (from_ + j)) (from_ + j) with
      | none =>
        have Hend : Hid (pre.map BtD.m = batsM R n from_ .zero) := by
          have := Hgo.out
          rw [batsM_end R (accM_no1 hb), List.append_nil] at this
          exact this
        have hs : (none : Option Bm).isSome = false := rfl
        rw [hs]
        clear hb hs hz hm2 hJ2 hma hJ3 hI3 hX3 HB2 HBa
        gi_wp2_with fail
        refine ⟨trivial, ?_⟩
        gi_wp2
        refine ⟨(fun f e => by cases e), ?_⟩
        gi_wp2
        refine bodyPost_ret (results_none rfl _ _ _) rfl ?_
        exact ⟨⟨_, rfl⟩, pre, Hend.out, HJ3.out⟩
      | some bm =>
        obtain ⟨hrow, hown, hzm⟩ := hz bm hb
        obtain ⟨u1, u2, u3, u4, u5, u6, u7, u8, u9⟩ := batM_some hb
        have hs : (some bm).isSome = true := rfl
        rw [hs]
        have hhd : headOk z.e z.s z.f = true ∧ z.l.length ≤ 60 := by
          have h1 := unpack_head u3
          have e1 : z.e = bm.e := by rw [← hzm]; rfl
          have e2 : z.s = bm.s := by rw [← hzm]; rfl
          have e3 : z.f = bm.f := by rw [← hzm]; rfl
          have e4 : z.l.map RcD.p = bm.l := by rw [← hzm]; rfl
          rw [u6] at h1
          refine ⟨by rw [e1, e2, e3, u4, u5, u7]; exact h1.1, ?_⟩
          rw [← List.length_map (f := RcD.p), e4]
          exact h1.2
        have hBw : B + 1 ≤ wr.heap.size := HIy.out.lt
        have hF2 : FxB B z w2 := ⟨hrow.rebase hBw, fun y hy => ⟨Own.rebase (hown y hy).1 hBw, Own.rebase (hown y hy).2 hBw⟩, hhd.1, hhd.2, Nat.le_trans hBw hm2.size⟩
        have Hfol := Lib.hid (follows_ok (w2.alloc (.cells z.cells 68)) y z)
        have y0 := hI3.c0
        have y1 := hI3.c1
        have y2 := hI3.c2
        have y3 := hI3.c3
        have x0 := hX3.c0
        have x1 := hX3.c1
        have x2 := hX3.c2
        have x3 := hX3.c3
        have Hzm := Lib.hid hzm
        have Hb := Lib.hid hb
        have HF2 := Lib.hid hF2
        have HX3 := Lib.hid hX3
        have HI3 := Lib.hid hI3
        have Hm3 := Lib.hid (hm2.trans hma (fun _ _ h => h))
        have Hgx : Hid (B < w2.heap.size) := Nat.lt_of_lt_of_le HIy.out.lt hm2.size
        clear hs hrow hown hzm u1 u2 u3 u4 u5 u6 u7 u8 u9 hhd hBw hF2 hm2 hJ2 hma hJ3 hI3 hX3 hz hb HB2
        cases hfo : folB y.m z.m with
        | false =>
          have Hend : Hid (pre.map BtD.m = batsM R n from_ .zero) := by
            have := Hgo.out
            rw [batsM_end R (accM_no2 Hb.out (by rw [← Hzm.out]; exact hfo)), List.append_nil] at this
            exact this
          rw [hfo] at Hfol
          clear hfo
          gi_wp2_with fail
          refine ⟨trivial, ?_⟩
          refine (callsIn_wide.2 Hfol.out).mono ?_
          rintro e w4 ⟨rfl, hm4⟩
          have HJ4 := Lib.hid (HJ.out pre _ w4 none HJ3.out (grown_none hm4) (fun r e => by cases e))
          clear hm4 y0 y1 y2 y3 x0 x1 x2 x3
          gi_wp2
          refine ⟨(fun f e => by cases e), ?_⟩
          gi_wp2
          refine bodyPost_ret (results_none rfl _ _ _) rfl ?_
          exact ⟨⟨_, rfl⟩, pre, Hend.out, HJ4.out⟩
        | true =>
          have Hacc : Hid (accM R (from_ + j) y.m = some z.m) := accM_yes (by rw [Hzm.out]; exact Hb.out) hfo
          rw [hfo] at Hfol
          clear hfo
          gi_wp2_with fail
          refine ⟨trivial, ?_⟩
          refine (callsIn_wide.2 Hfol.out).mono ?_
          rintro e w4 ⟨rfl, hm4⟩
          have hJ4 := HJ.out pre _ w4 none HJ3.out (grown_none hm4) (fun r e => by cases e)
          have hI4 := HI3.out.keep hm4
          have hX4 := HX3.out.keep hm4
          have hm24 : Mod (fun _ => False) w2 w4 := ((Mod.refl _ w2).alloc _).trans hm4 (fun _ _ h => h)
          have hF4 : FxB B z w4 := ⟨HF2.out.1.mod hm24 (fun _ _ => id), fun y hy => ⟨OwV.mod (HF2.out.2.1 y hy).1 hm24 (fun _ _ => id), OwV.mod (HF2.out.2.1 y hy).2 hm24 (fun _ _ => id)⟩, HF2.out.2.2.1, HF2.out.2.2.2.1, Nat.le_trans HF2.out.2.2.2.2 hm24.size⟩
          obtain ⟨fn, tmps, assign, body, hy, hR⟩ := HY.out pre z w4 hJ4 hF4 (by have := Hpl.out; omega)
          have HR := Lib.hid hR
          have v0 := hX4.c0
          have v1 := hX4.c1
          have v2 := hX4.c2
          have v3 := hX4.c3
          have HI4 := Lib.hid hI4
          have HX4 := Lib.hid hX4
          have Hm4 : Hid (Mod (fun k => G k ∨ w.heap.size ≤ k) w w4) := Hmr.out.trans ((Hm3.out.trans hm4 (fun _ _ h => h)).mono (fun _ _ h => h.elim)) (fun _ _ h => h)
          clear hm4 hJ4 hI4 hX4 hm24 hF4 hR y0 y1 y2 y3 x0 x1 x2 x3 r0 r1 r2 cf HF2 HX3 HI3 Hm3 HJ3 Hfol
          gi_wp2
          refine HR.out.mono ?_
          rintro e w5 ⟨rfl, hJ5, hK5⟩
          have hI5 : y.In w5 B := hK5.2 _ _ _ HI4.out
          have hX5 : z.In w5 w2.heap.size := hK5.2 _ _ _ HX4.out
          have hne : ¬ w2.heap.size = B := by have := Hgx.out; omega
          obtain ⟨w6, hw6⟩ : ∃ w6, stBat w5 B z = w6 := ⟨_, rfl⟩
          have hm6 : Mod (fun k => k = B) w5 w6 := by rw [← hw6]; exact stBat_mod _ _ _
          have HI6 : Hid (z.In w6 B) := by show z.In _ _; rw [← hw6]; exact stBat_in hI5 z
          have HJ6 : Hid (J (pre ++ [z]) w6) := HJ.out _ w5 w6 (some B) hJ5 (grown_one hm6) (fun r e => by cases e; exact ⟨Nat.le_refl _, by omega⟩)
          have HnB2 := HnB.out
          have Hm6 : Hid (Mod (fun k => G k ∨ w.heap.size ≤ k) w w6) := (Hm4.out.trans hK5.1 (fun _ _ h => h)).trans hm6 (fun k hk e => .inr (by omega))
          have Hw6 : Hid ((((w5.setCell ⟨B, 0, none⟩ (.int .i64 z.e)).setCell ⟨B, 1, none⟩ (.int .i64 z.s)).setCell ⟨B, 2, none⟩ (.int .i64 z.f)).setCell ⟨B, 3, none⟩ (.slice z.A z.n z.c) = w6) := hw6
          have y0 := hI5.c0
          have y1 := hI5.c1
          have y2 := hI5.c2
          have y3 := hI5.c3
          have ff := hI5.fz
          have x0 := hX5.c0
          have x1 := hX5.c1
          have x2 := hX5.c2
          have x3 := hX5.c3
          clear v0 v1 v2 v3 HR HI4 HX4 Hm4 hJ5 hK5 hI5 hX5 hw6 hm6 HnB2 hy
          gi_wp2
          rw [Hw6.out]
          clear y0 y1 y2 y3 ff x0 x1 x2 x3
          go_roundw
          case rel => exact ⟨j + 1, pre ++ [z], z, by omega, by rw [List.length_append, Hpl.out]; rfl, by go_num, HJ6.out, HI6.out, by rw [List.map_append]; exact (lastB_snoc _ _).symm, by
            have := Hgo.out
            rw [HK.out, batsM_go R Hacc.out] at this
            rw [show n - (j + 1) = K by have := HK.out; omega, List.map_append, List.append_assoc]
            rw [show from_ + ((j + 1 : Nat) : Int) = from_ + j + 1 by omega]
            exact this, Hm6.out⟩
          case measure => simp [intOf]; omega
    · have q1 : decide (from_ + (j : Int) < from_ + (n : Int)) = false := by rw [decide_eq_false_iff_not]; omega
      have Hend : Hid (pre.map BtD.m = batsM R n from_ .zero) := by
        have := Hgo.out
        rw [show n - j = 0 by omega, batsM, List.append_nil] at this
        exact this
      gi_wp2
      go_end0
      exact ⟨⟨_, rfl⟩, pre, Hend.out, HJp.out⟩
end Go.Proofs.YtnbamljaiahmdaaGreat
