/-
  CostPages: which pages are live in a segment, and in which of its slots, does not matter, but how many.
-/
import Derived.Test.YthbcgbbcoanbdaaCLaw
import Derived.Test.YthbcgbbcoanbdaaCRev
import Derived.Test.YthbcgbbcoanbdaaTCopy
namespace Go.Proofs.Ythbcgbbcoanbdaa
open Go Go.RowKit

/-- The other table under way: its box (at the end of w), its pages' row. -/
structure Uw (w W : World) (x : TV) (A : Option Addr) (n c : Nat) (l : List Tr) : Prop where
  bx : TBx W w.heap.size ⟨A, n, c, x.S, x.m, x.d, ⟨l, x.t.sg, x.t.sl, x.t.nw⟩⟩
  pg : Ow3 W (w.heap.size + 1) 34 A n c l
  old : Mod (fun _ => False) w W
  sz : w.heap.size + 1 ≤ W.heap.size
section
variable {w W W' : World} {x : TV} {A A' : Option Addr} {n c c5 : Nat} {l l' : List Tr}
theorem Uw.keep (h : Uw w W x A n c l) (hm : Mod (fun _ => False) W W') : Uw w W' x A n c l := ⟨h.bx.keep hm, h.pg.keep hm, h.old.trans hm (fun _ _ h => h), Nat.le_trans h.sz hm.size⟩
theorem Uw.new (w : World) (x : TV) : Uw w (w.alloc (.cells #[.slice none 0 0, .slice x.S x.m x.d, .int .i64 x.t.sl, .int .i64 x.t.nw] 27)) x none 0 0 [] :=
  ⟨TBx.new w ⟨none, 0, 0, x.S, x.m, x.d, ⟨[], x.t.sg, x.t.sl, x.t.nw⟩⟩, OwN.nil _ _ _ _, (Mod.refl _ w).alloc _, by rw [World.size_alloc]; omega⟩
theorem Uw.box (h : Uw w W x A n c l) (hm : Mod (fun q => blkOf A = some q) W W') : TBx W' w.heap.size ⟨A, n, c, x.S, x.m, x.d, ⟨l, x.t.sg, x.t.sl, x.t.nw⟩⟩ :=
  h.bx.mod hm (fun e => by have := (h.pg.lt _ e).1; omega)
theorem Uw.add (h : Uw w W x A n c l) (ho : Ow3 W' (w.heap.size + 1) 34 A' (n + 1) c5 l') (hm : Mod (fun q => blkOf A = some q) W W') :
    Uw w (W'.setCell ⟨w.heap.size, 0, none⟩ (.slice A' (n + 1 : Nat) c5)) x A' (n + 1) c5 l' := by
  have hmm : Mod (fun q => q = w.heap.size) W' (W'.setCell ⟨w.heap.size, 0, none⟩ (.slice A' (n + 1 : Nat) c5)) := (Mod.refl (fun q => q = w.heap.size) W').one (fun _ => rfl) 0 _
  have hall : Mod (fun q => w.heap.size ≤ q) w (W'.setCell ⟨w.heap.size, 0, none⟩ (.slice A' (n + 1 : Nat) c5)) :=
    ((h.old.mono (G := fun q => w.heap.size ≤ q) (fun _ _ h => h.elim)).trans hm (fun q _ e => by have := (h.pg.lt q e).1; show w.heap.size ≤ q; omega)).trans hmm (fun q _ e => by show w.heap.size ≤ q; omega)
  exact ⟨heap_set (h.box hm) 0 _, ho.mod hmm (fun q hq e => by have := (ho.lt q hq).1; omega), hall.mono (fun q hq e => by omega), Nat.le_trans h.sz (Nat.le_trans hm.size hmm.size)⟩
end

set_option maxRecDepth 100000 in
set_option maxHeartbeats 12800000 in
theorem pages_walk (x : TV) (W : World) (h : x.At W) :
    Calls Try.prog 7 #[.agg #[.slice x.P x.n x.c, .slice x.S x.m x.d, .int .i64 x.t.sl, .int .i64 x.t.nw]] W fun e w' => e = .returned (.bool true) ∧ Below W.heap.size W w' := by
  obtain ⟨w1, hw1⟩ : ∃ w1, W.alloc (.cells #[.slice x.P x.n x.c, .slice x.S x.m x.d, .int .i64 x.t.sl, .int .i64 x.t.nw] 27) = w1 := ⟨_, rfl⟩
  have hm1 : Mod (fun _ => False) W w1 := by rw [← hw1]; exact (Mod.refl _ W).alloc _
  have hb1 : TBx w1 W.heap.size x := by rw [← hw1]; exact TBx.new W x
  have HB1 := Lib.hid hb1
  have HX1 := Lib.hid (h.keep hm1)
  have HM1 := Lib.hid hm1
  have Hpl : Hid (x.t.pg.length = x.n) := h.pg.len
  have Hsl : Hid (x.t.sg.length = x.m) := h.sg.len
  clear hb1 hm1 h
  cases hlt : (decide (x.n ≤ 40) && decide (x.m ≤ 40)) with
  | false =>
    go_enter Try.func7, Try.ntmps7
    go_wp2_with fail
    refine (cawake_ok _).mono ?_
    rintro e w2 ⟨rfl, hm2⟩
    clear hw1
    have HB2 := Lib.hid (HB1.out.keep hm2)
    have HX2 := Lib.hid (HX1.out.keep hm2)
    have HM2 := Lib.hid (HM1.out.trans hm2 (fun _ _ h => h))
    clear hm2
    obtain ⟨c0, c1, c2, c3⟩ := HB2.out.cells
    go_wp2_with fail
    refine (clight_ok _ x).mono ?_
    rintro e w3 ⟨rfl, hm3⟩
    clear c0 c1 c2 c3
    have HB3 := Lib.hid (HB2.out.keep hm3)
    have HX3 := Lib.hid (HX2.out.keep hm3)
    have HM3 := Lib.hid (HM2.out.trans hm3 (fun _ _ h => h))
    clear hm3
    rw [hlt]
    go_wp2
    go_ret
    exact ⟨rfl, HM3.out.below (Nat.le_refl _) (fun _ _ => id)⟩
  | true =>
  have hnm : x.n ≤ 40 ∧ x.m ≤ 40 := by simpa using hlt
  obtain ⟨hn, hm⟩ := hnm
  have hn' : x.n ≤ 1000 := by omega
  have hm' : x.m ≤ 1000 := by omega
  have HMY : Hid (∀ V, x.At V → Calls Try.prog 20 #[.agg #[.slice x.P x.n x.c, .slice x.S x.m x.d, .int .i64 x.t.sl, .int .i64 x.t.nw]] V fun e w' => e = .returned (.bool (mayB x.t)) ∧ Mod (fun _ => False) V w') := fun V hV => tmay_ok V x hV hn' hm'
  cases hmy : mayB x.t with
  | false =>
    rw [hmy] at HMY
    clear hmy
    go_enter Try.func7, Try.ntmps7
    go_wp2_with fail
    refine (cawake_ok _).mono ?_
    rintro e w2 ⟨rfl, hm2⟩
    clear hw1
    have HB2 := Lib.hid (HB1.out.keep hm2)
    have HX2 := Lib.hid (HX1.out.keep hm2)
    have HM2 := Lib.hid (HM1.out.trans hm2 (fun _ _ h => h))
    clear hm2
    obtain ⟨c0, c1, c2, c3⟩ := HB2.out.cells
    go_wp2_with fail
    refine (clight_ok _ x).mono ?_
    rintro e w3 ⟨rfl, hm3⟩
    clear c0 c1 c2 c3
    have HB3 := Lib.hid (HB2.out.keep hm3)
    have HX3 := Lib.hid (HX2.out.keep hm3)
    have HM3 := Lib.hid (HM2.out.trans hm3 (fun _ _ h => h))
    clear hm3
    rw [hlt]
    obtain ⟨c0, c1, c2, c3⟩ := HB3.out.cells
    go_wp2_with fail
    refine (HMY.out _ HX3.out).mono ?_
    rintro e w4 ⟨rfl, hm4⟩
    clear c0 c1 c2 c3
    have HB4 := Lib.hid (HB3.out.keep hm4)
    have HX4 := Lib.hid (HX3.out.keep hm4)
    have HM4 := Lib.hid (HM3.out.trans hm4 (fun _ _ h => h))
    clear hm4
    go_wp2
    go_ret
    exact ⟨rfl, HM4.out.below (Nat.le_refl _) (fun _ _ => id)⟩
  | true =>
  rw [hmy] at HMY
  have Hmay := Lib.hid (mayB_iff.1 hmy)
  clear hmy
  have HV := Lib.hid (fun V (hV : x.At V) => victim_ok V x hV hn' hm')
  have HVU : Hid (∀ A c V, (⟨A, x.n, c, x.S, x.m, x.d, revT x.t⟩ : TV).At V → Calls Try.prog 18 #[.agg #[.slice A x.n c, .slice x.S x.m x.d, .int .i64 x.t.sl, .int .i64 x.t.nw]] V fun e w' => e = .returned (.tuple #[.int .i64 (vcT x.t).v, .bool (vcT x.t).f]) ∧ Mod (fun _ => False) V w') := fun A c V hV => by
    have := victim_ok V ⟨A, x.n, c, x.S, x.m, x.d, revT x.t⟩ hV hn' hm'
    rw [show (⟨A, x.n, c, x.S, x.m, x.d, revT x.t⟩ : TV).t = revT x.t from rfl, rev_vcT Hmay.out] at this
    exact this
  generalize (vcT x.t).v = v at *
  generalize (vcT x.t).f = f at *
  have q3 : (v == v) = true := by simp
  have q4 : (f == f) = true := by simp
  go_enter Try.func7, Try.ntmps7
  go_wp2_with fail
  refine (cawake_ok _).mono ?_
  rintro e w2 ⟨rfl, hm2⟩
  clear hw1
  have HB2 := Lib.hid (HB1.out.keep hm2)
  have HX2 := Lib.hid (HX1.out.keep hm2)
  have HM2 := Lib.hid (HM1.out.trans hm2 (fun _ _ h => h))
  clear hm2
  obtain ⟨c0, c1, c2, c3⟩ := HB2.out.cells
  go_wp2_with fail
  refine (clight_ok _ x).mono ?_
  rintro e w3 ⟨rfl, hm3⟩
  clear c0 c1 c2 c3
  have HB3 := Lib.hid (HB2.out.keep hm3)
  have HX3 := Lib.hid (HX2.out.keep hm3)
  have HM3 := Lib.hid (HM2.out.trans hm3 (fun _ _ h => h))
  clear hm3
  rw [hlt]
  obtain ⟨c0, c1, c2, c3⟩ := HB3.out.cells
  go_wp2_with fail
  refine (HMY.out _ HX3.out).mono ?_
  rintro e w4 ⟨rfl, hm4⟩
  clear c0 c1 c2 c3
  have HB4 := Lib.hid (HB3.out.keep hm4)
  have HX4 := Lib.hid (HX3.out.keep hm4)
  have HM4 := Lib.hid (HM3.out.trans hm4 (fun _ _ h => h))
  clear hm4
  obtain ⟨c0, c1, c2, c3⟩ := HB4.out.cells
  obtain ⟨w5, hw5⟩ : ∃ w5, w4.alloc (.cells #[.slice none 0 0, .slice x.S x.m x.d, .int .i64 x.t.sl, .int .i64 x.t.nw] 27) = w5 := ⟨_, rfl⟩
  have hu5 : Uw w4 w5 x none 0 0 [] := by rw [← hw5]; exact Uw.new w4 x
  have HU5 := Lib.hid hu5
  obtain ⟨d0, d1, d2, d3⟩ := (HB4.out.keep hu5.old).cells
  clear hu5
  go_wp2
  clear hw5 c0 c1 c2 c3 d0 d1 d2 d3
  go_loopw [6] (fun i wr => ∃ (j : Nat) (A : Option Addr) (c : Nat) (K : Int), j ≤ x.n ∧ K = (x.n : Int) - 1 - j ∧ i = .int .i64 K ∧ Uw w4 wr x A j c ((x.t.pg.reverse.take j).map rv)) (fun i _ => (intOf i + 1).toNat)
  case atStart => exact ⟨0, none, 0, (x.n : Int) - 1, Nat.zero_le _, by omega, by first | rfl | go_num, HU5.out⟩
  case round =>
    obtain ⟨j, A, c, K, hj, hK, rfl, hu⟩ := hrel
    have HBr := Lib.hid (HB4.out.keep hu.old)
    have HXr := Lib.hid (HX4.out.keep hu.old)
    obtain ⟨c0, c1, c2, c3⟩ := HBr.out.cells
    clear HU5
    by_cases hlt : j < x.n
    · obtain ⟨k, rfl⟩ : ∃ k : Nat, K = (k : Int) := ⟨K.toNat, by omega⟩
      have hkn : k < x.n := by omega
      have hk : k = x.n - 1 - j := by omega
      have Hrt := Lib.hid (rev_take (l := x.t.pg) (j := j) (by rw [Hpl.out]; exact hlt))
      rw [Hpl.out, ← hk] at Hrt
      obtain ⟨b, o, hP, hcs⟩ := HXr.out.pg.cells (by omega)
      obtain ⟨s0, s1, s2⟩ := hcs k hkn
      generalize atS x.t.pg k = p at *
      rw [hP] at c0
      have Hj : Hid ((k : Int) = (x.n : Int) - 1 - j) := hK
      have hki : (k : Int) < (x.n : Int) := by omega
      have hk0 : (0 : Int) ≤ (k : Int) := by omega
      have hkd : decide ((0 : Int) ≤ (k : Int)) = true := decide_eq_true hk0
      have hne : b ≠ wr.heap.size := by have := World.block_lt_of_cell? _ _ s0; have h2 : (⟨b, o + k * 3, none⟩ : Addr).block = b := rfl; omega
      have hsrc : SrcN ((wr.alloc (.cells #[.int .i64 p.a, .int .i64 p.b, .int .i64 0] 34)).alloc (.cells #[.int .i64 p.a, .int .i64 p.b, .int .i64 0] 34)) (some ⟨wr.heap.size + 1, 0, none⟩) 1 3 (trs [rv p]) := by
        have := SrcN.lit (wr.alloc (.cells #[.int .i64 p.a, .int .i64 p.b, .int .i64 0] 34)) [.int .i64 p.a, .int .i64 p.b, .int .i64 0] 34 (by simp [Value.oneCell'])
        rw [World.size_alloc] at this
        exact this
      have ho4 : Ow3 ((wr.alloc (.cells #[.int .i64 p.a, .int .i64 p.b, .int .i64 0] 34)).alloc (.cells #[.int .i64 p.a, .int .i64 p.b, .int .i64 0] 34)) (w4.heap.size + 1) 34 A j c ((x.t.pg.reverse.take j).map rv) := hu.pg.keep (((Mod.refl _ wr).alloc _).alloc _)
      have hbase : w4.heap.size + 1 ≤ ((wr.alloc (.cells #[.int .i64 p.a, .int .i64 p.b, .int .i64 0] 34)).alloc (.cells #[.int .i64 p.a, .int .i64 p.b, .int .i64 0] 34)).heap.size := by have := hu.sz; rw [World.size_alloc, World.size_alloc]; omega
      obtain ⟨u0, u1, u2, u3⟩ := hu.bx.cells
      have HU := Lib.hid hu
      have HK := Lib.hid hk
      clear hu hcs hP hK hk
      have hA0 : ∀ i : Nat, (wr.alloc (.cells #[.int .i64 p.a, .int .i64 p.b, .int .i64 0] 34)).cell? ⟨w4.heap.size, i, none⟩ = wr.cell? ⟨w4.heap.size, i, none⟩ := fun i => World.cell?_of_block (((Mod.refl (fun _ => False) wr).alloc _).block _ HU.out.bx.lt id)
      have ua := (hA0 0).trans u0
      clear hA0
      go_wp2_with (at_builtin; refine wpList_appN (.tmp 49) (.tmp 51) plElem rfl rfl rfl rfl ho4 hsrc (by omega) (by unfold maxLen; omega) hbase ?_; intro A5 c5 w5 ho5 hg5 hat5; rw [← trs_append, ← Hrt.out] at ho5; have hmod : Mod (fun q => blkOf A = some q) wr w5 := (((Mod.refl (fun q => blkOf A = some q) wr).alloc _).alloc _).grown hg5 (fun q e _ => e); have hn5 := HU.out.add ho5 hmod; have hbx5 := HU.out.box hmod; have f5 := hbx5.frozen 0; obtain ⟨e0, e1, e2, e3⟩ := hbx5.cells; have Hn5 := Lib.hid hn5; clear hsrc ho4 hbase ho5 hg5 hat5 hmod hbx5 hn5 c0 c1 c2 c3 s0 s1 s2 u0 u1 u2 u3 ua)
      go_roundw
      case rel => exact ⟨j + 1, A5, c5, (k : Int) - 1, by omega, by have := Hj.out; omega, by first | rfl | go_num, Hn5.out⟩
      case measure => simp [intOf]
    · obtain rfl : j = x.n := by omega
      have hkd : decide ((0 : Int) ≤ K) = false := by rw [decide_eq_false_iff_not]; omega
      have hat : (⟨A, x.n, c, x.S, x.m, x.d, revT x.t⟩ : TV).At wr := by
        refine ⟨?_, HXr.out.sg⟩
        have := hu.pg.tl
        rw [List.take_of_length_le (by rw [List.length_reverse, Hpl.out]; exact Nat.le_refl _)] at this
        exact this
      have HAT := Lib.hid hat
      have HMr := Lib.hid (HM4.out.trans hu.old (fun _ _ h => h))
      have HUb := Lib.hid (show TBx wr w4.heap.size ⟨A, x.n, c, x.S, x.m, x.d, revT x.t⟩ from hu.bx)
      have HG := Lib.hid (fun V hV => HVU.out A c V hV)
      clear hu hat
      go_wp2_with fail
      refine (HV.out _ HXr.out).mono ?_
      rintro e w6 ⟨rfl, hm6⟩
      have HM6 := Lib.hid (HMr.out.trans hm6 (fun _ _ h => h))
      have HAT6 := Lib.hid (HAT.out.keep hm6)
      clear c0 c1 c2 c3
      have HC6 : Hid (w6.cell? ⟨w4.heap.size, 0, none⟩ = some (.slice A x.n c) ∧ w6.cell? ⟨w4.heap.size, 1, none⟩ = some (.slice x.S x.m x.d) ∧ w6.cell? ⟨w4.heap.size, 2, none⟩ = some (.int .i64 x.t.sl) ∧ w6.cell? ⟨w4.heap.size, 3, none⟩ = some (.int .i64 x.t.nw)) := (HUb.out.keep hm6).cells
      obtain ⟨c0, c1, c2, c3⟩ := HC6.out
      clear hm6
      go_wp2_with fail
      refine (HG.out _ HAT6.out).mono ?_
      rintro e w7 ⟨rfl, hm7⟩
      have HM7 := Lib.hid (HM6.out.trans hm7 (fun _ _ h => h))
      clear hm7 c0 c1 c2 c3
      go_wp2
      go_ret
      exact ⟨rfl, HM7.out.below (Nat.le_refl _) (fun _ _ => id)⟩
end Go.Proofs.Ythbcgbbcoanbdaa
