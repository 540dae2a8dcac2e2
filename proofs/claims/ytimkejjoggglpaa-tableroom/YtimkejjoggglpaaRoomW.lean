/-
  TableRoom: as long as a segment is free, or open, an image has room.
-/
import Derived.Test.YtimkejjoggglpaaTLaw
import Derived.Test.YtimkejjoggglpaaTLMath2
namespace Go.Proofs.Ytimkejjoggglpaa
open Go Go.RowKit

set_option maxRecDepth 100000 in
set_option maxHeartbeats 6400000 in
theorem room_walk (x : TV) (W : World) (h : x.At W) (page a : Int) :
    Calls Try.prog 5 #[.agg #[.slice x.P x.n x.c, .slice x.S x.m x.d, .int .i64 x.t.sl, .int .i64 x.t.nw], .int .i64 page, .int .i64 a] W fun e w' => e = .returned (.bool true) ∧ Below W.heap.size W w' := by
  obtain ⟨w1, hw1⟩ : ∃ w1, W.alloc (.cells #[.slice x.P x.n x.c, .slice x.S x.m x.d, .int .i64 x.t.sl, .int .i64 x.t.nw] 27) = w1 := ⟨_, rfl⟩
  have hb1 : Tbl W w1 W.heap.size x x.t := by
    rw [← hw1]
    exact Tbl.new (Mod.refl _ W) h rfl
  have HB := Lib.hid hb1
  clear hb1
  have Hpl : Hid (x.t.pg.length = x.n) := h.pg.len
  have Hsl : Hid (x.t.sg.length = x.m) := h.sg.len
  clear h
  cases hlt : (decide (x.n ≤ 40) && decide (x.m ≤ 40)) with
  | false =>
    go_enter Try.func5, Try.ntmps5
    go_wp2_with fail
    refine (awake_ok _).mono ?_
    rintro e w2 ⟨rfl, hm2⟩
    have HB2 := Lib.hid (HB.out.keep hm2)
    obtain ⟨c0, c1, c2, c3⟩ := HB2.out.bx.cells
    clear hm2 hw1
    go_wp2_with fail
    refine (light_ok _ x).mono ?_
    rintro e w3 ⟨rfl, hm3⟩
    have HB3 := Lib.hid (HB2.out.keep hm3)
    clear hm3 c0 c1 c2 c3
    rw [hlt]
    go_wp2
    go_ret
    exact ⟨rfl, HB3.out.old.below (Nat.le_refl _) (fun _ _ => id)⟩
  | true =>
  have hnm : x.n ≤ 40 ∧ x.m ≤ 40 := by simpa using hlt
  have L : Hid (x.t.pg.length ≤ 1000 ∧ x.t.sg.length ≤ 1000) := by rw [Hpl.out, Hsl.out]; exact Lib.hid ⟨by omega, by omega⟩
  obtain ⟨hn, hm⟩ := hnm
  cases hmy : mayB x.t with
  | false =>
    go_enter Try.func5, Try.ntmps5
    go_wp2_with fail
    refine (awake_ok _).mono ?_
    rintro e w2 ⟨rfl, hm2⟩
    have HB2 := Lib.hid (HB.out.keep hm2)
    obtain ⟨c0, c1, c2, c3⟩ := HB2.out.bx.cells
    clear hm2 hw1
    go_wp2_with fail
    refine (light_ok _ x).mono ?_
    rintro e w3 ⟨rfl, hm3⟩
    have HB3 := Lib.hid (HB2.out.keep hm3)
    clear hm3 c0 c1 c2 c3
    rw [hlt]
    have HMY := Lib.hid (l_may HB3.out L.out)
    rw [hmy] at HMY
    obtain ⟨c0, c1, c2, c3⟩ := HB3.out.bx.cells
    go_wp2_with fail
    refine HMY.out.mono ?_
    rintro e w4 ⟨rfl, hm4⟩
    have HB4 := Lib.hid (HB3.out.keep hm4)
    clear hm4 c0 c1 c2 c3 HMY
    go_wp2
    go_ret
    exact ⟨rfl, HB4.out.old.below (Nat.le_refl _) (fun _ _ => id)⟩
  | true =>
  have Hmay := Lib.hid (mayB_iff.1 hmy)
  by_cases hp0 : 0 ≤ page
  rotate_left
  · have hd : decide (page < 0) = true := by rw [decide_eq_true_eq]; omega
    go_enter Try.func5, Try.ntmps5
    go_wp2_with fail
    refine (awake_ok _).mono ?_
    rintro e w2 ⟨rfl, hm2⟩
    have HB2 := Lib.hid (HB.out.keep hm2)
    obtain ⟨c0, c1, c2, c3⟩ := HB2.out.bx.cells
    clear hm2 hw1
    go_wp2_with fail
    refine (light_ok _ x).mono ?_
    rintro e w3 ⟨rfl, hm3⟩
    have HB3 := Lib.hid (HB2.out.keep hm3)
    clear hm3 c0 c1 c2 c3
    rw [hlt]
    have HMY := Lib.hid (l_may HB3.out L.out)
    rw [hmy] at HMY
    obtain ⟨c0, c1, c2, c3⟩ := HB3.out.bx.cells
    go_wp2_with fail
    refine HMY.out.mono ?_
    rintro e w4 ⟨rfl, hm4⟩
    have HB4 := Lib.hid (HB3.out.keep hm4)
    clear hm4 c0 c1 c2 c3 HMY
    obtain ⟨c0, c1, c2, c3⟩ := HB4.out.bx.cells
    go_wp2
    go_ret
    exact ⟨rfl, HB4.out.old.below (Nat.le_refl _) (fun _ _ => id)⟩
  by_cases hp1 : page < (x.n : Int)
  rotate_left
  · have hd : decide ((x.n : Int) ≤ page) = true := by rw [decide_eq_true_eq]; omega
    go_enter Try.func5, Try.ntmps5
    go_wp2_with fail
    refine (awake_ok _).mono ?_
    rintro e w2 ⟨rfl, hm2⟩
    have HB2 := Lib.hid (HB.out.keep hm2)
    obtain ⟨c0, c1, c2, c3⟩ := HB2.out.bx.cells
    clear hm2 hw1
    go_wp2_with fail
    refine (light_ok _ x).mono ?_
    rintro e w3 ⟨rfl, hm3⟩
    have HB3 := Lib.hid (HB2.out.keep hm3)
    clear hm3 c0 c1 c2 c3
    rw [hlt]
    have HMY := Lib.hid (l_may HB3.out L.out)
    rw [hmy] at HMY
    obtain ⟨c0, c1, c2, c3⟩ := HB3.out.bx.cells
    go_wp2_with fail
    refine HMY.out.mono ?_
    rintro e w4 ⟨rfl, hm4⟩
    have HB4 := Lib.hid (HB3.out.keep hm4)
    clear hm4 c0 c1 c2 c3 HMY
    obtain ⟨c0, c1, c2, c3⟩ := HB4.out.bx.cells
    go_wp2
    go_ret
    exact ⟨rfl, HB4.out.old.below (Nat.le_refl _) (fun _ _ => id)⟩
  by_cases ha0 : 0 ≤ a
  rotate_left
  · have hd : decide (a < 0) = true := by rw [decide_eq_true_eq]; omega
    go_enter Try.func5, Try.ntmps5
    go_wp2_with fail
    refine (awake_ok _).mono ?_
    rintro e w2 ⟨rfl, hm2⟩
    have HB2 := Lib.hid (HB.out.keep hm2)
    obtain ⟨c0, c1, c2, c3⟩ := HB2.out.bx.cells
    clear hm2 hw1
    go_wp2_with fail
    refine (light_ok _ x).mono ?_
    rintro e w3 ⟨rfl, hm3⟩
    have HB3 := Lib.hid (HB2.out.keep hm3)
    clear hm3 c0 c1 c2 c3
    rw [hlt]
    have HMY := Lib.hid (l_may HB3.out L.out)
    rw [hmy] at HMY
    obtain ⟨c0, c1, c2, c3⟩ := HB3.out.bx.cells
    go_wp2_with fail
    refine HMY.out.mono ?_
    rintro e w4 ⟨rfl, hm4⟩
    have HB4 := Lib.hid (HB3.out.keep hm4)
    clear hm4 c0 c1 c2 c3 HMY
    obtain ⟨c0, c1, c2, c3⟩ := HB4.out.bx.cells
    go_wp2
    go_ret
    exact ⟨rfl, HB4.out.old.below (Nat.le_refl _) (fun _ _ => id)⟩
  by_cases ha1 : a ≤ 4294967295
  rotate_left
  · have hd : decide (4294967295 < a) = true := by rw [decide_eq_true_eq]; omega
    go_enter Try.func5, Try.ntmps5
    go_wp2_with fail
    refine (awake_ok _).mono ?_
    rintro e w2 ⟨rfl, hm2⟩
    have HB2 := Lib.hid (HB.out.keep hm2)
    obtain ⟨c0, c1, c2, c3⟩ := HB2.out.bx.cells
    clear hm2 hw1
    go_wp2_with fail
    refine (light_ok _ x).mono ?_
    rintro e w3 ⟨rfl, hm3⟩
    have HB3 := Lib.hid (HB2.out.keep hm3)
    clear hm3 c0 c1 c2 c3
    rw [hlt]
    have HMY := Lib.hid (l_may HB3.out L.out)
    rw [hmy] at HMY
    obtain ⟨c0, c1, c2, c3⟩ := HB3.out.bx.cells
    go_wp2_with fail
    refine HMY.out.mono ?_
    rintro e w4 ⟨rfl, hm4⟩
    have HB4 := Lib.hid (HB3.out.keep hm4)
    clear hm4 c0 c1 c2 c3 HMY
    obtain ⟨c0, c1, c2, c3⟩ := HB4.out.bx.cells
    go_wp2
    go_ret
    exact ⟨rfl, HB4.out.old.below (Nat.le_refl _) (fun _ _ => id)⟩
  by_cases hnw : x.t.nw = 1099511627776
  · have hd : (x.t.nw == 1099511627776) = true := by simpa using hnw
    clear hnw
    go_enter Try.func5, Try.ntmps5
    go_wp2_with fail
    refine (awake_ok _).mono ?_
    rintro e w2 ⟨rfl, hm2⟩
    have HB2 := Lib.hid (HB.out.keep hm2)
    obtain ⟨c0, c1, c2, c3⟩ := HB2.out.bx.cells
    clear hm2 hw1
    go_wp2_with fail
    refine (light_ok _ x).mono ?_
    rintro e w3 ⟨rfl, hm3⟩
    have HB3 := Lib.hid (HB2.out.keep hm3)
    clear hm3 c0 c1 c2 c3
    rw [hlt]
    have HMY := Lib.hid (l_may HB3.out L.out)
    rw [hmy] at HMY
    obtain ⟨c0, c1, c2, c3⟩ := HB3.out.bx.cells
    go_wp2_with fail
    refine HMY.out.mono ?_
    rintro e w4 ⟨rfl, hm4⟩
    have HB4 := Lib.hid (HB3.out.keep hm4)
    clear hm4 c0 c1 c2 c3 HMY
    obtain ⟨c0, c1, c2, c3⟩ := HB4.out.bx.cells
    go_wp2
    go_ret
    exact ⟨rfl, HB4.out.old.below (Nat.le_refl _) (fun _ _ => id)⟩
  have hd : (x.t.nw == 1099511627776) = false := by simpa using hnw
  have HPE : Hid (putE x.t page a = nxE x.t) := by
    have hc : (mayB x.t && inB page 0 ((x.t.pg.length : Int) - 1) && inB a 0 4294967295 && !decide (x.t.nw = 1099511627776)) = true := by
      rw [hmy, inB_iff.2 (by rw [Hpl.out]; omega), inB_iff.2 ⟨ha0, ha1⟩, decide_eq_false hnw]
      rfl
    unfold putE
    rw [if_pos hc]
    exact Lib.hid rfl
  clear hnw
  by_cases hx0 : nxE x.t = 0
  rotate_left
  · obtain ⟨n4, n0, _⟩ := nx_no Hmay.out hx0
    have Hf0 : Hid (freesI x.t = 0) := by rw [freesI_may Hmay.out, n0]; exact Lib.hid rfl
    rw [n4] at HPE
    have N4 := Lib.hid n4
    clear hx0 n4 n0
    go_enter Try.func5, Try.ntmps5
    go_wp2_with fail
    refine (awake_ok _).mono ?_
    rintro e w2 ⟨rfl, hm2⟩
    have HB2 := Lib.hid (HB.out.keep hm2)
    obtain ⟨c0, c1, c2, c3⟩ := HB2.out.bx.cells
    clear hm2 hw1
    go_wp2_with fail
    refine (light_ok _ x).mono ?_
    rintro e w3 ⟨rfl, hm3⟩
    have HB3 := Lib.hid (HB2.out.keep hm3)
    clear hm3 c0 c1 c2 c3
    rw [hlt]
    have HMY := Lib.hid (l_may HB3.out L.out)
    rw [hmy] at HMY
    obtain ⟨c0, c1, c2, c3⟩ := HB3.out.bx.cells
    go_wp2_with fail
    refine HMY.out.mono ?_
    rintro e w4 ⟨rfl, hm4⟩
    have HB4 := Lib.hid (HB3.out.keep hm4)
    clear hm4 c0 c1 c2 c3 HMY
    have HNX := Lib.hid (l_next HB4.out L.out)
    rw [N4.out] at HNX
    obtain ⟨c0, c1, c2, c3⟩ := HB4.out.bx.cells
    go_wp2_with fail
    refine HNX.out.mono ?_
    rintro e w5 ⟨rfl, hm5⟩
    have HB5 := Lib.hid (HB4.out.keep hm5)
    clear hm5 c0 c1 c2 c3 HNX
    have HPT := Lib.hid (l_put HB5.out L.out page a)
    rw [HPE.out] at HPT
    obtain ⟨c0, c1, c2, c3⟩ := HB5.out.bx.cells
    go_wp2_with fail
    refine HPT.out.mono ?_
    rintro e w6 ⟨y, rfl, ha, ht, hm6⟩
    have HB6 := Lib.hid (HB5.out.keep hm6)
    rw [if_neg (by decide)] at ht
    have HU6 := Lib.hid (Tbl.new (T := noTb) (HB6.out.old) ha ht)
    obtain ⟨v6, hv6⟩ : ∃ v6, w6.alloc (.cells #[.slice y.P y.n y.c, .slice y.S y.m y.d, .int .i64 y.t.sl, .int .i64 y.t.nw] 27) = v6 := ⟨_, rfl⟩
    rw [hv6] at HU6
    have hmv6 : Mod (fun _ => False) w6 v6 := by rw [← hv6]; exact (Mod.refl _ w6).alloc _
    have HB7 := Lib.hid (HB6.out.keep hmv6)
    clear hm6 c0 c1 c2 c3 HPT ha ht hmv6
    have HFR := Lib.hid (l_frees HB7.out L.out)
    rw [Hf0.out] at HFR
    obtain ⟨c0, c1, c2, c3⟩ := HB7.out.bx.cells
    go_wp2_with fail
    refine HFR.out.mono ?_
    rintro e w8 ⟨rfl, hm8⟩
    have HM8 := Lib.hid (HB7.out.old.trans hm8 (fun _ _ h => h))
    clear hm8
    go_wp2
    go_ret
    exact ⟨rfl, HM8.out.below (Nat.le_refl _) (fun _ _ => id)⟩
  obtain ⟨i, rfl⟩ : ∃ i : Nat, page = i := ⟨page.toNat, by omega⟩
  have hi : i < x.n := by omega
  rw [hx0] at HPE
  have Hz := HPE
  have Hput := Lib.hid (put_may Hz.out)
  obtain ⟨hg, hu0, hu1⟩ := nx_in Hmay.out hx0
  have Hpg : Hid (atS (putT x.t i a).pg i = ⟨(nxG x.t : Int), nxU x.t, a⟩) := Lib.hid (put_pg (by rw [Hpl.out]; exact hi))
  have Hls : Hid ((putT x.t i a).pg.length = x.n ∧ (putT x.t i a).sg.length = x.m) := by
    rw [← Hpl.out, ← Hsl.out]
    exact Lib.hid ⟨List.length_set, List.length_set⟩
  have HLP : Hid (1 ≤ liveI (putT x.t i a) (nxG x.t : Int)) := Lib.hid (live_pos Hput.out (i := i) (by rw [Hls.out.1]; exact hi) (by rw [Hls.out.2, ← Hsl.out]; exact hg) (by rw [Hpg.out]))
  have L2 : Hid ((putT x.t i a).pg.length ≤ 1000 ∧ (putT x.t i a).sg.length ≤ 1000) := by rw [Hls.out.1, Hls.out.2]; exact Lib.hid ⟨by omega, by omega⟩
  have Hnew := Lib.hid (fun j (hj : j < x.t.pg.length) => nx_new Hmay.out hx0 hj)
  have Hx0 := Lib.hid hx0
  have hx0' : (nxE x.t == 0) = true := by simpa using hx0
  clear hx0 hx0'
  go_enter Try.func5, Try.ntmps5
  go_wp2_with fail
  refine (awake_ok _).mono ?_
  rintro e w2 ⟨rfl, hm2⟩
  have HB2 := Lib.hid (HB.out.keep hm2)
  obtain ⟨c0, c1, c2, c3⟩ := HB2.out.bx.cells
  clear hm2 hw1
  go_wp2_with fail
  refine (light_ok _ x).mono ?_
  rintro e w3 ⟨rfl, hm3⟩
  have HB3 := Lib.hid (HB2.out.keep hm3)
  clear hm3 c0 c1 c2 c3
  rw [hlt]
  have HMY := Lib.hid (l_may HB3.out L.out)
  rw [hmy] at HMY
  obtain ⟨c0, c1, c2, c3⟩ := HB3.out.bx.cells
  go_wp2_with fail
  refine HMY.out.mono ?_
  rintro e w4 ⟨rfl, hm4⟩
  have HB4 := Lib.hid (HB3.out.keep hm4)
  clear hm4 c0 c1 c2 c3 HMY
  have HNX := Lib.hid (l_next HB4.out L.out)
  rw [Hx0.out] at HNX
  obtain ⟨c0, c1, c2, c3⟩ := HB4.out.bx.cells
  generalize nxG x.t = G at *
  generalize nxU x.t = U at *
  go_wp2_with fail
  refine HNX.out.mono ?_
  rintro e w5 ⟨rfl, hm5⟩
  have HB5 := Lib.hid (HB4.out.keep hm5)
  clear hm5 c0 c1 c2 c3 HNX
  have HPT := Lib.hid (l_put HB5.out L.out i a)
  rw [HPE.out] at HPT
  obtain ⟨c0, c1, c2, c3⟩ := HB5.out.bx.cells
  go_wp2_with fail
  refine HPT.out.mono ?_
  rintro e w6 ⟨y, rfl, ha, ht, hm6⟩
  have HB6 := Lib.hid (HB5.out.keep hm6)
  rw [if_pos rfl] at ht
  have HU6 := Lib.hid (Tbl.new (T := putT x.t i a) (HB6.out.old) ha ht)
  obtain ⟨v6, hv6⟩ : ∃ v6, w6.alloc (.cells #[.slice y.P y.n y.c, .slice y.S y.m y.d, .int .i64 y.t.sl, .int .i64 y.t.nw] 27) = v6 := ⟨_, rfl⟩
  rw [hv6] at HU6
  have hmv6 : Mod (fun _ => False) w6 v6 := by rw [← hv6]; exact (Mod.refl _ w6).alloc _
  have HB7 := Lib.hid (HB6.out.keep hmv6)
  clear hm6 c0 c1 c2 c3 HPT ha ht hmv6
  obtain ⟨c0, c1, c2, c3⟩ := HB7.out.bx.cells
  go_wp2
  go_loopw [14] (fun k wr => ∃ j : Nat, j ≤ x.n ∧ k = .int .i64 j ∧ wr = v6) (fun k _ => x.n - (intOf k).toNat)
  case atStart => exact ⟨0, Nat.zero_le _, rfl, rfl⟩
  case round =>
    obtain ⟨j, hj, rfl, hw⟩ := hrel
    subst hw
    by_cases hlt2 : j < x.n
    · obtain ⟨b, o, hP, hcs⟩ := HB7.out.at_.pg.cells (by omega)
      obtain ⟨s0, s1, s2⟩ := hcs j hlt2
      have Hnj := Lib.hid (Hnew.out j (by rw [Hpl.out]; exact hlt2))
      generalize hT : atS x.t.pg j = s at *
      rw [hP] at c0
      clear hcs hT s2 hP hv6
      have hjm : (j : Int) < (x.n : Int) := by omega
      by_cases h0 : s.a = (G : Int)
      · have hd0 : (s.a == (G : Int)) = true := by simpa using h0
        have hd1 : (s.b == U) = false := by have := Hnj.out h0; simp; omega
        clear h0
        go_wp2
        go_roundw
        case rel => exact ⟨j + 1, by omega, by go_num, by first | trivial | rfl⟩
        case measure => simp [intOf]; omega
      · have hd0 : (s.a == (G : Int)) = false := by simpa using h0
        clear h0
        go_wp2
        go_roundw
        case rel => exact ⟨j + 1, by omega, by go_num, by first | trivial | rfl⟩
        case measure => simp [intOf]; omega
    · obtain rfl : j = x.n := by omega
      have hyn : y.n = x.n := by rw [HU6.out.n, Hls.out.1]
      obtain ⟨b, o, hP, hcs⟩ := HU6.out.at_.pg.cells (by omega)
      rw [HU6.out.t] at hcs
      obtain ⟨s0, s1, s2⟩ := hcs i (by omega)
      rw [Hpg.out] at s0 s1 s2
      have s0 : wr.cell? ⟨b, o + i * 3, none⟩ = some (.int .i64 (G : Int)) := s0
      have s1 : wr.cell? ⟨b, o + i * 3 + 1, none⟩ = some (.int .i64 U) := s1
      have s2 : wr.cell? ⟨b, o + i * 3 + 2, none⟩ = some (.int .i64 a) := s2
      have hec : ∀ w, (Op.equalIn 10000 34 (.agg #[.int .i64 (G : Int), .int .i64 U, .int .i64 a]) (.agg #[.int .i64 (G : Int), .int .i64 U, .int .i64 a])).run Try.prog w = .ok true w := fun w => (eq_pl ⟨(G : Int), U, a⟩ ⟨(G : Int), U, a⟩ w).trans (by rw [eqT_self])
      have HLV := Lib.hid (l_live HU6.out L2.out (G : Int))
      have hlp := HLP.out
      generalize liveI (putT x.t i a) (G : Int) = q at *
      obtain ⟨e0, e1, e2, e3⟩ := HU6.out.bx.cells
      have Hyn := Lib.hid hyn
      have him : (i : Int) < (y.n : Int) := by omega
      rw [hP] at e0 HLV
      clear hcs hyn hP hv6
      go_wp2_with fail
      refine HLV.out.mono ?_
      rintro e w8 ⟨rfl, hm8⟩
      have HM8 := Lib.hid (HB7.out.old.trans hm8 (fun _ _ h => h))
      clear hm8
      go_wp2
      go_ret
      exact ⟨by simp, HM8.out.below (Nat.le_refl _) (fun _ _ => id)⟩
end Go.Proofs.Ytimkejjoggglpaa
