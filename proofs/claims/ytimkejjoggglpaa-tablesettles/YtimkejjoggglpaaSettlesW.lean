/-
  TableSettles: what is settled has a free segment wherever nothing is live, has each page where it was, and is the same when it is settled once more.
-/
import Derived.Test.YtimkejjoggglpaaTLaw
import Derived.Test.YtimkejjoggglpaaTLMath2
import Derived.Test.YtimkejjoggglpaaRSame
import Derived.Test.YtimkejjoggglpaaTOrd
namespace Go.Proofs.Ytimkejjoggglpaa
open Go Go.RowKit

set_option maxRecDepth 100000 in
set_option maxHeartbeats 6400000 in
theorem settles_walk (x : TV) (W : World) (h : x.At W) (op : Int) :
    Calls Try.prog 7 #[.agg #[.slice x.P x.n x.c, .slice x.S x.m x.d, .int .i64 x.t.sl, .int .i64 x.t.nw], .int .i64 op] W fun e w' => e = .returned (.bool true) ∧ Below W.heap.size W w' := by
  obtain ⟨w1, hw1⟩ : ∃ w1, W.alloc (.cells #[.slice x.P x.n x.c, .slice x.S x.m x.d, .int .i64 x.t.sl, .int .i64 x.t.nw] 27) = w1 := ⟨_, rfl⟩
  have hb1 : Tbl W w1 W.heap.size x x.t := by
    rw [← hw1]
    exact Tbl.new (Mod.refl _ W) h rfl
  have HB := Lib.hid hb1
  clear hb1
  have Hpl : Hid (x.t.pg.length = x.n) := h.pg.len
  have Hsl : Hid (x.t.sg.length = x.m) := h.sg.len
  clear h
  cases hlt : (decide (x.n ≤ 40) && decide (x.m ≤ 40)) with
  | false =>
    go_enter Try.func7, Try.ntmps7
    go_wp2_with fail
    refine (awake_ok _).mono ?_
    rintro e w2 ⟨rfl, hm2⟩
    have HB2 := Lib.hid (HB.out.keep hm2)
    obtain ⟨c0, c1, c2, c3⟩ := HB2.out.bx.cells
    clear hm2 hw1
    go_wp2_with fail
    refine (light_ok _ x).mono ?_
    rintro e w3 ⟨rfl, hm3⟩
    have HB3 := Lib.hid (HB2.out.keep hm3)
    clear hm3 c0 c1 c2 c3
    rw [hlt]
    go_wp2
    go_ret
    exact ⟨rfl, HB3.out.old.below (Nat.le_refl _) (fun _ _ => id)⟩
  | true =>
  have hnm : x.n ≤ 40 ∧ x.m ≤ 40 := by simpa using hlt
  have L : Hid (x.t.pg.length ≤ 1000 ∧ x.t.sg.length ≤ 1000) := by rw [Hpl.out, Hsl.out]; exact Lib.hid ⟨by omega, by omega⟩
  obtain ⟨hn, hm⟩ := hnm
  cases hmy : mayB x.t with
  | false =>
    go_enter Try.func7, Try.ntmps7
    go_wp2_with fail
    refine (awake_ok _).mono ?_
    rintro e w2 ⟨rfl, hm2⟩
    have HB2 := Lib.hid (HB.out.keep hm2)
    obtain ⟨c0, c1, c2, c3⟩ := HB2.out.bx.cells
    clear hm2 hw1
    go_wp2_with fail
    refine (light_ok _ x).mono ?_
    rintro e w3 ⟨rfl, hm3⟩
    have HB3 := Lib.hid (HB2.out.keep hm3)
    clear hm3 c0 c1 c2 c3
    rw [hlt]
    have HMY := Lib.hid (l_may HB3.out L.out)
    rw [hmy] at HMY
    obtain ⟨c0, c1, c2, c3⟩ := HB3.out.bx.cells
    go_wp2_with fail
    refine HMY.out.mono ?_
    rintro e w4 ⟨rfl, hm4⟩
    have HB4 := Lib.hid (HB3.out.keep hm4)
    clear hm4 c0 c1 c2 c3 HMY
    go_wp2
    go_ret
    exact ⟨rfl, HB4.out.old.below (Nat.le_refl _) (fun _ _ => id)⟩
  | true =>
  have Hmay := Lib.hid (mayB_iff.1 hmy)
  have Hsm := Lib.hid (setl_may (op := op) Hmay.out)
  have Hls : Hid ((setlT x.t op).pg.length = x.n ∧ (setlT x.t op).sg.length = x.m) := by
    rw [← Hpl.out, ← Hsl.out]
    exact Lib.hid ⟨rfl, setl_len _ _⟩
  have L2 : Hid ((setlT x.t op).pg.length ≤ 1000 ∧ (setlT x.t op).sg.length ≤ 1000) := by rw [Hls.out.1, Hls.out.2]; exact Lib.hid ⟨by omega, by omega⟩
  have Hmb : Hid (mayB (setlT x.t op) = true) := mayB_iff.2 Hsm.out
  have Hmb1 := Lib.hid hmy
  go_enter Try.func7, Try.ntmps7
  go_wp2_with fail
  refine (awake_ok _).mono ?_
  rintro e w2 ⟨rfl, hm2⟩
  have HB2 := Lib.hid (HB.out.keep hm2)
  obtain ⟨c0, c1, c2, c3⟩ := HB2.out.bx.cells
  clear hm2 hw1
  go_wp2_with fail
  refine (light_ok _ x).mono ?_
  rintro e w3 ⟨rfl, hm3⟩
  have HB3 := Lib.hid (HB2.out.keep hm3)
  clear hm3 c0 c1 c2 c3
  rw [hlt]
  have HMY := Lib.hid (l_may HB3.out L.out)
  rw [hmy] at HMY
  obtain ⟨c0, c1, c2, c3⟩ := HB3.out.bx.cells
  go_wp2_with fail
  refine HMY.out.mono ?_
  rintro e w4 ⟨rfl, hm4⟩
  have HB4 := Lib.hid (HB3.out.keep hm4)
  clear hm4 c0 c1 c2 c3 HMY
  clear hmy hlt
  have HS1 := Lib.hid (l_settle HB4.out L.out op)
  rw [if_pos Hmb1.out] at HS1
  obtain ⟨c0, c1, c2, c3⟩ := HB4.out.bx.cells
  go_wp2_with fail
  refine HS1.out.mono ?_
  rintro e w6 ⟨y, rfl, ha, ht, hm6⟩
  have HB6 := Lib.hid (HB4.out.keep hm6)
  rw [if_pos rfl] at ht
  have HU6 := Lib.hid (Tbl.new (T := setlT x.t op) (HB6.out.old) ha ht)
  obtain ⟨v6, hv6⟩ : ∃ v6, w6.alloc (.cells #[.slice y.P y.n y.c, .slice y.S y.m y.d, .int .i64 y.t.sl, .int .i64 y.t.nw] 27) = v6 := ⟨_, rfl⟩
  rw [hv6] at HU6
  have hmv6 : Mod (fun _ => False) w6 v6 := by rw [← hv6]; exact (Mod.refl _ w6).alloc _
  have HB7 := Lib.hid (HB6.out.keep hmv6)
  clear hm6 c0 c1 c2 c3 HS1 ha ht hmv6
  have HS2 := Lib.hid (l_settle HU6.out L2.out op)
  rw [if_pos Hmb.out, setl_twice] at HS2
  obtain ⟨c0, c1, c2, c3⟩ := HU6.out.bx.cells
  go_wp2_with fail
  clear hv6
  refine HS2.out.mono ?_
  rintro e w8 ⟨z, rfl, ha, ht, hm8⟩
  have HB8 := Lib.hid (HB7.out.keep hm8)
  have HU8 := Lib.hid (HU6.out.keep hm8)
  rw [if_pos rfl] at ht
  have HU8z := Lib.hid (Tbl.new (T := setlT x.t op) (HB8.out.old) ha ht)
  obtain ⟨v8, hv8⟩ : ∃ v8, w8.alloc (.cells #[.slice z.P z.n z.c, .slice z.S z.m z.d, .int .i64 z.t.sl, .int .i64 z.t.nw] 27) = v8 := ⟨_, rfl⟩
  rw [hv8] at HU8z
  have hmv8 : Mod (fun _ => False) w8 v8 := by rw [← hv8]; exact (Mod.refl _ w8).alloc _
  have HB9 := Lib.hid (HB8.out.keep hmv8)
  have HUy := Lib.hid (HU8.out.keep hmv8)
  clear hm8 c0 c1 c2 c3 HS2 ha ht hmv8
  have hyn : y.n = x.n := by rw [HUy.out.n, Hls.out.1]
  have hym : y.m = x.m := by rw [HUy.out.m, Hls.out.2]
  have hzn : z.n = y.n := by rw [HU8z.out.n, HUy.out.n]
  have hzm : z.m = y.m := by rw [HU8z.out.m, HUy.out.m]
  have hzt : z.t = y.t := by rw [HU8z.out.t, HUy.out.t]
  have HSM : Hid (Calls Try.prog 12 #[.agg #[.slice y.P y.n y.c, .slice y.S y.m y.d, .int .i64 y.t.sl, .int .i64 y.t.nw], .agg #[.slice z.P z.n z.c, .slice z.S z.m z.d, .int .i64 z.t.sl, .int .i64 z.t.nw]] v8 fun e w' => e = .returned (.bool true) ∧ Mod (fun _ => False) v8 w') := by
    have ha1 := HUy.out.at_
    have ha2 := HU8z.out.at_
    rw [hzn, hzm, hzt]
    refine same_ok v8 y.P z.P y.S z.S y.n y.m y.c z.c y.d z.d y.t ha1 ?_ (by omega) (by omega)
    have e : z = ⟨z.P, y.n, z.c, z.S, y.m, z.d, y.t⟩ := by cases z; simp only at hzn hzm hzt; subst hzn; subst hzm; subst hzt; rfl
    rw [← e]
    exact ha2
  obtain ⟨c0, c1, c2, c3⟩ := HUy.out.bx.cells
  obtain ⟨d0, d1, d2, d3⟩ := HU8z.out.bx.cells
  have Hym := Lib.hid hym
  have Hyn := Lib.hid hyn
  have hy40 : y.m ≤ 40 := by omega
  have hyn40 : y.n ≤ 40 := by omega
  clear hyn hym
  clear hzn hzm hzt
  go_wp2_with fail
  clear hv8 c0 c1 c2 c3 d0 d1 d2 d3
  refine HSM.out.mono ?_
  rintro e w9 ⟨rfl, hm9⟩
  have HBa := Lib.hid (HB9.out.keep hm9)
  have HUa := Lib.hid (HUy.out.keep hm9)
  clear hm9 HSM
  obtain ⟨c0, c1, c2, c3⟩ := HUa.out.bx.cells
  go_wp2
  clear c0 c1 c2 c3
  go_loopw [12] (fun k wr => ∃ j : Nat, j ≤ y.m ∧ k = .int .i64 j ∧ Mod (fun _ => False) w9 wr) (fun k _ => y.m - (intOf k).toNat)
  case atStart => exact ⟨0, Nat.zero_le _, rfl, Mod.refl _ _⟩
  case round =>
    obtain ⟨j, hj, rfl, hmr⟩ := hrel
    have Hmr := Lib.hid hmr
    have HBr := Lib.hid (HBa.out.keep hmr)
    have HUr := Lib.hid (HUa.out.keep hmr)
    clear hmr
    obtain ⟨c0, c1, c2, c3⟩ := HUr.out.bx.cells
    by_cases hlt : j < y.m
    · have hjm : j < x.t.sg.length := by rw [Hsl.out, ← Hym.out]; exact hlt
      obtain ⟨b, o, hS, hcs⟩ := HUr.out.at_.sg.cells (by omega)
      have hc3 := hcs j hlt
      rw [HUr.out.t, setl_at hjm] at hc3
      have Hfree := Lib.hid (setl_free (op := op) Hmay.out hjm)
      rw [setl_at hjm] at Hfree
      have Hopen := Lib.hid (stl_open (t := x.t) (op := op) (i := j))
      have HSc : Hid (∀ V, Mod (fun _ => False) wr V → V.cell? ⟨b, o + j * 3, none⟩ = some (.int .i64 (stlT x.t op j).a)) := fun V hV => (hc3.keep (hV.block b hc3.lt id)).1
      have HUc : Hid (∀ V, Mod (fun _ => False) wr V → V.cell? ⟨w6.heap.size, 0, none⟩ = some (.slice y.P y.n y.c) ∧ V.cell? ⟨w6.heap.size, 1, none⟩ = some (.slice (some ⟨b, o, none⟩) y.m y.d) ∧ V.cell? ⟨w6.heap.size, 2, none⟩ = some (.int .i64 y.t.sl) ∧ V.cell? ⟨w6.heap.size, 3, none⟩ = some (.int .i64 y.t.nw)) := fun V hV => by have := (HUr.out.keep hV).bx.cells; rw [hS] at this; exact this
      have HLV : Hid (∀ V, Mod (fun _ => False) wr V → Calls Try.prog 17 #[.agg #[.slice x.P x.n x.c, .slice x.S x.m x.d, .int .i64 x.t.sl, .int .i64 x.t.nw], .int .i64 j] V fun e w' => e = .returned (.int .i64 (liveI x.t j)) ∧ Mod (fun _ => False) wr w') := fun V hV => (l_live (HBr.out.keep hV) L.out (j : Int)).mono (fun e w' h => ⟨h.1, hV.trans h.2 (fun _ _ h => h)⟩)
      rw [hS] at c1
      have M0 : Hid (Mod (fun _ => False) wr wr.drew) := (Mod.refl _ wr).drew
      generalize stlT x.t op j = s at *
      generalize liveI x.t (j : Int) = ql at *
      have hji : (j : Int) < (y.m : Int) := by omega
      have hj0 : (0 : Int) ≤ (j : Int) := by omega
      clear hcs hc3 hS hjm
      by_cases h0 : s.a = 0
      · have hql : (ql == 0) = true := by simpa using Hfree.out.1 h0
        have hd0 : (s.a == 0) = true := by simpa using h0
        have hd1 : (s.a == 1) = false := by rw [h0]; rfl
        clear h0
        go_wp2_with fail
        refine wp_region_held (S := (fun V : World => (V.cell? ⟨w6.heap.size, 0, none⟩ = some (.slice y.P y.n y.c) ∧ V.cell? ⟨w6.heap.size, 1, none⟩ = some (.slice (some ⟨b, o, none⟩) y.m y.d) ∧ V.cell? ⟨w6.heap.size, 2, none⟩ = some (.int .i64 y.t.sl) ∧ V.cell? ⟨w6.heap.size, 3, none⟩ = some (.int .i64 y.t.nw)) ∧ (V.cell? ⟨W.heap.size, 0, none⟩ = some (.slice x.P x.n x.c) ∧ V.cell? ⟨W.heap.size, 1, none⟩ = some (.slice x.S x.m x.d) ∧ V.cell? ⟨W.heap.size, 2, none⟩ = some (.int .i64 x.t.sl) ∧ V.cell? ⟨W.heap.size, 3, none⟩ = some (.int .i64 x.t.nw)) ∧ V.cell? ⟨b, o + j * 3, none⟩ = some (.int .i64 s.a))) (by kernel_rfl) ?_
        have hI := (show (fun V : World => (V.cell? ⟨w6.heap.size, 0, none⟩ = some (.slice y.P y.n y.c) ∧ V.cell? ⟨w6.heap.size, 1, none⟩ = some (.slice (some ⟨b, o, none⟩) y.m y.d) ∧ V.cell? ⟨w6.heap.size, 2, none⟩ = some (.int .i64 y.t.sl) ∧ V.cell? ⟨w6.heap.size, 3, none⟩ = some (.int .i64 y.t.nw)) ∧ (V.cell? ⟨W.heap.size, 0, none⟩ = some (.slice x.P x.n x.c) ∧ V.cell? ⟨W.heap.size, 1, none⟩ = some (.slice x.S x.m x.d) ∧ V.cell? ⟨W.heap.size, 2, none⟩ = some (.int .i64 x.t.sl) ∧ V.cell? ⟨W.heap.size, 3, none⟩ = some (.int .i64 x.t.nw)) ∧ V.cell? ⟨b, o + j * 3, none⟩ = some (.int .i64 s.a)) _ from ⟨HUc.out _ M0.out, (HBr.out.keep M0.out).bx.cells, HSc.out _ M0.out⟩)
        refine rg_take (n := 25) (v := ?_) 0 (some 51) rfl rfl (by kernel_rfl) (by kernel_rfl) (by kernel_rfl) (fun _ _ _ h => h) (by rfl) hI ?_ ?_
        rotate_left
        · ((intro w hSw; (try dsimp only at hSw); go_simp); (try with_reducible rfl))
        try simp only [Act.put, List.setIfInBounds_toArray, List.set_cons_zero, List.set_cons_succ]
        refine rg_take (n := 24) (v := ?_) 1 (some 52) rfl rfl (by kernel_rfl) (by kernel_rfl) (by kernel_rfl) (fun _ _ _ h => h) (by rfl) hI ?_ ?_
        rotate_left
        · ((intro w hSw; (try dsimp only at hSw); go_simp); (try with_reducible rfl))
        try simp only [Act.put, List.setIfInBounds_toArray, List.set_cons_zero, List.set_cons_succ]
        refine rg_take (n := 23) (v := ?_) 2 (some 53) rfl rfl (by kernel_rfl) (by kernel_rfl) (by kernel_rfl) (fun _ _ _ h => h) (by rfl) hI ?_ ?_
        rotate_left
        · ((intro w hSw; (try dsimp only at hSw); go_simp); (try with_reducible rfl))
        try simp only [Act.put, List.setIfInBounds_toArray, List.set_cons_zero, List.set_cons_succ]
        refine rg_take (n := 22) (v := ?_) 3 (some 54) rfl rfl (by kernel_rfl) (by kernel_rfl) (by kernel_rfl) (fun _ _ _ h => h) (by rfl) hI ?_ ?_
        rotate_left
        · ((intro w hSw; (try dsimp only at hSw); go_simp); (try with_reducible rfl))
        try simp only [Act.put, List.setIfInBounds_toArray, List.set_cons_zero, List.set_cons_succ]
        refine rg_take (n := 21) (v := ?_) 4 (some 55) rfl rfl (by kernel_rfl) (by kernel_rfl) (by kernel_rfl) (fun _ _ _ h => h) (by rfl) hI ?_ ?_
        rotate_left
        · ((intro w hSw; (try dsimp only at hSw); go_simp); (try with_reducible rfl))
        try simp only [Act.put, List.setIfInBounds_toArray, List.set_cons_zero, List.set_cons_succ]
        refine rg_take (n := 20) (v := ?_) 5 (some 56) rfl rfl (by kernel_rfl) (by kernel_rfl) (by kernel_rfl) (fun _ _ _ h => h) (by rfl) hI ?_ ?_
        rotate_left
        · ((intro w hSw; (try dsimp only at hSw); go_simp); (try with_reducible rfl))
        try simp only [Act.put, List.setIfInBounds_toArray, List.set_cons_zero, List.set_cons_succ]
        refine rg_take (n := 19) (v := ?_) 6 (some 57) rfl rfl (by kernel_rfl) (by kernel_rfl) (by kernel_rfl) (fun _ _ _ h => h) (by rfl) hI ?_ ?_
        rotate_left
        · ((intro w hSw; (try dsimp only at hSw); go_simp); (try with_reducible rfl))
        try simp only [Act.put, List.setIfInBounds_toArray, List.set_cons_zero, List.set_cons_succ]
        refine rg_take (n := 18) (v := ?_) 7 (some 58) rfl rfl (by kernel_rfl) (by kernel_rfl) (by kernel_rfl) (fun _ _ _ h => h) (by rfl) hI ?_ ?_
        rotate_left
        · ((intro w hSw; (try dsimp only at hSw); go_simp); (try with_reducible rfl))
        try simp only [Act.put, List.setIfInBounds_toArray, List.set_cons_zero, List.set_cons_succ]
        refine rg_take (n := 17) (v := ?_) 8 (some 59) rfl rfl (by kernel_rfl) (by kernel_rfl) (by kernel_rfl) (fun _ _ _ h => h) (by rfl) hI ?_ ?_
        rotate_left
        · ((intro w hSw; (try dsimp only at hSw); go_simp); (try with_reducible rfl))
        try simp only [Act.put, List.setIfInBounds_toArray, List.set_cons_zero, List.set_cons_succ]
        refine rg_one (n := 16) 9 rfl (by kernel_rfl) (by rfl) ?_
        go_simp
        go_at_call 17
        refine (HLV.out _ M0.out).mono ?_
        rintro e wl ⟨rfl, hml⟩
        have Hml := Lib.hid hml
        clear hml
        clear hI
        have hI := (show (fun V : World => (V.cell? ⟨w6.heap.size, 0, none⟩ = some (.slice y.P y.n y.c) ∧ V.cell? ⟨w6.heap.size, 1, none⟩ = some (.slice (some ⟨b, o, none⟩) y.m y.d) ∧ V.cell? ⟨w6.heap.size, 2, none⟩ = some (.int .i64 y.t.sl) ∧ V.cell? ⟨w6.heap.size, 3, none⟩ = some (.int .i64 y.t.nw)) ∧ (V.cell? ⟨W.heap.size, 0, none⟩ = some (.slice x.P x.n x.c) ∧ V.cell? ⟨W.heap.size, 1, none⟩ = some (.slice x.S x.m x.d) ∧ V.cell? ⟨W.heap.size, 2, none⟩ = some (.int .i64 x.t.sl) ∧ V.cell? ⟨W.heap.size, 3, none⟩ = some (.int .i64 x.t.nw)) ∧ V.cell? ⟨b, o + j * 3, none⟩ = some (.int .i64 s.a)) _ from ⟨HUc.out _ Hml.out, (HBr.out.keep Hml.out).bx.cells, HSc.out _ Hml.out⟩)
        refine ⟨hI, ?_⟩
        try simp only [Act.put, List.setIfInBounds_toArray, List.set_cons_zero, List.set_cons_succ]
        refine rg_take (n := 15) (v := ?_) 10 (some 61) rfl rfl (by kernel_rfl) (by kernel_rfl) (by kernel_rfl) (fun _ _ _ h => h) (by rfl) hI ?_ ?_
        rotate_left
        · ((intro w hSw; (try dsimp only at hSw); go_simp); (try with_reducible rfl))
        try simp only [Act.put, List.setIfInBounds_toArray, List.set_cons_zero, List.set_cons_succ]
        refine rg_take (n := 14) (v := ?_) 11 (some 62) rfl rfl (by kernel_rfl) (by kernel_rfl) (by kernel_rfl) (fun _ _ _ h => h) (by rfl) hI ?_ ?_
        rotate_left
        · ((intro w hSw; (try dsimp only at hSw); go_simp); (try with_reducible rfl))
        try simp only [Act.put, List.setIfInBounds_toArray, List.set_cons_zero, List.set_cons_succ]
        refine rg_take (n := 13) (v := ?_) 12 (some 63) rfl rfl (by kernel_rfl) (by kernel_rfl) (by kernel_rfl) (fun _ _ _ h => h) (by rfl) hI ?_ ?_
        rotate_left
        · ((intro w hSw; (try dsimp only at hSw); go_simp); (try with_reducible rfl))
        try simp only [Act.put, List.setIfInBounds_toArray, List.set_cons_zero, List.set_cons_succ]
        refine rg_take (n := 12) (v := ?_) 13 (some 64) rfl rfl (by kernel_rfl) (by kernel_rfl) (by kernel_rfl) (fun _ _ _ h => h) (by rfl) hI ?_ ?_
        rotate_left
        · ((intro w hSw; (try dsimp only at hSw); go_simp); (try with_reducible rfl))
        try simp only [Act.put, List.setIfInBounds_toArray, List.set_cons_zero, List.set_cons_succ]
        refine rg_take (n := 11) (v := ?_) 14 (some 65) rfl rfl (by kernel_rfl) (by kernel_rfl) (by kernel_rfl) (fun _ _ _ h => h) (by rfl) hI ?_ ?_
        rotate_left
        · ((intro w hSw; (try dsimp only at hSw); go_simp); (try with_reducible rfl))
        try simp only [Act.put, List.setIfInBounds_toArray, List.set_cons_zero, List.set_cons_succ]
        refine rg_take (n := 10) (v := ?_) 15 (some 66) rfl rfl (by kernel_rfl) (by kernel_rfl) (by kernel_rfl) (fun _ _ _ h => h) (by rfl) hI ?_ ?_
        rotate_left
        · ((intro w hSw; (try dsimp only at hSw); go_simp); (try with_reducible rfl))
        try simp only [Act.put, List.setIfInBounds_toArray, List.set_cons_zero, List.set_cons_succ]
        refine rg_take (n := 9) (v := ?_) 16 (some 67) rfl rfl (by kernel_rfl) (by kernel_rfl) (by kernel_rfl) (fun _ _ _ h => h) (by rfl) hI ?_ ?_
        rotate_left
        · ((intro w hSw; (try dsimp only at hSw); go_simp); (try with_reducible rfl))
        try simp only [Act.put, List.setIfInBounds_toArray, List.set_cons_zero, List.set_cons_succ]
        refine rg_take (n := 8) (v := ?_) 17 (some 68) rfl rfl (by kernel_rfl) (by kernel_rfl) (by kernel_rfl) (fun _ _ _ h => h) (by rfl) hI ?_ ?_
        rotate_left
        · ((intro w hSw; (try dsimp only at hSw); go_simp); (try with_reducible rfl))
        try simp only [Act.put, List.setIfInBounds_toArray, List.set_cons_zero, List.set_cons_succ]
        refine rg_take (n := 7) (v := ?_) 18 (some 69) rfl rfl (by kernel_rfl) (by kernel_rfl) (by kernel_rfl) (fun _ _ _ h => h) (by rfl) hI ?_ ?_
        rotate_left
        · ((intro w hSw; (try dsimp only at hSw); go_simp); (try with_reducible rfl))
        try simp only [Act.put, List.setIfInBounds_toArray, List.set_cons_zero, List.set_cons_succ]
        refine rg_take (n := 6) (v := ?_) 19 (some 70) rfl rfl (by kernel_rfl) (by kernel_rfl) (by kernel_rfl) (fun _ _ _ h => h) (by rfl) hI ?_ ?_
        rotate_left
        · ((intro w hSw; (try dsimp only at hSw); go_simp); (try with_reducible rfl))
        try simp only [Act.put, List.setIfInBounds_toArray, List.set_cons_zero, List.set_cons_succ]
        refine rg_take (n := 5) (v := ?_) 20 (some 71) rfl rfl (by kernel_rfl) (by kernel_rfl) (by kernel_rfl) (fun _ _ _ h => h) (by rfl) hI ?_ ?_
        rotate_left
        · ((intro w hSw; (try dsimp only at hSw); go_simp); (try with_reducible rfl))
        try simp only [Act.put, List.setIfInBounds_toArray, List.set_cons_zero, List.set_cons_succ]
        refine rg_skip (n := 4) 21 (some 72) rfl rfl (by kernel_rfl) (by kernel_rfl) (by kernel_rfl) (fun _ _ _ h => h) (by rfl) hI ?_
        try simp only [Act.put, List.setIfInBounds_toArray, List.set_cons_zero, List.set_cons_succ]
        refine rg_skip (n := 3) 22 (some 73) rfl rfl (by kernel_rfl) (by kernel_rfl) (by kernel_rfl) (fun _ _ _ h => h) (by rfl) hI ?_
        try simp only [Act.put, List.setIfInBounds_toArray, List.set_cons_zero, List.set_cons_succ]
        refine rg_skip (n := 2) 23 (some 74) rfl rfl (by kernel_rfl) (by kernel_rfl) (by kernel_rfl) (fun _ _ _ h => h) (by rfl) hI ?_
        try simp only [Act.put, List.setIfInBounds_toArray, List.set_cons_zero, List.set_cons_succ]
        refine rg_take (n := 1) (v := ?_) 24 (some 75) rfl rfl (by kernel_rfl) (by kernel_rfl) (by kernel_rfl) (fun _ _ _ h => h) (by rfl) hI ?_ ?_
        rotate_left
        · ((intro w hSw; (try dsimp only at hSw); go_simp); (try with_reducible rfl))
        try simp only [Act.put, List.setIfInBounds_toArray, List.set_cons_zero, List.set_cons_succ]
        refine rg_take (n := 0) (v := ?_) 25 (some 76) rfl rfl (by kernel_rfl) (by kernel_rfl) (by kernel_rfl) (fun _ _ _ h => h) (by rfl) hI ?_ ?_
        rotate_left
        · ((intro w hSw; (try dsimp only at hSw); go_simp); (try with_reducible rfl))
        try simp only [Act.put, List.setIfInBounds_toArray, List.set_cons_zero, List.set_cons_succ]
        refine wpAnyH_done (by kernel_rfl) ?_ _
        clear hI
        clear hd0 hd1 hql
        go_wp2
        go_roundw
        case rel => exact ⟨j + 1, by omega, by go_num, Hmr.out.trans Hml.out (fun _ _ h => h)⟩
        case measure => simp [intOf]; omega
      · have hql : (ql == 0) = false := by
          have : ¬ ql = 0 := fun e => h0 (Hfree.out.2 e)
          simpa using this
        have hd0 : (s.a == 0) = false := by simpa using h0
        by_cases h1 : s.a = 1
        · have hd1 : (s.a == 1) = true := by simpa using h1
          have hop : ((j : Int) != op) = false := by have := Hopen.out h1; simpa using this
          clear h0 h1
          go_wp2_with fail
          refine wp_region_held (S := (fun V : World => (V.cell? ⟨w6.heap.size, 0, none⟩ = some (.slice y.P y.n y.c) ∧ V.cell? ⟨w6.heap.size, 1, none⟩ = some (.slice (some ⟨b, o, none⟩) y.m y.d) ∧ V.cell? ⟨w6.heap.size, 2, none⟩ = some (.int .i64 y.t.sl) ∧ V.cell? ⟨w6.heap.size, 3, none⟩ = some (.int .i64 y.t.nw)) ∧ (V.cell? ⟨W.heap.size, 0, none⟩ = some (.slice x.P x.n x.c) ∧ V.cell? ⟨W.heap.size, 1, none⟩ = some (.slice x.S x.m x.d) ∧ V.cell? ⟨W.heap.size, 2, none⟩ = some (.int .i64 x.t.sl) ∧ V.cell? ⟨W.heap.size, 3, none⟩ = some (.int .i64 x.t.nw)) ∧ V.cell? ⟨b, o + j * 3, none⟩ = some (.int .i64 s.a))) (by kernel_rfl) ?_
          have hI := (show (fun V : World => (V.cell? ⟨w6.heap.size, 0, none⟩ = some (.slice y.P y.n y.c) ∧ V.cell? ⟨w6.heap.size, 1, none⟩ = some (.slice (some ⟨b, o, none⟩) y.m y.d) ∧ V.cell? ⟨w6.heap.size, 2, none⟩ = some (.int .i64 y.t.sl) ∧ V.cell? ⟨w6.heap.size, 3, none⟩ = some (.int .i64 y.t.nw)) ∧ (V.cell? ⟨W.heap.size, 0, none⟩ = some (.slice x.P x.n x.c) ∧ V.cell? ⟨W.heap.size, 1, none⟩ = some (.slice x.S x.m x.d) ∧ V.cell? ⟨W.heap.size, 2, none⟩ = some (.int .i64 x.t.sl) ∧ V.cell? ⟨W.heap.size, 3, none⟩ = some (.int .i64 x.t.nw)) ∧ V.cell? ⟨b, o + j * 3, none⟩ = some (.int .i64 s.a)) _ from ⟨HUc.out _ M0.out, (HBr.out.keep M0.out).bx.cells, HSc.out _ M0.out⟩)
          refine rg_take (n := 25) (v := ?_) 0 (some 51) rfl rfl (by kernel_rfl) (by kernel_rfl) (by kernel_rfl) (fun _ _ _ h => h) (by rfl) hI ?_ ?_
          rotate_left
          · ((intro w hSw; (try dsimp only at hSw); go_simp); (try with_reducible rfl))
          try simp only [Act.put, List.setIfInBounds_toArray, List.set_cons_zero, List.set_cons_succ]
          refine rg_take (n := 24) (v := ?_) 1 (some 52) rfl rfl (by kernel_rfl) (by kernel_rfl) (by kernel_rfl) (fun _ _ _ h => h) (by rfl) hI ?_ ?_
          rotate_left
          · ((intro w hSw; (try dsimp only at hSw); go_simp); (try with_reducible rfl))
          try simp only [Act.put, List.setIfInBounds_toArray, List.set_cons_zero, List.set_cons_succ]
          refine rg_take (n := 23) (v := ?_) 2 (some 53) rfl rfl (by kernel_rfl) (by kernel_rfl) (by kernel_rfl) (fun _ _ _ h => h) (by rfl) hI ?_ ?_
          rotate_left
          · ((intro w hSw; (try dsimp only at hSw); go_simp); (try with_reducible rfl))
          try simp only [Act.put, List.setIfInBounds_toArray, List.set_cons_zero, List.set_cons_succ]
          refine rg_take (n := 22) (v := ?_) 3 (some 54) rfl rfl (by kernel_rfl) (by kernel_rfl) (by kernel_rfl) (fun _ _ _ h => h) (by rfl) hI ?_ ?_
          rotate_left
          · ((intro w hSw; (try dsimp only at hSw); go_simp); (try with_reducible rfl))
          try simp only [Act.put, List.setIfInBounds_toArray, List.set_cons_zero, List.set_cons_succ]
          refine rg_take (n := 21) (v := ?_) 4 (some 55) rfl rfl (by kernel_rfl) (by kernel_rfl) (by kernel_rfl) (fun _ _ _ h => h) (by rfl) hI ?_ ?_
          rotate_left
          · ((intro w hSw; (try dsimp only at hSw); go_simp); (try with_reducible rfl))
          try simp only [Act.put, List.setIfInBounds_toArray, List.set_cons_zero, List.set_cons_succ]
          refine rg_take (n := 20) (v := ?_) 5 (some 56) rfl rfl (by kernel_rfl) (by kernel_rfl) (by kernel_rfl) (fun _ _ _ h => h) (by rfl) hI ?_ ?_
          rotate_left
          · ((intro w hSw; (try dsimp only at hSw); go_simp); (try with_reducible rfl))
          try simp only [Act.put, List.setIfInBounds_toArray, List.set_cons_zero, List.set_cons_succ]
          refine rg_take (n := 19) (v := ?_) 6 (some 57) rfl rfl (by kernel_rfl) (by kernel_rfl) (by kernel_rfl) (fun _ _ _ h => h) (by rfl) hI ?_ ?_
          rotate_left
          · ((intro w hSw; (try dsimp only at hSw); go_simp); (try with_reducible rfl))
          try simp only [Act.put, List.setIfInBounds_toArray, List.set_cons_zero, List.set_cons_succ]
          refine rg_take (n := 18) (v := ?_) 7 (some 58) rfl rfl (by kernel_rfl) (by kernel_rfl) (by kernel_rfl) (fun _ _ _ h => h) (by rfl) hI ?_ ?_
          rotate_left
          · ((intro w hSw; (try dsimp only at hSw); go_simp); (try with_reducible rfl))
          try simp only [Act.put, List.setIfInBounds_toArray, List.set_cons_zero, List.set_cons_succ]
          refine rg_take (n := 17) (v := ?_) 8 (some 59) rfl rfl (by kernel_rfl) (by kernel_rfl) (by kernel_rfl) (fun _ _ _ h => h) (by rfl) hI ?_ ?_
          rotate_left
          · ((intro w hSw; (try dsimp only at hSw); go_simp); (try with_reducible rfl))
          try simp only [Act.put, List.setIfInBounds_toArray, List.set_cons_zero, List.set_cons_succ]
          refine rg_one (n := 16) 9 rfl (by kernel_rfl) (by rfl) ?_
          go_simp
          go_at_call 17
          refine (HLV.out _ M0.out).mono ?_
          rintro e wl ⟨rfl, hml⟩
          have Hml := Lib.hid hml
          clear hml
          clear hI
          have hI := (show (fun V : World => (V.cell? ⟨w6.heap.size, 0, none⟩ = some (.slice y.P y.n y.c) ∧ V.cell? ⟨w6.heap.size, 1, none⟩ = some (.slice (some ⟨b, o, none⟩) y.m y.d) ∧ V.cell? ⟨w6.heap.size, 2, none⟩ = some (.int .i64 y.t.sl) ∧ V.cell? ⟨w6.heap.size, 3, none⟩ = some (.int .i64 y.t.nw)) ∧ (V.cell? ⟨W.heap.size, 0, none⟩ = some (.slice x.P x.n x.c) ∧ V.cell? ⟨W.heap.size, 1, none⟩ = some (.slice x.S x.m x.d) ∧ V.cell? ⟨W.heap.size, 2, none⟩ = some (.int .i64 x.t.sl) ∧ V.cell? ⟨W.heap.size, 3, none⟩ = some (.int .i64 x.t.nw)) ∧ V.cell? ⟨b, o + j * 3, none⟩ = some (.int .i64 s.a)) _ from ⟨HUc.out _ Hml.out, (HBr.out.keep Hml.out).bx.cells, HSc.out _ Hml.out⟩)
          refine ⟨hI, ?_⟩
          try simp only [Act.put, List.setIfInBounds_toArray, List.set_cons_zero, List.set_cons_succ]
          refine rg_take (n := 15) (v := ?_) 10 (some 61) rfl rfl (by kernel_rfl) (by kernel_rfl) (by kernel_rfl) (fun _ _ _ h => h) (by rfl) hI ?_ ?_
          rotate_left
          · ((intro w hSw; (try dsimp only at hSw); go_simp); (try with_reducible rfl))
          try simp only [Act.put, List.setIfInBounds_toArray, List.set_cons_zero, List.set_cons_succ]
          refine rg_take (n := 14) (v := ?_) 11 (some 62) rfl rfl (by kernel_rfl) (by kernel_rfl) (by kernel_rfl) (fun _ _ _ h => h) (by rfl) hI ?_ ?_
          rotate_left
          · ((intro w hSw; (try dsimp only at hSw); go_simp); (try with_reducible rfl))
          try simp only [Act.put, List.setIfInBounds_toArray, List.set_cons_zero, List.set_cons_succ]
          refine rg_take (n := 13) (v := ?_) 12 (some 63) rfl rfl (by kernel_rfl) (by kernel_rfl) (by kernel_rfl) (fun _ _ _ h => h) (by rfl) hI ?_ ?_
          rotate_left
          · ((intro w hSw; (try dsimp only at hSw); go_simp); (try with_reducible rfl))
          try simp only [Act.put, List.setIfInBounds_toArray, List.set_cons_zero, List.set_cons_succ]
          refine rg_take (n := 12) (v := ?_) 13 (some 64) rfl rfl (by kernel_rfl) (by kernel_rfl) (by kernel_rfl) (fun _ _ _ h => h) (by rfl) hI ?_ ?_
          rotate_left
          · ((intro w hSw; (try dsimp only at hSw); go_simp); (try with_reducible rfl))
          try simp only [Act.put, List.setIfInBounds_toArray, List.set_cons_zero, List.set_cons_succ]
          refine rg_take (n := 11) (v := ?_) 14 (some 65) rfl rfl (by kernel_rfl) (by kernel_rfl) (by kernel_rfl) (fun _ _ _ h => h) (by rfl) hI ?_ ?_
          rotate_left
          · ((intro w hSw; (try dsimp only at hSw); go_simp); (try with_reducible rfl))
          try simp only [Act.put, List.setIfInBounds_toArray, List.set_cons_zero, List.set_cons_succ]
          refine rg_take (n := 10) (v := ?_) 15 (some 66) rfl rfl (by kernel_rfl) (by kernel_rfl) (by kernel_rfl) (fun _ _ _ h => h) (by rfl) hI ?_ ?_
          rotate_left
          · ((intro w hSw; (try dsimp only at hSw); go_simp); (try with_reducible rfl))
          try simp only [Act.put, List.setIfInBounds_toArray, List.set_cons_zero, List.set_cons_succ]
          refine rg_take (n := 9) (v := ?_) 16 (some 67) rfl rfl (by kernel_rfl) (by kernel_rfl) (by kernel_rfl) (fun _ _ _ h => h) (by rfl) hI ?_ ?_
          rotate_left
          · ((intro w hSw; (try dsimp only at hSw); go_simp); (try with_reducible rfl))
          try simp only [Act.put, List.setIfInBounds_toArray, List.set_cons_zero, List.set_cons_succ]
          refine rg_take (n := 8) (v := ?_) 17 (some 68) rfl rfl (by kernel_rfl) (by kernel_rfl) (by kernel_rfl) (fun _ _ _ h => h) (by rfl) hI ?_ ?_
          rotate_left
          · ((intro w hSw; (try dsimp only at hSw); go_simp); (try with_reducible rfl))
          try simp only [Act.put, List.setIfInBounds_toArray, List.set_cons_zero, List.set_cons_succ]
          refine rg_take (n := 7) (v := ?_) 18 (some 69) rfl rfl (by kernel_rfl) (by kernel_rfl) (by kernel_rfl) (fun _ _ _ h => h) (by rfl) hI ?_ ?_
          rotate_left
          · ((intro w hSw; (try dsimp only at hSw); go_simp); (try with_reducible rfl))
          try simp only [Act.put, List.setIfInBounds_toArray, List.set_cons_zero, List.set_cons_succ]
          refine rg_take (n := 6) (v := ?_) 19 (some 70) rfl rfl (by kernel_rfl) (by kernel_rfl) (by kernel_rfl) (fun _ _ _ h => h) (by rfl) hI ?_ ?_
          rotate_left
          · ((intro w hSw; (try dsimp only at hSw); go_simp); (try with_reducible rfl))
          try simp only [Act.put, List.setIfInBounds_toArray, List.set_cons_zero, List.set_cons_succ]
          refine rg_take (n := 5) (v := ?_) 20 (some 71) rfl rfl (by kernel_rfl) (by kernel_rfl) (by kernel_rfl) (fun _ _ _ h => h) (by rfl) hI ?_ ?_
          rotate_left
          · ((intro w hSw; (try dsimp only at hSw); go_simp); (try with_reducible rfl))
          try simp only [Act.put, List.setIfInBounds_toArray, List.set_cons_zero, List.set_cons_succ]
          refine rg_take (n := 4) (v := ?_) 21 (some 72) rfl rfl (by kernel_rfl) (by kernel_rfl) (by kernel_rfl) (fun _ _ _ h => h) (by rfl) hI ?_ ?_
          rotate_left
          · ((intro w hSw; (try dsimp only at hSw); go_simp); (try with_reducible rfl))
          try simp only [Act.put, List.setIfInBounds_toArray, List.set_cons_zero, List.set_cons_succ]
          refine rg_take (n := 3) (v := ?_) 22 (some 73) rfl rfl (by kernel_rfl) (by kernel_rfl) (by kernel_rfl) (fun _ _ _ h => h) (by rfl) hI ?_ ?_
          rotate_left
          · ((intro w hSw; (try dsimp only at hSw); go_simp); (try with_reducible rfl))
          try simp only [Act.put, List.setIfInBounds_toArray, List.set_cons_zero, List.set_cons_succ]
          refine rg_take (n := 2) (v := ?_) 23 (some 74) rfl rfl (by kernel_rfl) (by kernel_rfl) (by kernel_rfl) (fun _ _ _ h => h) (by rfl) hI ?_ ?_
          rotate_left
          · ((intro w hSw; (try dsimp only at hSw); go_simp); (try with_reducible rfl))
          try simp only [Act.put, List.setIfInBounds_toArray, List.set_cons_zero, List.set_cons_succ]
          refine rg_take (n := 1) (v := ?_) 24 (some 75) rfl rfl (by kernel_rfl) (by kernel_rfl) (by kernel_rfl) (fun _ _ _ h => h) (by rfl) hI ?_ ?_
          rotate_left
          · ((intro w hSw; (try dsimp only at hSw); go_simp); (try with_reducible rfl))
          try simp only [Act.put, List.setIfInBounds_toArray, List.set_cons_zero, List.set_cons_succ]
          refine rg_take (n := 0) (v := ?_) 25 (some 76) rfl rfl (by kernel_rfl) (by kernel_rfl) (by kernel_rfl) (fun _ _ _ h => h) (by rfl) hI ?_ ?_
          rotate_left
          · ((intro w hSw; (try dsimp only at hSw); go_simp); (try with_reducible rfl))
          try simp only [Act.put, List.setIfInBounds_toArray, List.set_cons_zero, List.set_cons_succ]
          refine wpAnyH_done (by kernel_rfl) ?_ _
          clear hI
          clear hd0 hd1 hql
          go_wp2
          go_roundw
          case rel => exact ⟨j + 1, by omega, by go_num, Hmr.out.trans Hml.out (fun _ _ h => h)⟩
          case measure => simp [intOf]; omega
        · have hd1 : (s.a == 1) = false := by simpa using h1
          clear h0 h1
          go_wp2_with fail
          refine wp_region_held (S := (fun V : World => (V.cell? ⟨w6.heap.size, 0, none⟩ = some (.slice y.P y.n y.c) ∧ V.cell? ⟨w6.heap.size, 1, none⟩ = some (.slice (some ⟨b, o, none⟩) y.m y.d) ∧ V.cell? ⟨w6.heap.size, 2, none⟩ = some (.int .i64 y.t.sl) ∧ V.cell? ⟨w6.heap.size, 3, none⟩ = some (.int .i64 y.t.nw)) ∧ (V.cell? ⟨W.heap.size, 0, none⟩ = some (.slice x.P x.n x.c) ∧ V.cell? ⟨W.heap.size, 1, none⟩ = some (.slice x.S x.m x.d) ∧ V.cell? ⟨W.heap.size, 2, none⟩ = some (.int .i64 x.t.sl) ∧ V.cell? ⟨W.heap.size, 3, none⟩ = some (.int .i64 x.t.nw)) ∧ V.cell? ⟨b, o + j * 3, none⟩ = some (.int .i64 s.a))) (by kernel_rfl) ?_
          have hI := (show (fun V : World => (V.cell? ⟨w6.heap.size, 0, none⟩ = some (.slice y.P y.n y.c) ∧ V.cell? ⟨w6.heap.size, 1, none⟩ = some (.slice (some ⟨b, o, none⟩) y.m y.d) ∧ V.cell? ⟨w6.heap.size, 2, none⟩ = some (.int .i64 y.t.sl) ∧ V.cell? ⟨w6.heap.size, 3, none⟩ = some (.int .i64 y.t.nw)) ∧ (V.cell? ⟨W.heap.size, 0, none⟩ = some (.slice x.P x.n x.c) ∧ V.cell? ⟨W.heap.size, 1, none⟩ = some (.slice x.S x.m x.d) ∧ V.cell? ⟨W.heap.size, 2, none⟩ = some (.int .i64 x.t.sl) ∧ V.cell? ⟨W.heap.size, 3, none⟩ = some (.int .i64 x.t.nw)) ∧ V.cell? ⟨b, o + j * 3, none⟩ = some (.int .i64 s.a)) _ from ⟨HUc.out _ M0.out, (HBr.out.keep M0.out).bx.cells, HSc.out _ M0.out⟩)
          refine rg_take (n := 25) (v := ?_) 0 (some 51) rfl rfl (by kernel_rfl) (by kernel_rfl) (by kernel_rfl) (fun _ _ _ h => h) (by rfl) hI ?_ ?_
          rotate_left
          · ((intro w hSw; (try dsimp only at hSw); go_simp); (try with_reducible rfl))
          try simp only [Act.put, List.setIfInBounds_toArray, List.set_cons_zero, List.set_cons_succ]
          refine rg_take (n := 24) (v := ?_) 1 (some 52) rfl rfl (by kernel_rfl) (by kernel_rfl) (by kernel_rfl) (fun _ _ _ h => h) (by rfl) hI ?_ ?_
          rotate_left
          · ((intro w hSw; (try dsimp only at hSw); go_simp); (try with_reducible rfl))
          try simp only [Act.put, List.setIfInBounds_toArray, List.set_cons_zero, List.set_cons_succ]
          refine rg_take (n := 23) (v := ?_) 2 (some 53) rfl rfl (by kernel_rfl) (by kernel_rfl) (by kernel_rfl) (fun _ _ _ h => h) (by rfl) hI ?_ ?_
          rotate_left
          · ((intro w hSw; (try dsimp only at hSw); go_simp); (try with_reducible rfl))
          try simp only [Act.put, List.setIfInBounds_toArray, List.set_cons_zero, List.set_cons_succ]
          refine rg_take (n := 22) (v := ?_) 3 (some 54) rfl rfl (by kernel_rfl) (by kernel_rfl) (by kernel_rfl) (fun _ _ _ h => h) (by rfl) hI ?_ ?_
          rotate_left
          · ((intro w hSw; (try dsimp only at hSw); go_simp); (try with_reducible rfl))
          try simp only [Act.put, List.setIfInBounds_toArray, List.set_cons_zero, List.set_cons_succ]
          refine rg_take (n := 21) (v := ?_) 4 (some 55) rfl rfl (by kernel_rfl) (by kernel_rfl) (by kernel_rfl) (fun _ _ _ h => h) (by rfl) hI ?_ ?_
          rotate_left
          · ((intro w hSw; (try dsimp only at hSw); go_simp); (try with_reducible rfl))
          try simp only [Act.put, List.setIfInBounds_toArray, List.set_cons_zero, List.set_cons_succ]
          refine rg_take (n := 20) (v := ?_) 5 (some 56) rfl rfl (by kernel_rfl) (by kernel_rfl) (by kernel_rfl) (fun _ _ _ h => h) (by rfl) hI ?_ ?_
          rotate_left
          · ((intro w hSw; (try dsimp only at hSw); go_simp); (try with_reducible rfl))
          try simp only [Act.put, List.setIfInBounds_toArray, List.set_cons_zero, List.set_cons_succ]
          refine rg_take (n := 19) (v := ?_) 6 (some 57) rfl rfl (by kernel_rfl) (by kernel_rfl) (by kernel_rfl) (fun _ _ _ h => h) (by rfl) hI ?_ ?_
          rotate_left
          · ((intro w hSw; (try dsimp only at hSw); go_simp); (try with_reducible rfl))
          try simp only [Act.put, List.setIfInBounds_toArray, List.set_cons_zero, List.set_cons_succ]
          refine rg_take (n := 18) (v := ?_) 7 (some 58) rfl rfl (by kernel_rfl) (by kernel_rfl) (by kernel_rfl) (fun _ _ _ h => h) (by rfl) hI ?_ ?_
          rotate_left
          · ((intro w hSw; (try dsimp only at hSw); go_simp); (try with_reducible rfl))
          try simp only [Act.put, List.setIfInBounds_toArray, List.set_cons_zero, List.set_cons_succ]
          refine rg_take (n := 17) (v := ?_) 8 (some 59) rfl rfl (by kernel_rfl) (by kernel_rfl) (by kernel_rfl) (fun _ _ _ h => h) (by rfl) hI ?_ ?_
          rotate_left
          · ((intro w hSw; (try dsimp only at hSw); go_simp); (try with_reducible rfl))
          try simp only [Act.put, List.setIfInBounds_toArray, List.set_cons_zero, List.set_cons_succ]
          refine rg_one (n := 16) 9 rfl (by kernel_rfl) (by rfl) ?_
          go_simp
          go_at_call 17
          refine (HLV.out _ M0.out).mono ?_
          rintro e wl ⟨rfl, hml⟩
          have Hml := Lib.hid hml
          clear hml
          clear hI
          have hI := (show (fun V : World => (V.cell? ⟨w6.heap.size, 0, none⟩ = some (.slice y.P y.n y.c) ∧ V.cell? ⟨w6.heap.size, 1, none⟩ = some (.slice (some ⟨b, o, none⟩) y.m y.d) ∧ V.cell? ⟨w6.heap.size, 2, none⟩ = some (.int .i64 y.t.sl) ∧ V.cell? ⟨w6.heap.size, 3, none⟩ = some (.int .i64 y.t.nw)) ∧ (V.cell? ⟨W.heap.size, 0, none⟩ = some (.slice x.P x.n x.c) ∧ V.cell? ⟨W.heap.size, 1, none⟩ = some (.slice x.S x.m x.d) ∧ V.cell? ⟨W.heap.size, 2, none⟩ = some (.int .i64 x.t.sl) ∧ V.cell? ⟨W.heap.size, 3, none⟩ = some (.int .i64 x.t.nw)) ∧ V.cell? ⟨b, o + j * 3, none⟩ = some (.int .i64 s.a)) _ from ⟨HUc.out _ Hml.out, (HBr.out.keep Hml.out).bx.cells, HSc.out _ Hml.out⟩)
          refine ⟨hI, ?_⟩
          try simp only [Act.put, List.setIfInBounds_toArray, List.set_cons_zero, List.set_cons_succ]
          refine rg_take (n := 15) (v := ?_) 10 (some 61) rfl rfl (by kernel_rfl) (by kernel_rfl) (by kernel_rfl) (fun _ _ _ h => h) (by rfl) hI ?_ ?_
          rotate_left
          · ((intro w hSw; (try dsimp only at hSw); go_simp); (try with_reducible rfl))
          try simp only [Act.put, List.setIfInBounds_toArray, List.set_cons_zero, List.set_cons_succ]
          refine rg_take (n := 14) (v := ?_) 11 (some 62) rfl rfl (by kernel_rfl) (by kernel_rfl) (by kernel_rfl) (fun _ _ _ h => h) (by rfl) hI ?_ ?_
          rotate_left
          · ((intro w hSw; (try dsimp only at hSw); go_simp); (try with_reducible rfl))
          try simp only [Act.put, List.setIfInBounds_toArray, List.set_cons_zero, List.set_cons_succ]
          refine rg_take (n := 13) (v := ?_) 12 (some 63) rfl rfl (by kernel_rfl) (by kernel_rfl) (by kernel_rfl) (fun _ _ _ h => h) (by rfl) hI ?_ ?_
          rotate_left
          · ((intro w hSw; (try dsimp only at hSw); go_simp); (try with_reducible rfl))
          try simp only [Act.put, List.setIfInBounds_toArray, List.set_cons_zero, List.set_cons_succ]
          refine rg_take (n := 12) (v := ?_) 13 (some 64) rfl rfl (by kernel_rfl) (by kernel_rfl) (by kernel_rfl) (fun _ _ _ h => h) (by rfl) hI ?_ ?_
          rotate_left
          · ((intro w hSw; (try dsimp only at hSw); go_simp); (try with_reducible rfl))
          try simp only [Act.put, List.setIfInBounds_toArray, List.set_cons_zero, List.set_cons_succ]
          refine rg_take (n := 11) (v := ?_) 14 (some 65) rfl rfl (by kernel_rfl) (by kernel_rfl) (by kernel_rfl) (fun _ _ _ h => h) (by rfl) hI ?_ ?_
          rotate_left
          · ((intro w hSw; (try dsimp only at hSw); go_simp); (try with_reducible rfl))
          try simp only [Act.put, List.setIfInBounds_toArray, List.set_cons_zero, List.set_cons_succ]
          refine rg_take (n := 10) (v := ?_) 15 (some 66) rfl rfl (by kernel_rfl) (by kernel_rfl) (by kernel_rfl) (fun _ _ _ h => h) (by rfl) hI ?_ ?_
          rotate_left
          · ((intro w hSw; (try dsimp only at hSw); go_simp); (try with_reducible rfl))
          try simp only [Act.put, List.setIfInBounds_toArray, List.set_cons_zero, List.set_cons_succ]
          refine rg_take (n := 9) (v := ?_) 16 (some 67) rfl rfl (by kernel_rfl) (by kernel_rfl) (by kernel_rfl) (fun _ _ _ h => h) (by rfl) hI ?_ ?_
          rotate_left
          · ((intro w hSw; (try dsimp only at hSw); go_simp); (try with_reducible rfl))
          try simp only [Act.put, List.setIfInBounds_toArray, List.set_cons_zero, List.set_cons_succ]
          refine rg_take (n := 8) (v := ?_) 17 (some 68) rfl rfl (by kernel_rfl) (by kernel_rfl) (by kernel_rfl) (fun _ _ _ h => h) (by rfl) hI ?_ ?_
          rotate_left
          · ((intro w hSw; (try dsimp only at hSw); go_simp); (try with_reducible rfl))
          try simp only [Act.put, List.setIfInBounds_toArray, List.set_cons_zero, List.set_cons_succ]
          refine rg_take (n := 7) (v := ?_) 18 (some 69) rfl rfl (by kernel_rfl) (by kernel_rfl) (by kernel_rfl) (fun _ _ _ h => h) (by rfl) hI ?_ ?_
          rotate_left
          · ((intro w hSw; (try dsimp only at hSw); go_simp); (try with_reducible rfl))
          try simp only [Act.put, List.setIfInBounds_toArray, List.set_cons_zero, List.set_cons_succ]
          refine rg_take (n := 6) (v := ?_) 19 (some 70) rfl rfl (by kernel_rfl) (by kernel_rfl) (by kernel_rfl) (fun _ _ _ h => h) (by rfl) hI ?_ ?_
          rotate_left
          · ((intro w hSw; (try dsimp only at hSw); go_simp); (try with_reducible rfl))
          try simp only [Act.put, List.setIfInBounds_toArray, List.set_cons_zero, List.set_cons_succ]
          refine rg_take (n := 5) (v := ?_) 20 (some 71) rfl rfl (by kernel_rfl) (by kernel_rfl) (by kernel_rfl) (fun _ _ _ h => h) (by rfl) hI ?_ ?_
          rotate_left
          · ((intro w hSw; (try dsimp only at hSw); go_simp); (try with_reducible rfl))
          try simp only [Act.put, List.setIfInBounds_toArray, List.set_cons_zero, List.set_cons_succ]
          refine rg_skip (n := 4) 21 (some 72) rfl rfl (by kernel_rfl) (by kernel_rfl) (by kernel_rfl) (fun _ _ _ h => h) (by rfl) hI ?_
          try simp only [Act.put, List.setIfInBounds_toArray, List.set_cons_zero, List.set_cons_succ]
          refine rg_skip (n := 3) 22 (some 73) rfl rfl (by kernel_rfl) (by kernel_rfl) (by kernel_rfl) (fun _ _ _ h => h) (by rfl) hI ?_
          try simp only [Act.put, List.setIfInBounds_toArray, List.set_cons_zero, List.set_cons_succ]
          refine rg_skip (n := 2) 23 (some 74) rfl rfl (by kernel_rfl) (by kernel_rfl) (by kernel_rfl) (fun _ _ _ h => h) (by rfl) hI ?_
          try simp only [Act.put, List.setIfInBounds_toArray, List.set_cons_zero, List.set_cons_succ]
          refine rg_take (n := 1) (v := ?_) 24 (some 75) rfl rfl (by kernel_rfl) (by kernel_rfl) (by kernel_rfl) (fun _ _ _ h => h) (by rfl) hI ?_ ?_
          rotate_left
          · ((intro w hSw; (try dsimp only at hSw); go_simp); (try with_reducible rfl))
          try simp only [Act.put, List.setIfInBounds_toArray, List.set_cons_zero, List.set_cons_succ]
          refine rg_take (n := 0) (v := ?_) 25 (some 76) rfl rfl (by kernel_rfl) (by kernel_rfl) (by kernel_rfl) (fun _ _ _ h => h) (by rfl) hI ?_ ?_
          rotate_left
          · ((intro w hSw; (try dsimp only at hSw); go_simp); (try with_reducible rfl))
          try simp only [Act.put, List.setIfInBounds_toArray, List.set_cons_zero, List.set_cons_succ]
          refine wpAnyH_done (by kernel_rfl) ?_ _
          clear hI
          clear hd0 hd1 hql
          go_wp2
          go_roundw
          case rel => exact ⟨j + 1, by omega, by go_num, Hmr.out.trans Hml.out (fun _ _ h => h)⟩
          case measure => simp [intOf]; omega
    · obtain rfl : j = y.m := by omega
      go_wp2
      clear c0 c1 c2 c3
      go_loopw [13] (fun k wv => ∃ j : Nat, j ≤ x.n ∧ k = .int .i64 j ∧ Mod (fun _ => False) wr wv) (fun k _ => x.n - (intOf k).toNat)
      case atStart => exact ⟨0, Nat.zero_le _, rfl, Mod.refl _ _⟩
      case round =>
        obtain ⟨k, hk, rfl, hmv⟩ := hrel
        have Hmv := Lib.hid hmv
        have HBv := Lib.hid (HBr.out.keep hmv)
        have HUv := Lib.hid (HUr.out.keep hmv)
        clear hmv
        obtain ⟨c0, c1, c2, c3⟩ := HUv.out.bx.cells
        obtain ⟨d0, d1, d2, d3⟩ := HBv.out.bx.cells
        by_cases hlt2 : k < x.n
        · obtain ⟨b, o, hP, hcs⟩ := HUv.out.at_.pg.cells (by rw [Hyn.out]; omega)
          obtain ⟨b', o', hP', hcs'⟩ := HBv.out.at_.pg.cells (by omega)
          have hs := hcs k (by rw [Hyn.out]; omega)
          have hs' := hcs' k hlt2
          rw [HUv.out.t] at hs
          change At3 _ b (o + k * 3) (atS x.t.pg k) at hs
          have heq : ∀ w, (Op.equalIn 10000 34 (.agg #[.int .i64 (atS x.t.pg k).a, .int .i64 (atS x.t.pg k).b, .int .i64 (atS x.t.pg k).c]) (.agg #[.int .i64 (atS x.t.pg k).a, .int .i64 (atS x.t.pg k).b, .int .i64 (atS x.t.pg k).c])).run Try.prog w = .ok true w := fun w => (eq_pl (atS x.t.pg k) (atS x.t.pg k) w).trans (by rw [eqT_self])
          generalize atS x.t.pg k = s at *
          obtain ⟨s0, s1, s2⟩ := hs
          obtain ⟨s0', s1', s2'⟩ := hs'
          rw [hP] at c0
          rw [hP'] at d0
          have hki : (k : Int) < (x.n : Int) := by omega
          have hkj : (k : Int) < (y.n : Int) := by rw [Hyn.out]; omega
          have hk0 : (0 : Int) ≤ (k : Int) := by omega
          clear hcs hcs' hP hP'
          go_wp2_with fail
          go_quiet (fail)
          go_wp2
          go_roundw
          case rel => exact ⟨k + 1, by omega, by go_num, Hmv.out.drewN _⟩
          case measure => simp [intOf]; omega
        · obtain rfl : k = x.n := by omega
          have HMU := Lib.hid (l_may HUv.out L2.out)
          rw [Hmb.out] at HMU
          go_wp2_with fail
          refine HMU.out.mono ?_
          rintro e wz ⟨rfl, hmz⟩
          have HMz := Lib.hid (HBv.out.old.trans hmz (fun _ _ h => h))
          clear hmz
          go_wp2
          go_ret
          exact ⟨rfl, HMz.out.below (Nat.le_refl _) (fun _ _ => id)⟩
end Go.Proofs.Ytimkejjoggglpaa
