/-
  Package table: Set.
-/
import Derived.Test.YthbcgbbcoanbdaaTFr2
import Derived.Test.YthbcgbbcoanbdaaTPut
namespace Go.Proofs.Ythbcgbbcoanbdaa
open Go Go.RowKit

def setE (t : Tb) (page : Int) (p : Tr) : Int := if mayB t && inB page 0 ((t.pg.length : Int) - 1) && (eqT p emT || plB t p) then (if !eqT p emT && takB t.pg page p then 5 else 0) else 1
def setT (t : Tb) (page : Int) (p : Tr) : Tb := if eqT p emT = true then ⟨t.pg.set page.toNat p, t.sg, t.sl, t.nw⟩ else ⟨t.pg.set page.toNat p, t.sg.set p.a.toNat (fillT t.sl t.sl (ageT t p.a.toNat)), t.sl, t.nw⟩

set_option maxRecDepth 100000 in
set_option maxHeartbeats 6400000 in
theorem set_ok (w : World) (x : TV) (h : x.At w) (hn : x.n ≤ 1000) (hm : x.m ≤ 1000) (page : Int) (p : Tr) :
    Calls Try.prog 30 #[.agg #[.slice x.P x.n x.c, .slice x.S x.m x.d, .int .i64 x.t.sl, .int .i64 x.t.nw], .int .i64 page, .agg #[.int .i64 p.a, .int .i64 p.b, .int .i64 p.c]] w fun e w' => TbAns w w' (setE x.t page p) (setT x.t page p) e := by
  obtain ⟨w1, hw1⟩ : ∃ w1, ((w.alloc (.cells #[.slice x.P x.n x.c, .slice x.S x.m x.d, .int .i64 x.t.sl, .int .i64 x.t.nw] 27)).alloc (.cells #[.int .i64 p.a, .int .i64 p.b, .int .i64 p.c] 34)).alloc (.cells #[.slice none 0 0, .slice none 0 0, .int .i64 0, .int .i64 0] 27) = w1 := ⟨_, rfl⟩
  have hb : Bxt w w1 x := by
    rw [← hw1]
    refine ⟨((TBx.new w x).keep ((Mod.refl _ _).alloc _)).keep ((Mod.refl _ _).alloc _), ?_, (((Mod.refl _ w).alloc _).alloc _).alloc _, by simp⟩
    have := TBx.new ((w.alloc (.cells #[.slice x.P x.n x.c, .slice x.S x.m x.d, .int .i64 x.t.sl, .int .i64 x.t.nw] 27)).alloc (.cells #[.int .i64 p.a, .int .i64 p.b, .int .i64 p.c] 34)) z0
    rw [World.size_alloc, World.size_alloc] at this
    exact this
  have hr : RBx w1 (w.heap.size + 1) 34 p := by
    rw [← hw1]
    have := (RBx.new (w.alloc (.cells #[.slice x.P x.n x.c, .slice x.S x.m x.d, .int .i64 x.t.sl, .int .i64 x.t.nw] 27)) 34 p).keep ((Mod.refl _ _).alloc (.cells #[.slice none 0 0, .slice none 0 0, .int .i64 0, .int .i64 0] 27))
    rw [World.size_alloc] at this
    exact this
  obtain ⟨c0, c1, c2, c3⟩ := hb.b1.cells
  have HB := Lib.hid hb
  have HR := Lib.hid hr
  have HX := Lib.hid (h.keep hb.old)
  have Hpl : Hid (x.t.pg.length = x.n) := h.pg.len
  have Hsl : Hid (x.t.sg.length = x.m) := h.sg.len
  have HMY := Lib.hid (fun W (hW : x.At W) => tmay_ok W x hW hn hm)
  have W2 := Lib.hid (fun W => hasPage_ok W x hn page)
  have Hcp := Lib.hid (fun W (hW : x.At W) => copied_ok W x hW hn hm)
  have HTK := Lib.hid (fun W (hW : x.At W) => taken_ok W x hW hn page p)
  have M0 : Hid (Mod (fun _ => False) w1 w1.drew) := (Mod.refl _ w1).drew
  have HEM : Hid (∀ W, Mod (fun _ => False) w1 W → Calls Try.prog 27 #[] W fun e w' => e = .returned (.agg #[.int .i64 (-1), .int .i64 0, .int .i64 0]) ∧ Mod (fun _ => False) w1 w') := fun W hW => (empty_ok W).mono (fun e w' h => ⟨h.1, hW.trans h.2 (fun _ _ h => h)⟩)
  have heq : ∀ w, (Op.equalIn 10000 34 (.agg #[.int .i64 p.a, .int .i64 p.b, .int .i64 p.c]) (.agg #[.int .i64 (-1), .int .i64 0, .int .i64 0])).run Try.prog w = .ok (eqT p emT) w := fun w => eq_pl p emT w
  clear hb h hr
  have HE : Hid (setE x.t page p = if mayB x.t && inB page 0 ((x.n : Int) - 1) && (eqT p emT || plB x.t p) then (if !eqT p emT && takB x.t.pg page p then 5 else 0) else 1) := by rw [← Hpl.out]; exact Lib.hid rfl
  cases hy : mayB x.t with
  | false =>
    rw [hy] at HMY HE
    have He1 : setE x.t page p = 1 := by rw [HE.out]; simp
    rw [He1]
    generalize eqT p emT = eb at *
    clear hy He1 HE
    go_enter Try.func30, Try.ntmps30
    go_wp2_with fail
    clear hw1 c0 c1 c2 c3
    refine wp_region_held (S := (fun W : World => (W.cell? ⟨w.heap.size, 0, none⟩ = some (.slice x.P x.n x.c) ∧ W.cell? ⟨w.heap.size, 1, none⟩ = some (.slice x.S x.m x.d) ∧ W.cell? ⟨w.heap.size, 2, none⟩ = some (.int .i64 x.t.sl) ∧ W.cell? ⟨w.heap.size, 3, none⟩ = some (.int .i64 x.t.nw)) ∧ (W.cell? ⟨w.heap.size + 1, 0, none⟩ = some (.int .i64 p.a) ∧ W.cell? ⟨w.heap.size + 1, 1, none⟩ = some (.int .i64 p.b) ∧ W.cell? ⟨w.heap.size + 1, 2, none⟩ = some (.int .i64 p.c)))) (by kernel_rfl) ?_
    have hI := (show (fun W : World => (W.cell? ⟨w.heap.size, 0, none⟩ = some (.slice x.P x.n x.c) ∧ W.cell? ⟨w.heap.size, 1, none⟩ = some (.slice x.S x.m x.d) ∧ W.cell? ⟨w.heap.size, 2, none⟩ = some (.int .i64 x.t.sl) ∧ W.cell? ⟨w.heap.size, 3, none⟩ = some (.int .i64 x.t.nw)) ∧ (W.cell? ⟨w.heap.size + 1, 0, none⟩ = some (.int .i64 p.a) ∧ W.cell? ⟨w.heap.size + 1, 1, none⟩ = some (.int .i64 p.b) ∧ W.cell? ⟨w.heap.size + 1, 2, none⟩ = some (.int .i64 p.c))) _ from ⟨(HB.out.keep M0.out).b1.cells, (HR.out.keep M0.out).cells⟩)
    refine rg_take (n := 3) (v := ?_) 0 (some 9) rfl rfl (by kernel_rfl) (by kernel_rfl) (by kernel_rfl) (fun _ _ _ h => h) (by rfl) hI ?_ ?_
    rotate_left
    · ((intro w hSw; (try dsimp only at hSw); go_simp); (try with_reducible rfl))
    try simp only [Act.put, List.setIfInBounds_toArray, List.set_cons_zero, List.set_cons_succ]
    refine rg_one (n := 2) 1 rfl (by kernel_rfl) (by rfl) ?_
    go_simp
    go_at_call 27
    refine (HEM.out _ M0.out).mono ?_
    rintro e w2 ⟨rfl, hm2⟩
    have HB2 := Lib.hid (HB.out.keep hm2)
    have HR2 := Lib.hid (HR.out.keep hm2)
    have HX2 := Lib.hid (HX.out.keep hm2)
    clear hm2
    clear hI
    have hI := (show (fun W : World => (W.cell? ⟨w.heap.size, 0, none⟩ = some (.slice x.P x.n x.c) ∧ W.cell? ⟨w.heap.size, 1, none⟩ = some (.slice x.S x.m x.d) ∧ W.cell? ⟨w.heap.size, 2, none⟩ = some (.int .i64 x.t.sl) ∧ W.cell? ⟨w.heap.size, 3, none⟩ = some (.int .i64 x.t.nw)) ∧ (W.cell? ⟨w.heap.size + 1, 0, none⟩ = some (.int .i64 p.a) ∧ W.cell? ⟨w.heap.size + 1, 1, none⟩ = some (.int .i64 p.b) ∧ W.cell? ⟨w.heap.size + 1, 2, none⟩ = some (.int .i64 p.c))) _ from ⟨HB2.out.b1.cells, HR2.out.cells⟩)
    refine ⟨hI, ?_⟩
    try simp only [Act.put, List.setIfInBounds_toArray, List.set_cons_zero, List.set_cons_succ]
    refine rg_take (n := 1) (v := ?_) 2 (some 11) rfl rfl (by kernel_rfl) (by kernel_rfl) (by kernel_rfl) (fun _ _ _ h => h) (by rfl) hI ?_ ?_
    rotate_left
    · ((intro w hSw; (try dsimp only at hSw); go_simp); (try with_reducible rfl))
    try simp only [Act.put, List.setIfInBounds_toArray, List.set_cons_zero, List.set_cons_succ]
    refine rg_take (n := 0) (v := ?_) 3 (some 8) rfl rfl (by kernel_rfl) (by kernel_rfl) (by kernel_rfl) (fun _ _ _ h => h) (by rfl) hI ?_ ?_
    rotate_left
    · ((intro w hSw; (try dsimp only at hSw); go_simp); (try with_reducible rfl))
    try simp only [Act.put, List.setIfInBounds_toArray, List.set_cons_zero, List.set_cons_succ]
    refine wpAnyH_done (by kernel_rfl) ?_ _
    clear hI
    obtain ⟨d0, d1, d2, d3⟩ := HB2.out.b1.cells
    obtain ⟨e0, e1, e2⟩ := HR2.out.cells
    go_wp2_with fail
    refine (HMY.out _ HX2.out).mono ?_
    rintro e w3 ⟨rfl, hm3⟩
    have HB3 := Lib.hid (HB2.out.keep hm3)
    have HR3 := Lib.hid (HR2.out.keep hm3)
    have HX3 := Lib.hid (HX2.out.keep hm3)
    clear hm3 d0 d1 d2 d3 e0 e1 e2
    obtain ⟨d0, d1, d2, d3⟩ := HB3.out.b1.cells
    obtain ⟨e0, e1, e2⟩ := HR3.out.cells
    clear d0 d1 d2 d3 e0 e1 e2
    have fz0 := (HB3.out).b2.frozen 0
    have fz1 := (HB3.out).b2.frozen 1
    have fz2 := (HB3.out).b2.frozen 2
    have fz3 := (HB3.out).b2.frozen 3
    obtain ⟨z0c, z1c, z2c, z3c⟩ := (HB3.out).b2.cells
    have herr := (HB3.out).err
    obtain ⟨wf, hwf⟩ : ∃ wf, stT w3 (w.heap.size + 2) z0 = wf := ⟨_, rfl⟩
    rw [hwf] at herr
    unfold stT at hwf
    have Herr := Lib.hid herr
    have hwf : ((((w3).setCell ⟨w.heap.size + 2, 0, none⟩ (.slice none 0 0)).setCell ⟨w.heap.size + 2, 1, none⟩ (.slice none 0 0)).setCell ⟨w.heap.size + 2, 2, none⟩ (.int .i64 0)).setCell ⟨w.heap.size + 2, 3, none⟩ (.int .i64 0) = wf := hwf
    clear herr
    go_wp2
    clear hwf fz0 fz1 fz2 fz3 z0c z1c z2c z3c
    have q0 : wf.cell? ⟨w.heap.size + 2, 0, none⟩ = some (.slice none 0 0) := Herr.out.1.cells.1
    have q1 : wf.cell? ⟨w.heap.size + 2, 1, none⟩ = some (.slice none 0 0) := Herr.out.1.cells.2.1
    have q2 : wf.cell? ⟨w.heap.size + 2, 2, none⟩ = some (.int .i64 0) := Herr.out.1.cells.2.2.1
    have q3 : wf.cell? ⟨w.heap.size + 2, 3, none⟩ = some (.int .i64 0) := Herr.out.1.cells.2.2.2
    refine bodyPost_ret (v := .tuple #[.agg #[.slice none 0 0, .slice none 0 0, .int .i64 0, .int .i64 0], .int .i64 1]) (by simp [results, Try.results30, go_sem, q0, q1, q2, q3]) rfl ?_
    exact ⟨z0, rfl, z0_at _, rfl, Herr.out.2⟩
  | true =>
  rw [hy] at HMY HE
  have Hmay := Lib.hid (mayB_iff.1 hy)
  clear hy
  have HPL := Lib.hid (fun W => mayPlace_ok W x p hm Hsl.out.symm Hmay.out.k1 Hmay.out.k2)
  cases hp : inB page 0 ((x.n : Int) - 1) with
  | false =>
    rw [hp] at W2 HE
    have He1 : setE x.t page p = 1 := by rw [HE.out]; simp
    rw [He1]
    generalize eqT p emT = eb at *
    clear hp He1 HE
    go_enter Try.func30, Try.ntmps30
    go_wp2_with fail
    clear hw1 c0 c1 c2 c3
    refine wp_region_held (S := (fun W : World => (W.cell? ⟨w.heap.size, 0, none⟩ = some (.slice x.P x.n x.c) ∧ W.cell? ⟨w.heap.size, 1, none⟩ = some (.slice x.S x.m x.d) ∧ W.cell? ⟨w.heap.size, 2, none⟩ = some (.int .i64 x.t.sl) ∧ W.cell? ⟨w.heap.size, 3, none⟩ = some (.int .i64 x.t.nw)) ∧ (W.cell? ⟨w.heap.size + 1, 0, none⟩ = some (.int .i64 p.a) ∧ W.cell? ⟨w.heap.size + 1, 1, none⟩ = some (.int .i64 p.b) ∧ W.cell? ⟨w.heap.size + 1, 2, none⟩ = some (.int .i64 p.c)))) (by kernel_rfl) ?_
    have hI := (show (fun W : World => (W.cell? ⟨w.heap.size, 0, none⟩ = some (.slice x.P x.n x.c) ∧ W.cell? ⟨w.heap.size, 1, none⟩ = some (.slice x.S x.m x.d) ∧ W.cell? ⟨w.heap.size, 2, none⟩ = some (.int .i64 x.t.sl) ∧ W.cell? ⟨w.heap.size, 3, none⟩ = some (.int .i64 x.t.nw)) ∧ (W.cell? ⟨w.heap.size + 1, 0, none⟩ = some (.int .i64 p.a) ∧ W.cell? ⟨w.heap.size + 1, 1, none⟩ = some (.int .i64 p.b) ∧ W.cell? ⟨w.heap.size + 1, 2, none⟩ = some (.int .i64 p.c))) _ from ⟨(HB.out.keep M0.out).b1.cells, (HR.out.keep M0.out).cells⟩)
    refine rg_take (n := 3) (v := ?_) 0 (some 9) rfl rfl (by kernel_rfl) (by kernel_rfl) (by kernel_rfl) (fun _ _ _ h => h) (by rfl) hI ?_ ?_
    rotate_left
    · ((intro w hSw; (try dsimp only at hSw); go_simp); (try with_reducible rfl))
    try simp only [Act.put, List.setIfInBounds_toArray, List.set_cons_zero, List.set_cons_succ]
    refine rg_one (n := 2) 1 rfl (by kernel_rfl) (by rfl) ?_
    go_simp
    go_at_call 27
    refine (HEM.out _ M0.out).mono ?_
    rintro e w2 ⟨rfl, hm2⟩
    have HB2 := Lib.hid (HB.out.keep hm2)
    have HR2 := Lib.hid (HR.out.keep hm2)
    have HX2 := Lib.hid (HX.out.keep hm2)
    clear hm2
    clear hI
    have hI := (show (fun W : World => (W.cell? ⟨w.heap.size, 0, none⟩ = some (.slice x.P x.n x.c) ∧ W.cell? ⟨w.heap.size, 1, none⟩ = some (.slice x.S x.m x.d) ∧ W.cell? ⟨w.heap.size, 2, none⟩ = some (.int .i64 x.t.sl) ∧ W.cell? ⟨w.heap.size, 3, none⟩ = some (.int .i64 x.t.nw)) ∧ (W.cell? ⟨w.heap.size + 1, 0, none⟩ = some (.int .i64 p.a) ∧ W.cell? ⟨w.heap.size + 1, 1, none⟩ = some (.int .i64 p.b) ∧ W.cell? ⟨w.heap.size + 1, 2, none⟩ = some (.int .i64 p.c))) _ from ⟨HB2.out.b1.cells, HR2.out.cells⟩)
    refine ⟨hI, ?_⟩
    try simp only [Act.put, List.setIfInBounds_toArray, List.set_cons_zero, List.set_cons_succ]
    refine rg_take (n := 1) (v := ?_) 2 (some 11) rfl rfl (by kernel_rfl) (by kernel_rfl) (by kernel_rfl) (fun _ _ _ h => h) (by rfl) hI ?_ ?_
    rotate_left
    · ((intro w hSw; (try dsimp only at hSw); go_simp); (try with_reducible rfl))
    try simp only [Act.put, List.setIfInBounds_toArray, List.set_cons_zero, List.set_cons_succ]
    refine rg_take (n := 0) (v := ?_) 3 (some 8) rfl rfl (by kernel_rfl) (by kernel_rfl) (by kernel_rfl) (fun _ _ _ h => h) (by rfl) hI ?_ ?_
    rotate_left
    · ((intro w hSw; (try dsimp only at hSw); go_simp); (try with_reducible rfl))
    try simp only [Act.put, List.setIfInBounds_toArray, List.set_cons_zero, List.set_cons_succ]
    refine wpAnyH_done (by kernel_rfl) ?_ _
    clear hI
    obtain ⟨d0, d1, d2, d3⟩ := HB2.out.b1.cells
    obtain ⟨e0, e1, e2⟩ := HR2.out.cells
    go_wp2_with fail
    refine (HMY.out _ HX2.out).mono ?_
    rintro e w3 ⟨rfl, hm3⟩
    have HB3 := Lib.hid (HB2.out.keep hm3)
    have HR3 := Lib.hid (HR2.out.keep hm3)
    have HX3 := Lib.hid (HX2.out.keep hm3)
    clear hm3 d0 d1 d2 d3 e0 e1 e2
    obtain ⟨d0, d1, d2, d3⟩ := HB3.out.b1.cells
    obtain ⟨e0, e1, e2⟩ := HR3.out.cells
    go_wp2_with fail
    refine (W2.out _).mono ?_
    rintro e w4 ⟨rfl, hm4⟩
    have HB4 := Lib.hid (HB3.out.keep hm4)
    have HR4 := Lib.hid (HR3.out.keep hm4)
    have HX4 := Lib.hid (HX3.out.keep hm4)
    clear hm4 d0 d1 d2 d3 e0 e1 e2
    obtain ⟨d0, d1, d2, d3⟩ := HB4.out.b1.cells
    obtain ⟨e0, e1, e2⟩ := HR4.out.cells
    clear d0 d1 d2 d3 e0 e1 e2
    have fz0 := (HB4.out).b2.frozen 0
    have fz1 := (HB4.out).b2.frozen 1
    have fz2 := (HB4.out).b2.frozen 2
    have fz3 := (HB4.out).b2.frozen 3
    obtain ⟨z0c, z1c, z2c, z3c⟩ := (HB4.out).b2.cells
    have herr := (HB4.out).err
    obtain ⟨wf, hwf⟩ : ∃ wf, stT w4 (w.heap.size + 2) z0 = wf := ⟨_, rfl⟩
    rw [hwf] at herr
    unfold stT at hwf
    have Herr := Lib.hid herr
    have hwf : ((((w4).setCell ⟨w.heap.size + 2, 0, none⟩ (.slice none 0 0)).setCell ⟨w.heap.size + 2, 1, none⟩ (.slice none 0 0)).setCell ⟨w.heap.size + 2, 2, none⟩ (.int .i64 0)).setCell ⟨w.heap.size + 2, 3, none⟩ (.int .i64 0) = wf := hwf
    clear herr
    go_wp2
    clear hwf fz0 fz1 fz2 fz3 z0c z1c z2c z3c
    have q0 : wf.cell? ⟨w.heap.size + 2, 0, none⟩ = some (.slice none 0 0) := Herr.out.1.cells.1
    have q1 : wf.cell? ⟨w.heap.size + 2, 1, none⟩ = some (.slice none 0 0) := Herr.out.1.cells.2.1
    have q2 : wf.cell? ⟨w.heap.size + 2, 2, none⟩ = some (.int .i64 0) := Herr.out.1.cells.2.2.1
    have q3 : wf.cell? ⟨w.heap.size + 2, 3, none⟩ = some (.int .i64 0) := Herr.out.1.cells.2.2.2
    refine bodyPost_ret (v := .tuple #[.agg #[.slice none 0 0, .slice none 0 0, .int .i64 0, .int .i64 0], .int .i64 1]) (by simp [results, Try.results30, go_sem, q0, q1, q2, q3]) rfl ?_
    exact ⟨z0, rfl, z0_at _, rfl, Herr.out.2⟩
  | true =>
  rw [hp] at W2 HE
  obtain ⟨hp0, hp1⟩ := inB_iff.1 hp
  clear hp
  obtain ⟨i, rfl⟩ : ∃ i : Nat, page = i := ⟨page.toNat, by omega⟩
  have hi : i < x.n := by omega
  have hiI : (i : Int) < (x.n : Int) := by omega
  have hi0 : (0 : Int) ≤ (i : Int) := by omega
  have hsn := Hmay.out.s1
  rw [Hsl.out] at hsn
  cases hE : eqT p emT with
  | true =>
    rw [hE] at heq HE
    have He1 : setE x.t i p = 0 := by rw [HE.out]; rfl
    have HT : Hid (setT x.t i p = ⟨x.t.pg.set i p, x.t.sg, x.t.sl, x.t.nw⟩) := by unfold setT; rw [if_pos hE]; exact Lib.hid rfl
    rw [He1]
    clear hE He1 HE
    go_enter Try.func30, Try.ntmps30
    go_wp2_with fail
    clear hw1 c0 c1 c2 c3
    refine wp_region_held (S := (fun W : World => (W.cell? ⟨w.heap.size, 0, none⟩ = some (.slice x.P x.n x.c) ∧ W.cell? ⟨w.heap.size, 1, none⟩ = some (.slice x.S x.m x.d) ∧ W.cell? ⟨w.heap.size, 2, none⟩ = some (.int .i64 x.t.sl) ∧ W.cell? ⟨w.heap.size, 3, none⟩ = some (.int .i64 x.t.nw)) ∧ (W.cell? ⟨w.heap.size + 1, 0, none⟩ = some (.int .i64 p.a) ∧ W.cell? ⟨w.heap.size + 1, 1, none⟩ = some (.int .i64 p.b) ∧ W.cell? ⟨w.heap.size + 1, 2, none⟩ = some (.int .i64 p.c)))) (by kernel_rfl) ?_
    have hI := (show (fun W : World => (W.cell? ⟨w.heap.size, 0, none⟩ = some (.slice x.P x.n x.c) ∧ W.cell? ⟨w.heap.size, 1, none⟩ = some (.slice x.S x.m x.d) ∧ W.cell? ⟨w.heap.size, 2, none⟩ = some (.int .i64 x.t.sl) ∧ W.cell? ⟨w.heap.size, 3, none⟩ = some (.int .i64 x.t.nw)) ∧ (W.cell? ⟨w.heap.size + 1, 0, none⟩ = some (.int .i64 p.a) ∧ W.cell? ⟨w.heap.size + 1, 1, none⟩ = some (.int .i64 p.b) ∧ W.cell? ⟨w.heap.size + 1, 2, none⟩ = some (.int .i64 p.c))) _ from ⟨(HB.out.keep M0.out).b1.cells, (HR.out.keep M0.out).cells⟩)
    refine rg_take (n := 3) (v := ?_) 0 (some 9) rfl rfl (by kernel_rfl) (by kernel_rfl) (by kernel_rfl) (fun _ _ _ h => h) (by rfl) hI ?_ ?_
    rotate_left
    · ((intro w hSw; (try dsimp only at hSw); go_simp); (try with_reducible rfl))
    try simp only [Act.put, List.setIfInBounds_toArray, List.set_cons_zero, List.set_cons_succ]
    refine rg_one (n := 2) 1 rfl (by kernel_rfl) (by rfl) ?_
    go_simp
    go_at_call 27
    refine (HEM.out _ M0.out).mono ?_
    rintro e w2 ⟨rfl, hm2⟩
    have HB2 := Lib.hid (HB.out.keep hm2)
    have HR2 := Lib.hid (HR.out.keep hm2)
    have HX2 := Lib.hid (HX.out.keep hm2)
    clear hm2
    clear hI
    have hI := (show (fun W : World => (W.cell? ⟨w.heap.size, 0, none⟩ = some (.slice x.P x.n x.c) ∧ W.cell? ⟨w.heap.size, 1, none⟩ = some (.slice x.S x.m x.d) ∧ W.cell? ⟨w.heap.size, 2, none⟩ = some (.int .i64 x.t.sl) ∧ W.cell? ⟨w.heap.size, 3, none⟩ = some (.int .i64 x.t.nw)) ∧ (W.cell? ⟨w.heap.size + 1, 0, none⟩ = some (.int .i64 p.a) ∧ W.cell? ⟨w.heap.size + 1, 1, none⟩ = some (.int .i64 p.b) ∧ W.cell? ⟨w.heap.size + 1, 2, none⟩ = some (.int .i64 p.c))) _ from ⟨HB2.out.b1.cells, HR2.out.cells⟩)
    refine ⟨hI, ?_⟩
    try simp only [Act.put, List.setIfInBounds_toArray, List.set_cons_zero, List.set_cons_succ]
    refine rg_take (n := 1) (v := ?_) 2 (some 11) rfl rfl (by kernel_rfl) (by kernel_rfl) (by kernel_rfl) (fun _ _ _ h => h) (by rfl) hI ?_ ?_
    rotate_left
    · ((intro w hSw; (try dsimp only at hSw); go_simp); (try with_reducible rfl))
    try simp only [Act.put, List.setIfInBounds_toArray, List.set_cons_zero, List.set_cons_succ]
    refine rg_take (n := 0) (v := ?_) 3 (some 8) rfl rfl (by kernel_rfl) (by kernel_rfl) (by kernel_rfl) (fun _ _ _ h => h) (by rfl) hI ?_ ?_
    rotate_left
    · ((intro w hSw; (try dsimp only at hSw); go_simp); (try with_reducible rfl))
    try simp only [Act.put, List.setIfInBounds_toArray, List.set_cons_zero, List.set_cons_succ]
    refine wpAnyH_done (by kernel_rfl) ?_ _
    clear hI
    obtain ⟨d0, d1, d2, d3⟩ := HB2.out.b1.cells
    obtain ⟨e0, e1, e2⟩ := HR2.out.cells
    go_wp2_with fail
    refine (HMY.out _ HX2.out).mono ?_
    rintro e w3 ⟨rfl, hm3⟩
    have HB3 := Lib.hid (HB2.out.keep hm3)
    have HR3 := Lib.hid (HR2.out.keep hm3)
    have HX3 := Lib.hid (HX2.out.keep hm3)
    clear hm3 d0 d1 d2 d3 e0 e1 e2
    obtain ⟨d0, d1, d2, d3⟩ := HB3.out.b1.cells
    obtain ⟨e0, e1, e2⟩ := HR3.out.cells
    go_wp2_with fail
    refine (W2.out _).mono ?_
    rintro e w4 ⟨rfl, hm4⟩
    have HB4 := Lib.hid (HB3.out.keep hm4)
    have HR4 := Lib.hid (HR3.out.keep hm4)
    have HX4 := Lib.hid (HX3.out.keep hm4)
    clear hm4 d0 d1 d2 d3 e0 e1 e2
    obtain ⟨d0, d1, d2, d3⟩ := HB4.out.b1.cells
    obtain ⟨e0, e1, e2⟩ := HR4.out.cells
    have HR6k := HR4
    go_wp2_with fail
    refine (Hcp.out _ HX4.out).mono ?_
    rintro e wc ⟨P, c, S, d, rfl, hown, hm6⟩
    have hb6 := HB4.out.keep hm6
    have hfr := Ft.start hb6 hown HB4.out.sz
    have f0 := hb6.b1.frozen 0
    have f1 := hb6.b1.frozen 1
    have f2 := hb6.b1.frozen 2
    have f3 := hb6.b1.frozen 3
    clear d0 d1 d2 d3
    obtain ⟨d0, d1, d2, d3⟩ := hb6.b1.cells
    obtain ⟨w7, hw7⟩ : ∃ w7, stT wc w.heap.size ⟨P, x.n, c, S, x.m, d, x.t⟩ = w7 := ⟨_, rfl⟩
    rw [hw7] at hfr
    unfold stT at hw7
    obtain ⟨gP, gS, hP, hS, hne, hbP, hbS, hlP, hlS⟩ := hfr.rows (by show 0 < x.n; omega) (by show 0 < x.m; omega)
    replace hP : P = some ⟨gP, 0, none⟩ := hP
    replace hS : S = some ⟨gS, 0, none⟩ := hS
    subst hP
    subst hS
    have hw7 : (((wc.setCell ⟨w.heap.size, 0, none⟩ (.slice (some ⟨gP, 0, none⟩) x.n c)).setCell ⟨w.heap.size, 1, none⟩ (.slice (some ⟨gS, 0, none⟩) x.m d)).setCell ⟨w.heap.size, 2, none⟩ (.int .i64 x.t.sl)).setCell ⟨w.heap.size, 3, none⟩ (.int .i64 x.t.nw) = w7 := hw7
    obtain ⟨r0, r1, r2, r3⟩ := hfr.bx.b1.cells
    have Hne := Lib.hid hne
    clear hne
    have hr7 : RBx w7 (w.heap.size + 1) 34 p := by
      have h1 := (HR6k.out.keep hm6).mod (stT_mod wc w.heap.size ⟨some ⟨gP, 0, none⟩, x.n, c, some ⟨gS, 0, none⟩, x.m, d, x.t⟩) (fun e => by omega)
      have h2 : stT wc w.heap.size ⟨some ⟨gP, 0, none⟩, x.n, c, some ⟨gS, 0, none⟩, x.m, d, x.t⟩ = w7 := hw7
      rw [h2] at h1
      exact h1
    clear e0 e1 e2
    obtain ⟨e0, e1, e2⟩ := hr7.cells
    have fP := fun j => (hfr.frozen (by show 0 < x.n; omega) (by show 0 < x.m; omega) rfl rfl j).1
    have fP0 := fP (i * 3)
    have fP1 := fP (i * 3 + 1)
    have fP2 := fP (i * 3 + 2)
    obtain ⟨p0, p1, p2⟩ := hfr.cellsP rfl (j := i) (by show i < x.n; omega)
    have hfp := hfr.setP rfl rfl Hne.out (by show i < x.n; omega) p
    have hr9 := hr7.mod (st3_mod w7 gP i p) (fun e => by omega)
    obtain ⟨w9, hw9⟩ : ∃ w9, st3 w7 gP i p = w9 := ⟨_, rfl⟩
    rw [hw9] at hfp hr9
    unfold st3 at hw9
    have HFP := Lib.hid hfp
    have HR9 := Lib.hid hr9
    clear hfr hfp hown hm6 hb6 fP hr7 hr9
    have fz0 := HFP.out.bx.b2.frozen 0
    have fz1 := HFP.out.bx.b2.frozen 1
    have fz2 := HFP.out.bx.b2.frozen 2
    have fz3 := HFP.out.bx.b2.frozen 3
    obtain ⟨z0c, z1c, z2c, z3c⟩ := HFP.out.bx.b2.cells
    obtain ⟨q0, q1, q2, q3⟩ := HFP.out.bx.b1.cells
    have hfin := HFP.out.fin
    obtain ⟨w12, hwf⟩ : ∃ w12, stT w9 (w.heap.size + 2) (⟨some ⟨gP, 0, none⟩, x.n, c, some ⟨gS, 0, none⟩, x.m, d, ⟨x.t.pg.set i p, x.t.sg, x.t.sl, x.t.nw⟩⟩ : TV) = w12 := ⟨_, rfl⟩
    rw [hwf] at hfin
    unfold stT at hwf
    have hwf : (((w9.setCell ⟨w.heap.size + 2, 0, none⟩ (.slice (some ⟨gP, 0, none⟩) x.n c)).setCell ⟨w.heap.size + 2, 1, none⟩ (.slice (some ⟨gS, 0, none⟩) x.m d)).setCell ⟨w.heap.size + 2, 2, none⟩ (.int .i64 x.t.sl)).setCell ⟨w.heap.size + 2, 3, none⟩ (.int .i64 x.t.nw) = w12 := hwf
    have Hfin := Lib.hid hfin
    clear hfin
    go_wp2
    clear hw7 hw9 d0 d1 d2 d3 p0 p1 p2 fP0 fP1 fP2 f0 f1 f2 f3 e0 e1 e2
    clear hwf fz0 fz1 fz2 fz3 z0c z1c z2c z3c r0 r1 r2 r3 q0 q1 q2 q3
    have q0 : w12.cell? ⟨w.heap.size + 2, 0, none⟩ = some (.slice (some ⟨gP, 0, none⟩) x.n c) := Hfin.out.2.1.cells.1
    have q1 : w12.cell? ⟨w.heap.size + 2, 1, none⟩ = some (.slice (some ⟨gS, 0, none⟩) x.m d) := Hfin.out.2.1.cells.2.1
    have q2 : w12.cell? ⟨w.heap.size + 2, 2, none⟩ = some (.int .i64 x.t.sl) := Hfin.out.2.1.cells.2.2.1
    have q3 : w12.cell? ⟨w.heap.size + 2, 3, none⟩ = some (.int .i64 x.t.nw) := Hfin.out.2.1.cells.2.2.2
    refine bodyPost_ret (v := .tuple #[.agg #[.slice (some ⟨gP, 0, none⟩) x.n c, .slice (some ⟨gS, 0, none⟩) x.m d, .int .i64 x.t.sl, .int .i64 x.t.nw], .int .i64 0]) (by simp [results, Try.results30, go_sem, q0, q1, q2, q3]) rfl ?_
    exact ⟨⟨some ⟨gP, 0, none⟩, x.n, c, some ⟨gS, 0, none⟩, x.m, d, ⟨x.t.pg.set i p, x.t.sg, x.t.sl, x.t.nw⟩⟩, rfl, Hfin.out.1, by rw [if_pos rfl, HT.out], Hfin.out.2.2⟩
  | false =>
  rw [hE] at heq HE
  cases hpl : plB x.t p with
  | false =>
    rw [hpl] at HPL HE
    have He1 : setE x.t i p = 1 := by rw [HE.out]; simp
    rw [He1]
    clear hE He1 HE hpl
    go_enter Try.func30, Try.ntmps30
    go_wp2_with fail
    clear hw1 c0 c1 c2 c3
    refine wp_region_held (S := (fun W : World => (W.cell? ⟨w.heap.size, 0, none⟩ = some (.slice x.P x.n x.c) ∧ W.cell? ⟨w.heap.size, 1, none⟩ = some (.slice x.S x.m x.d) ∧ W.cell? ⟨w.heap.size, 2, none⟩ = some (.int .i64 x.t.sl) ∧ W.cell? ⟨w.heap.size, 3, none⟩ = some (.int .i64 x.t.nw)) ∧ (W.cell? ⟨w.heap.size + 1, 0, none⟩ = some (.int .i64 p.a) ∧ W.cell? ⟨w.heap.size + 1, 1, none⟩ = some (.int .i64 p.b) ∧ W.cell? ⟨w.heap.size + 1, 2, none⟩ = some (.int .i64 p.c)))) (by kernel_rfl) ?_
    have hI := (show (fun W : World => (W.cell? ⟨w.heap.size, 0, none⟩ = some (.slice x.P x.n x.c) ∧ W.cell? ⟨w.heap.size, 1, none⟩ = some (.slice x.S x.m x.d) ∧ W.cell? ⟨w.heap.size, 2, none⟩ = some (.int .i64 x.t.sl) ∧ W.cell? ⟨w.heap.size, 3, none⟩ = some (.int .i64 x.t.nw)) ∧ (W.cell? ⟨w.heap.size + 1, 0, none⟩ = some (.int .i64 p.a) ∧ W.cell? ⟨w.heap.size + 1, 1, none⟩ = some (.int .i64 p.b) ∧ W.cell? ⟨w.heap.size + 1, 2, none⟩ = some (.int .i64 p.c))) _ from ⟨(HB.out.keep M0.out).b1.cells, (HR.out.keep M0.out).cells⟩)
    refine rg_take (n := 3) (v := ?_) 0 (some 9) rfl rfl (by kernel_rfl) (by kernel_rfl) (by kernel_rfl) (fun _ _ _ h => h) (by rfl) hI ?_ ?_
    rotate_left
    · ((intro w hSw; (try dsimp only at hSw); go_simp); (try with_reducible rfl))
    try simp only [Act.put, List.setIfInBounds_toArray, List.set_cons_zero, List.set_cons_succ]
    refine rg_one (n := 2) 1 rfl (by kernel_rfl) (by rfl) ?_
    go_simp
    go_at_call 27
    refine (HEM.out _ M0.out).mono ?_
    rintro e w2 ⟨rfl, hm2⟩
    have HB2 := Lib.hid (HB.out.keep hm2)
    have HR2 := Lib.hid (HR.out.keep hm2)
    have HX2 := Lib.hid (HX.out.keep hm2)
    clear hm2
    clear hI
    have hI := (show (fun W : World => (W.cell? ⟨w.heap.size, 0, none⟩ = some (.slice x.P x.n x.c) ∧ W.cell? ⟨w.heap.size, 1, none⟩ = some (.slice x.S x.m x.d) ∧ W.cell? ⟨w.heap.size, 2, none⟩ = some (.int .i64 x.t.sl) ∧ W.cell? ⟨w.heap.size, 3, none⟩ = some (.int .i64 x.t.nw)) ∧ (W.cell? ⟨w.heap.size + 1, 0, none⟩ = some (.int .i64 p.a) ∧ W.cell? ⟨w.heap.size + 1, 1, none⟩ = some (.int .i64 p.b) ∧ W.cell? ⟨w.heap.size + 1, 2, none⟩ = some (.int .i64 p.c))) _ from ⟨HB2.out.b1.cells, HR2.out.cells⟩)
    refine ⟨hI, ?_⟩
    try simp only [Act.put, List.setIfInBounds_toArray, List.set_cons_zero, List.set_cons_succ]
    refine rg_take (n := 1) (v := ?_) 2 (some 11) rfl rfl (by kernel_rfl) (by kernel_rfl) (by kernel_rfl) (fun _ _ _ h => h) (by rfl) hI ?_ ?_
    rotate_left
    · ((intro w hSw; (try dsimp only at hSw); go_simp); (try with_reducible rfl))
    try simp only [Act.put, List.setIfInBounds_toArray, List.set_cons_zero, List.set_cons_succ]
    refine rg_take (n := 0) (v := ?_) 3 (some 8) rfl rfl (by kernel_rfl) (by kernel_rfl) (by kernel_rfl) (fun _ _ _ h => h) (by rfl) hI ?_ ?_
    rotate_left
    · ((intro w hSw; (try dsimp only at hSw); go_simp); (try with_reducible rfl))
    try simp only [Act.put, List.setIfInBounds_toArray, List.set_cons_zero, List.set_cons_succ]
    refine wpAnyH_done (by kernel_rfl) ?_ _
    clear hI
    obtain ⟨d0, d1, d2, d3⟩ := HB2.out.b1.cells
    obtain ⟨e0, e1, e2⟩ := HR2.out.cells
    go_wp2_with fail
    refine (HMY.out _ HX2.out).mono ?_
    rintro e w3 ⟨rfl, hm3⟩
    have HB3 := Lib.hid (HB2.out.keep hm3)
    have HR3 := Lib.hid (HR2.out.keep hm3)
    have HX3 := Lib.hid (HX2.out.keep hm3)
    clear hm3 d0 d1 d2 d3 e0 e1 e2
    obtain ⟨d0, d1, d2, d3⟩ := HB3.out.b1.cells
    obtain ⟨e0, e1, e2⟩ := HR3.out.cells
    go_wp2_with fail
    refine (W2.out _).mono ?_
    rintro e w4 ⟨rfl, hm4⟩
    have HB4 := Lib.hid (HB3.out.keep hm4)
    have HR4 := Lib.hid (HR3.out.keep hm4)
    have HX4 := Lib.hid (HX3.out.keep hm4)
    clear hm4 d0 d1 d2 d3 e0 e1 e2
    obtain ⟨d0, d1, d2, d3⟩ := HB4.out.b1.cells
    obtain ⟨e0, e1, e2⟩ := HR4.out.cells
    go_wp2_with fail
    refine (HPL.out _).mono ?_
    rintro e w5 ⟨rfl, hm5⟩
    have HB5 := Lib.hid (HB4.out.keep hm5)
    have HR5 := Lib.hid (HR4.out.keep hm5)
    have HX5 := Lib.hid (HX4.out.keep hm5)
    clear hm5 d0 d1 d2 d3 e0 e1 e2
    obtain ⟨d0, d1, d2, d3⟩ := HB5.out.b1.cells
    obtain ⟨e0, e1, e2⟩ := HR5.out.cells
    clear d0 d1 d2 d3 e0 e1 e2
    have fz0 := (HB5.out).b2.frozen 0
    have fz1 := (HB5.out).b2.frozen 1
    have fz2 := (HB5.out).b2.frozen 2
    have fz3 := (HB5.out).b2.frozen 3
    obtain ⟨z0c, z1c, z2c, z3c⟩ := (HB5.out).b2.cells
    have herr := (HB5.out).err
    obtain ⟨wf, hwf⟩ : ∃ wf, stT w5 (w.heap.size + 2) z0 = wf := ⟨_, rfl⟩
    rw [hwf] at herr
    unfold stT at hwf
    have Herr := Lib.hid herr
    have hwf : ((((w5).setCell ⟨w.heap.size + 2, 0, none⟩ (.slice none 0 0)).setCell ⟨w.heap.size + 2, 1, none⟩ (.slice none 0 0)).setCell ⟨w.heap.size + 2, 2, none⟩ (.int .i64 0)).setCell ⟨w.heap.size + 2, 3, none⟩ (.int .i64 0) = wf := hwf
    clear herr
    go_wp2
    clear hwf fz0 fz1 fz2 fz3 z0c z1c z2c z3c
    have q0 : wf.cell? ⟨w.heap.size + 2, 0, none⟩ = some (.slice none 0 0) := Herr.out.1.cells.1
    have q1 : wf.cell? ⟨w.heap.size + 2, 1, none⟩ = some (.slice none 0 0) := Herr.out.1.cells.2.1
    have q2 : wf.cell? ⟨w.heap.size + 2, 2, none⟩ = some (.int .i64 0) := Herr.out.1.cells.2.2.1
    have q3 : wf.cell? ⟨w.heap.size + 2, 3, none⟩ = some (.int .i64 0) := Herr.out.1.cells.2.2.2
    refine bodyPost_ret (v := .tuple #[.agg #[.slice none 0 0, .slice none 0 0, .int .i64 0, .int .i64 0], .int .i64 1]) (by simp [results, Try.results30, go_sem, q0, q1, q2, q3]) rfl ?_
    exact ⟨z0, rfl, z0_at _, rfl, Herr.out.2⟩
  | true =>
  rw [hpl] at HPL HE
  obtain ⟨q1, q2, _, _, _, _⟩ := plB_iff.1 hpl
  rw [Hsl.out] at q2
  have hpj : ((p.a.toNat : Nat) : Int) = p.a := by omega
  cases htk : takB x.t.pg i p with
  | true =>
    rw [htk] at HTK HE
    have He1 : setE x.t i p = 5 := by rw [HE.out]; rfl
    rw [He1]
    clear hE He1 HE hpl htk
    go_enter Try.func30, Try.ntmps30
    go_wp2_with fail
    clear hw1 c0 c1 c2 c3
    refine wp_region_held (S := (fun W : World => (W.cell? ⟨w.heap.size, 0, none⟩ = some (.slice x.P x.n x.c) ∧ W.cell? ⟨w.heap.size, 1, none⟩ = some (.slice x.S x.m x.d) ∧ W.cell? ⟨w.heap.size, 2, none⟩ = some (.int .i64 x.t.sl) ∧ W.cell? ⟨w.heap.size, 3, none⟩ = some (.int .i64 x.t.nw)) ∧ (W.cell? ⟨w.heap.size + 1, 0, none⟩ = some (.int .i64 p.a) ∧ W.cell? ⟨w.heap.size + 1, 1, none⟩ = some (.int .i64 p.b) ∧ W.cell? ⟨w.heap.size + 1, 2, none⟩ = some (.int .i64 p.c)))) (by kernel_rfl) ?_
    have hI := (show (fun W : World => (W.cell? ⟨w.heap.size, 0, none⟩ = some (.slice x.P x.n x.c) ∧ W.cell? ⟨w.heap.size, 1, none⟩ = some (.slice x.S x.m x.d) ∧ W.cell? ⟨w.heap.size, 2, none⟩ = some (.int .i64 x.t.sl) ∧ W.cell? ⟨w.heap.size, 3, none⟩ = some (.int .i64 x.t.nw)) ∧ (W.cell? ⟨w.heap.size + 1, 0, none⟩ = some (.int .i64 p.a) ∧ W.cell? ⟨w.heap.size + 1, 1, none⟩ = some (.int .i64 p.b) ∧ W.cell? ⟨w.heap.size + 1, 2, none⟩ = some (.int .i64 p.c))) _ from ⟨(HB.out.keep M0.out).b1.cells, (HR.out.keep M0.out).cells⟩)
    refine rg_take (n := 3) (v := ?_) 0 (some 9) rfl rfl (by kernel_rfl) (by kernel_rfl) (by kernel_rfl) (fun _ _ _ h => h) (by rfl) hI ?_ ?_
    rotate_left
    · ((intro w hSw; (try dsimp only at hSw); go_simp); (try with_reducible rfl))
    try simp only [Act.put, List.setIfInBounds_toArray, List.set_cons_zero, List.set_cons_succ]
    refine rg_one (n := 2) 1 rfl (by kernel_rfl) (by rfl) ?_
    go_simp
    go_at_call 27
    refine (HEM.out _ M0.out).mono ?_
    rintro e w2 ⟨rfl, hm2⟩
    have HB2 := Lib.hid (HB.out.keep hm2)
    have HR2 := Lib.hid (HR.out.keep hm2)
    have HX2 := Lib.hid (HX.out.keep hm2)
    clear hm2
    clear hI
    have hI := (show (fun W : World => (W.cell? ⟨w.heap.size, 0, none⟩ = some (.slice x.P x.n x.c) ∧ W.cell? ⟨w.heap.size, 1, none⟩ = some (.slice x.S x.m x.d) ∧ W.cell? ⟨w.heap.size, 2, none⟩ = some (.int .i64 x.t.sl) ∧ W.cell? ⟨w.heap.size, 3, none⟩ = some (.int .i64 x.t.nw)) ∧ (W.cell? ⟨w.heap.size + 1, 0, none⟩ = some (.int .i64 p.a) ∧ W.cell? ⟨w.heap.size + 1, 1, none⟩ = some (.int .i64 p.b) ∧ W.cell? ⟨w.heap.size + 1, 2, none⟩ = some (.int .i64 p.c))) _ from ⟨HB2.out.b1.cells, HR2.out.cells⟩)
    refine ⟨hI, ?_⟩
    try simp only [Act.put, List.setIfInBounds_toArray, List.set_cons_zero, List.set_cons_succ]
    refine rg_take (n := 1) (v := ?_) 2 (some 11) rfl rfl (by kernel_rfl) (by kernel_rfl) (by kernel_rfl) (fun _ _ _ h => h) (by rfl) hI ?_ ?_
    rotate_left
    · ((intro w hSw; (try dsimp only at hSw); go_simp); (try with_reducible rfl))
    try simp only [Act.put, List.setIfInBounds_toArray, List.set_cons_zero, List.set_cons_succ]
    refine rg_take (n := 0) (v := ?_) 3 (some 8) rfl rfl (by kernel_rfl) (by kernel_rfl) (by kernel_rfl) (fun _ _ _ h => h) (by rfl) hI ?_ ?_
    rotate_left
    · ((intro w hSw; (try dsimp only at hSw); go_simp); (try with_reducible rfl))
    try simp only [Act.put, List.setIfInBounds_toArray, List.set_cons_zero, List.set_cons_succ]
    refine wpAnyH_done (by kernel_rfl) ?_ _
    clear hI
    obtain ⟨d0, d1, d2, d3⟩ := HB2.out.b1.cells
    obtain ⟨e0, e1, e2⟩ := HR2.out.cells
    go_wp2_with fail
    refine (HMY.out _ HX2.out).mono ?_
    rintro e w3 ⟨rfl, hm3⟩
    have HB3 := Lib.hid (HB2.out.keep hm3)
    have HR3 := Lib.hid (HR2.out.keep hm3)
    have HX3 := Lib.hid (HX2.out.keep hm3)
    clear hm3 d0 d1 d2 d3 e0 e1 e2
    obtain ⟨d0, d1, d2, d3⟩ := HB3.out.b1.cells
    obtain ⟨e0, e1, e2⟩ := HR3.out.cells
    go_wp2_with fail
    refine (W2.out _).mono ?_
    rintro e w4 ⟨rfl, hm4⟩
    have HB4 := Lib.hid (HB3.out.keep hm4)
    have HR4 := Lib.hid (HR3.out.keep hm4)
    have HX4 := Lib.hid (HX3.out.keep hm4)
    clear hm4 d0 d1 d2 d3 e0 e1 e2
    obtain ⟨d0, d1, d2, d3⟩ := HB4.out.b1.cells
    obtain ⟨e0, e1, e2⟩ := HR4.out.cells
    go_wp2_with fail
    refine (HPL.out _).mono ?_
    rintro e w5 ⟨rfl, hm5⟩
    have HB5 := Lib.hid (HB4.out.keep hm5)
    have HR5 := Lib.hid (HR4.out.keep hm5)
    have HX5 := Lib.hid (HX4.out.keep hm5)
    clear hm5 d0 d1 d2 d3 e0 e1 e2
    obtain ⟨d0, d1, d2, d3⟩ := HB5.out.b1.cells
    obtain ⟨e0, e1, e2⟩ := HR5.out.cells
    go_wp2_with fail
    refine (HTK.out _ HX5.out).mono ?_
    rintro e w6 ⟨rfl, hm6⟩
    have HB6 := Lib.hid (HB5.out.keep hm6)
    have HR6 := Lib.hid (HR5.out.keep hm6)
    have HX6 := Lib.hid (HX5.out.keep hm6)
    clear hm6 d0 d1 d2 d3 e0 e1 e2
    obtain ⟨d0, d1, d2, d3⟩ := HB6.out.b1.cells
    obtain ⟨e0, e1, e2⟩ := HR6.out.cells
    clear d0 d1 d2 d3 e0 e1 e2
    have fz0 := (HB6.out).b2.frozen 0
    have fz1 := (HB6.out).b2.frozen 1
    have fz2 := (HB6.out).b2.frozen 2
    have fz3 := (HB6.out).b2.frozen 3
    obtain ⟨z0c, z1c, z2c, z3c⟩ := (HB6.out).b2.cells
    have herr := (HB6.out).err
    obtain ⟨wf, hwf⟩ : ∃ wf, stT w6 (w.heap.size + 2) z0 = wf := ⟨_, rfl⟩
    rw [hwf] at herr
    unfold stT at hwf
    have Herr := Lib.hid herr
    have hwf : ((((w6).setCell ⟨w.heap.size + 2, 0, none⟩ (.slice none 0 0)).setCell ⟨w.heap.size + 2, 1, none⟩ (.slice none 0 0)).setCell ⟨w.heap.size + 2, 2, none⟩ (.int .i64 0)).setCell ⟨w.heap.size + 2, 3, none⟩ (.int .i64 0) = wf := hwf
    clear herr
    go_wp2
    clear hwf fz0 fz1 fz2 fz3 z0c z1c z2c z3c
    have q0 : wf.cell? ⟨w.heap.size + 2, 0, none⟩ = some (.slice none 0 0) := Herr.out.1.cells.1
    have q1 : wf.cell? ⟨w.heap.size + 2, 1, none⟩ = some (.slice none 0 0) := Herr.out.1.cells.2.1
    have q2 : wf.cell? ⟨w.heap.size + 2, 2, none⟩ = some (.int .i64 0) := Herr.out.1.cells.2.2.1
    have q3 : wf.cell? ⟨w.heap.size + 2, 3, none⟩ = some (.int .i64 0) := Herr.out.1.cells.2.2.2
    refine bodyPost_ret (v := .tuple #[.agg #[.slice none 0 0, .slice none 0 0, .int .i64 0, .int .i64 0], .int .i64 5]) (by simp [results, Try.results30, go_sem, q0, q1, q2, q3]) rfl ?_
    exact ⟨z0, rfl, z0_at _, rfl, Herr.out.2⟩
  | false =>
    rw [htk] at HTK HE
    have He1 : setE x.t i p = 0 := by rw [HE.out]; rfl
    have HT : Hid (setT x.t i p = ⟨x.t.pg.set i p, x.t.sg.set p.a.toNat (fillT x.t.sl x.t.sl (ageT x.t p.a.toNat)), x.t.sl, x.t.nw⟩) := by unfold setT; rw [if_neg (by rw [hE]; simp)]; exact Lib.hid rfl
    rw [He1]
    clear hE He1 HE hpl htk
    go_enter Try.func30, Try.ntmps30
    go_wp2_with fail
    clear hw1 c0 c1 c2 c3
    refine wp_region_held (S := (fun W : World => (W.cell? ⟨w.heap.size, 0, none⟩ = some (.slice x.P x.n x.c) ∧ W.cell? ⟨w.heap.size, 1, none⟩ = some (.slice x.S x.m x.d) ∧ W.cell? ⟨w.heap.size, 2, none⟩ = some (.int .i64 x.t.sl) ∧ W.cell? ⟨w.heap.size, 3, none⟩ = some (.int .i64 x.t.nw)) ∧ (W.cell? ⟨w.heap.size + 1, 0, none⟩ = some (.int .i64 p.a) ∧ W.cell? ⟨w.heap.size + 1, 1, none⟩ = some (.int .i64 p.b) ∧ W.cell? ⟨w.heap.size + 1, 2, none⟩ = some (.int .i64 p.c)))) (by kernel_rfl) ?_
    have hI := (show (fun W : World => (W.cell? ⟨w.heap.size, 0, none⟩ = some (.slice x.P x.n x.c) ∧ W.cell? ⟨w.heap.size, 1, none⟩ = some (.slice x.S x.m x.d) ∧ W.cell? ⟨w.heap.size, 2, none⟩ = some (.int .i64 x.t.sl) ∧ W.cell? ⟨w.heap.size, 3, none⟩ = some (.int .i64 x.t.nw)) ∧ (W.cell? ⟨w.heap.size + 1, 0, none⟩ = some (.int .i64 p.a) ∧ W.cell? ⟨w.heap.size + 1, 1, none⟩ = some (.int .i64 p.b) ∧ W.cell? ⟨w.heap.size + 1, 2, none⟩ = some (.int .i64 p.c))) _ from ⟨(HB.out.keep M0.out).b1.cells, (HR.out.keep M0.out).cells⟩)
    refine rg_take (n := 3) (v := ?_) 0 (some 9) rfl rfl (by kernel_rfl) (by kernel_rfl) (by kernel_rfl) (fun _ _ _ h => h) (by rfl) hI ?_ ?_
    rotate_left
    · ((intro w hSw; (try dsimp only at hSw); go_simp); (try with_reducible rfl))
    try simp only [Act.put, List.setIfInBounds_toArray, List.set_cons_zero, List.set_cons_succ]
    refine rg_one (n := 2) 1 rfl (by kernel_rfl) (by rfl) ?_
    go_simp
    go_at_call 27
    refine (HEM.out _ M0.out).mono ?_
    rintro e w2 ⟨rfl, hm2⟩
    have HB2 := Lib.hid (HB.out.keep hm2)
    have HR2 := Lib.hid (HR.out.keep hm2)
    have HX2 := Lib.hid (HX.out.keep hm2)
    clear hm2
    clear hI
    have hI := (show (fun W : World => (W.cell? ⟨w.heap.size, 0, none⟩ = some (.slice x.P x.n x.c) ∧ W.cell? ⟨w.heap.size, 1, none⟩ = some (.slice x.S x.m x.d) ∧ W.cell? ⟨w.heap.size, 2, none⟩ = some (.int .i64 x.t.sl) ∧ W.cell? ⟨w.heap.size, 3, none⟩ = some (.int .i64 x.t.nw)) ∧ (W.cell? ⟨w.heap.size + 1, 0, none⟩ = some (.int .i64 p.a) ∧ W.cell? ⟨w.heap.size + 1, 1, none⟩ = some (.int .i64 p.b) ∧ W.cell? ⟨w.heap.size + 1, 2, none⟩ = some (.int .i64 p.c))) _ from ⟨HB2.out.b1.cells, HR2.out.cells⟩)
    refine ⟨hI, ?_⟩
    try simp only [Act.put, List.setIfInBounds_toArray, List.set_cons_zero, List.set_cons_succ]
    refine rg_take (n := 1) (v := ?_) 2 (some 11) rfl rfl (by kernel_rfl) (by kernel_rfl) (by kernel_rfl) (fun _ _ _ h => h) (by rfl) hI ?_ ?_
    rotate_left
    · ((intro w hSw; (try dsimp only at hSw); go_simp); (try with_reducible rfl))
    try simp only [Act.put, List.setIfInBounds_toArray, List.set_cons_zero, List.set_cons_succ]
    refine rg_take (n := 0) (v := ?_) 3 (some 8) rfl rfl (by kernel_rfl) (by kernel_rfl) (by kernel_rfl) (fun _ _ _ h => h) (by rfl) hI ?_ ?_
    rotate_left
    · ((intro w hSw; (try dsimp only at hSw); go_simp); (try with_reducible rfl))
    try simp only [Act.put, List.setIfInBounds_toArray, List.set_cons_zero, List.set_cons_succ]
    refine wpAnyH_done (by kernel_rfl) ?_ _
    clear hI
    obtain ⟨d0, d1, d2, d3⟩ := HB2.out.b1.cells
    obtain ⟨e0, e1, e2⟩ := HR2.out.cells
    go_wp2_with fail
    refine (HMY.out _ HX2.out).mono ?_
    rintro e w3 ⟨rfl, hm3⟩
    have HB3 := Lib.hid (HB2.out.keep hm3)
    have HR3 := Lib.hid (HR2.out.keep hm3)
    have HX3 := Lib.hid (HX2.out.keep hm3)
    clear hm3 d0 d1 d2 d3 e0 e1 e2
    obtain ⟨d0, d1, d2, d3⟩ := HB3.out.b1.cells
    obtain ⟨e0, e1, e2⟩ := HR3.out.cells
    go_wp2_with fail
    refine (W2.out _).mono ?_
    rintro e w4 ⟨rfl, hm4⟩
    have HB4 := Lib.hid (HB3.out.keep hm4)
    have HR4 := Lib.hid (HR3.out.keep hm4)
    have HX4 := Lib.hid (HX3.out.keep hm4)
    clear hm4 d0 d1 d2 d3 e0 e1 e2
    obtain ⟨d0, d1, d2, d3⟩ := HB4.out.b1.cells
    obtain ⟨e0, e1, e2⟩ := HR4.out.cells
    go_wp2_with fail
    refine (HPL.out _).mono ?_
    rintro e w5 ⟨rfl, hm5⟩
    have HB5 := Lib.hid (HB4.out.keep hm5)
    have HR5 := Lib.hid (HR4.out.keep hm5)
    have HX5 := Lib.hid (HX4.out.keep hm5)
    clear hm5 d0 d1 d2 d3 e0 e1 e2
    obtain ⟨d0, d1, d2, d3⟩ := HB5.out.b1.cells
    obtain ⟨e0, e1, e2⟩ := HR5.out.cells
    go_wp2_with fail
    refine (HTK.out _ HX5.out).mono ?_
    rintro e w6 ⟨rfl, hm6⟩
    have HB6 := Lib.hid (HB5.out.keep hm6)
    have HR6 := Lib.hid (HR5.out.keep hm6)
    have HX6 := Lib.hid (HX5.out.keep hm6)
    clear hm6 d0 d1 d2 d3 e0 e1 e2
    obtain ⟨d0, d1, d2, d3⟩ := HB6.out.b1.cells
    obtain ⟨e0, e1, e2⟩ := HR6.out.cells
    have HR6k := HR6
    go_wp2_with fail
    refine (Hcp.out _ HX6.out).mono ?_
    rintro e wc ⟨P, c, S, d, rfl, hown, hm6⟩
    have hb6 := HB6.out.keep hm6
    have hfr := Ft.start hb6 hown HB6.out.sz
    have f0 := hb6.b1.frozen 0
    have f1 := hb6.b1.frozen 1
    have f2 := hb6.b1.frozen 2
    have f3 := hb6.b1.frozen 3
    clear d0 d1 d2 d3
    obtain ⟨d0, d1, d2, d3⟩ := hb6.b1.cells
    obtain ⟨w7, hw7⟩ : ∃ w7, stT wc w.heap.size ⟨P, x.n, c, S, x.m, d, x.t⟩ = w7 := ⟨_, rfl⟩
    rw [hw7] at hfr
    unfold stT at hw7
    obtain ⟨gP, gS, hP, hS, hne, hbP, hbS, hlP, hlS⟩ := hfr.rows (by show 0 < x.n; omega) (by show 0 < x.m; omega)
    replace hP : P = some ⟨gP, 0, none⟩ := hP
    replace hS : S = some ⟨gS, 0, none⟩ := hS
    subst hP
    subst hS
    have hw7 : (((wc.setCell ⟨w.heap.size, 0, none⟩ (.slice (some ⟨gP, 0, none⟩) x.n c)).setCell ⟨w.heap.size, 1, none⟩ (.slice (some ⟨gS, 0, none⟩) x.m d)).setCell ⟨w.heap.size, 2, none⟩ (.int .i64 x.t.sl)).setCell ⟨w.heap.size, 3, none⟩ (.int .i64 x.t.nw) = w7 := hw7
    obtain ⟨r0, r1, r2, r3⟩ := hfr.bx.b1.cells
    have Hne := Lib.hid hne
    clear hne
    have hr7 : RBx w7 (w.heap.size + 1) 34 p := by
      have h1 := (HR6k.out.keep hm6).mod (stT_mod wc w.heap.size ⟨some ⟨gP, 0, none⟩, x.n, c, some ⟨gS, 0, none⟩, x.m, d, x.t⟩) (fun e => by omega)
      have h2 : stT wc w.heap.size ⟨some ⟨gP, 0, none⟩, x.n, c, some ⟨gS, 0, none⟩, x.m, d, x.t⟩ = w7 := hw7
      rw [h2] at h1
      exact h1
    clear e0 e1 e2
    obtain ⟨e0, e1, e2⟩ := hr7.cells
    have fP := fun j => (hfr.frozen (by show 0 < x.n; omega) (by show 0 < x.m; omega) rfl rfl j).1
    have fP0 := fP (i * 3)
    have fP1 := fP (i * 3 + 1)
    have fP2 := fP (i * 3 + 2)
    obtain ⟨p0, p1, p2⟩ := hfr.cellsP rfl (j := i) (by show i < x.n; omega)
    have hfp := hfr.setP rfl rfl Hne.out (by show i < x.n; omega) p
    have hr9 := hr7.mod (st3_mod w7 gP i p) (fun e => by omega)
    obtain ⟨w9, hw9⟩ : ∃ w9, st3 w7 gP i p = w9 := ⟨_, rfl⟩
    rw [hw9] at hfp hr9
    unfold st3 at hw9
    have HFP := Lib.hid hfp
    have HR9 := Lib.hid hr9
    clear hfr hfp hown hm6 hb6 fP hr7 hr9
    go_wp2_with fail
    clear hw7 hw9 d0 d1 d2 d3 p0 p1 p2 fP0 fP1 fP2 f0 f1 f2 f3 e0 e1 e2 r0 r1 r2 r3
    have M9 : Hid (Mod (fun _ => False) w9 w9.drew) := (Mod.refl _ w9).drew
    have HAG : Hid (∀ W, Mod (fun _ => False) w9 W → Calls Try.prog 53 #[.agg #[.slice (some ⟨gP, 0, none⟩) x.n c, .slice (some ⟨gS, 0, none⟩) x.m d, .int .i64 x.t.sl, .int .i64 x.t.nw], .int .i64 p.a] W fun e w' => e = .returned (.int .i64 (ageT x.t p.a.toNat)) ∧ Mod (fun _ => False) w9 w') := fun W hW => by
      have h1 := ageOf_ok W (⟨some ⟨gP, 0, none⟩, x.n, c, some ⟨gS, 0, none⟩, x.m, d, ⟨x.t.pg.set i p, x.t.sg, x.t.sl, x.t.nw⟩⟩ : TV) (HFP.out.own.at_.keep hW) hm p.a.toNat (by show p.a.toNat < x.m; omega)
      rw [hpj] at h1
      exact h1.mono (fun e w' h => ⟨h.1, hW.trans h.2 (fun _ _ h => h)⟩)
    refine wp_region_held (S := (fun W : World => (W.cell? ⟨w.heap.size, 0, none⟩ = some (.slice (some ⟨gP, 0, none⟩) x.n c) ∧ W.cell? ⟨w.heap.size, 1, none⟩ = some (.slice (some ⟨gS, 0, none⟩) x.m d) ∧ W.cell? ⟨w.heap.size, 2, none⟩ = some (.int .i64 x.t.sl) ∧ W.cell? ⟨w.heap.size, 3, none⟩ = some (.int .i64 x.t.nw)) ∧ (W.cell? ⟨w.heap.size + 1, 0, none⟩ = some (.int .i64 p.a) ∧ W.cell? ⟨w.heap.size + 1, 1, none⟩ = some (.int .i64 p.b) ∧ W.cell? ⟨w.heap.size + 1, 2, none⟩ = some (.int .i64 p.c)))) (by kernel_rfl) ?_
    have hI := (show (fun W : World => (W.cell? ⟨w.heap.size, 0, none⟩ = some (.slice (some ⟨gP, 0, none⟩) x.n c) ∧ W.cell? ⟨w.heap.size, 1, none⟩ = some (.slice (some ⟨gS, 0, none⟩) x.m d) ∧ W.cell? ⟨w.heap.size, 2, none⟩ = some (.int .i64 x.t.sl) ∧ W.cell? ⟨w.heap.size, 3, none⟩ = some (.int .i64 x.t.nw)) ∧ (W.cell? ⟨w.heap.size + 1, 0, none⟩ = some (.int .i64 p.a) ∧ W.cell? ⟨w.heap.size + 1, 1, none⟩ = some (.int .i64 p.b) ∧ W.cell? ⟨w.heap.size + 1, 2, none⟩ = some (.int .i64 p.c))) _ from ⟨(HFP.out.keep M9.out).bx.b1.cells, (HR9.out.keep M9.out).cells⟩)
    refine rg_take (n := 13) (v := ?_) 0 (some 47) rfl rfl (by kernel_rfl) (by kernel_rfl) (by kernel_rfl) (fun _ _ _ h => h) (by rfl) hI ?_ ?_
    rotate_left
    · ((intro w hSw; (try dsimp only at hSw); go_simp); (try with_reducible rfl))
    try simp only [Act.put, List.setIfInBounds_toArray, List.set_cons_zero, List.set_cons_succ]
    refine rg_take (n := 12) (v := ?_) 1 (some 48) rfl rfl (by kernel_rfl) (by kernel_rfl) (by kernel_rfl) (fun _ _ _ h => h) (by rfl) hI ?_ ?_
    rotate_left
    · ((intro w hSw; (try dsimp only at hSw); go_simp); (try with_reducible rfl))
    try simp only [Act.put, List.setIfInBounds_toArray, List.set_cons_zero, List.set_cons_succ]
    refine rg_take (n := 11) (v := ?_) 2 (some 49) rfl rfl (by kernel_rfl) (by kernel_rfl) (by kernel_rfl) (fun _ _ _ h => h) (by rfl) hI ?_ ?_
    rotate_left
    · ((intro w hSw; (try dsimp only at hSw); go_simp); (try with_reducible rfl))
    try simp only [Act.put, List.setIfInBounds_toArray, List.set_cons_zero, List.set_cons_succ]
    refine rg_take (n := 10) (v := ?_) 3 (some 50) rfl rfl (by kernel_rfl) (by kernel_rfl) (by kernel_rfl) (fun _ _ _ h => h) (by rfl) hI ?_ ?_
    rotate_left
    · ((intro w hSw; (try dsimp only at hSw); go_simp); (try with_reducible rfl))
    try simp only [Act.put, List.setIfInBounds_toArray, List.set_cons_zero, List.set_cons_succ]
    refine rg_take (n := 9) (v := ?_) 4 (some 51) rfl rfl (by kernel_rfl) (by kernel_rfl) (by kernel_rfl) (fun _ _ _ h => h) (by rfl) hI ?_ ?_
    rotate_left
    · ((intro w hSw; (try dsimp only at hSw); go_simp); (try with_reducible rfl))
    try simp only [Act.put, List.setIfInBounds_toArray, List.set_cons_zero, List.set_cons_succ]
    refine rg_take (n := 8) (v := ?_) 5 (some 52) rfl rfl (by kernel_rfl) (by kernel_rfl) (by kernel_rfl) (fun _ _ _ h => h) (by rfl) hI ?_ ?_
    rotate_left
    · ((intro w hSw; (try dsimp only at hSw); go_simp); (try with_reducible rfl))
    try simp only [Act.put, List.setIfInBounds_toArray, List.set_cons_zero, List.set_cons_succ]
    refine rg_take (n := 7) (v := ?_) 6 (some 53) rfl rfl (by kernel_rfl) (by kernel_rfl) (by kernel_rfl) (fun _ _ _ h => h) (by rfl) hI ?_ ?_
    rotate_left
    · ((intro w hSw; (try dsimp only at hSw); go_simp); (try with_reducible rfl))
    try simp only [Act.put, List.setIfInBounds_toArray, List.set_cons_zero, List.set_cons_succ]
    refine rg_take (n := 6) (v := ?_) 7 (some 54) rfl rfl (by kernel_rfl) (by kernel_rfl) (by kernel_rfl) (fun _ _ _ h => h) (by rfl) hI ?_ ?_
    rotate_left
    · ((intro w hSw; (try dsimp only at hSw); go_simp); (try with_reducible rfl))
    try simp only [Act.put, List.setIfInBounds_toArray, List.set_cons_zero, List.set_cons_succ]
    refine rg_take (n := 5) (v := ?_) 8 (some 55) rfl rfl (by kernel_rfl) (by kernel_rfl) (by kernel_rfl) (fun _ _ _ h => h) (by rfl) hI ?_ ?_
    rotate_left
    · ((intro w hSw; (try dsimp only at hSw); go_simp); (try with_reducible rfl))
    try simp only [Act.put, List.setIfInBounds_toArray, List.set_cons_zero, List.set_cons_succ]
    refine rg_take (n := 4) (v := ?_) 9 (some 56) rfl rfl (by kernel_rfl) (by kernel_rfl) (by kernel_rfl) (fun _ _ _ h => h) (by rfl) hI ?_ ?_
    rotate_left
    · ((intro w hSw; (try dsimp only at hSw); go_simp); (try with_reducible rfl))
    try simp only [Act.put, List.setIfInBounds_toArray, List.set_cons_zero, List.set_cons_succ]
    refine rg_one (n := 3) 10 rfl (by kernel_rfl) (by rfl) ?_
    go_simp
    go_at_call 53
    refine (HAG.out _ M9.out).mono ?_
    rintro e wa ⟨rfl, hma⟩
    have Hma := Lib.hid hma
    have Hfa := Lib.hid (HFP.out.keep hma)
    have Hra := Lib.hid (HR9.out.keep hma)
    clear hma
    clear hI
    have hI := (show (fun W : World => (W.cell? ⟨w.heap.size, 0, none⟩ = some (.slice (some ⟨gP, 0, none⟩) x.n c) ∧ W.cell? ⟨w.heap.size, 1, none⟩ = some (.slice (some ⟨gS, 0, none⟩) x.m d) ∧ W.cell? ⟨w.heap.size, 2, none⟩ = some (.int .i64 x.t.sl) ∧ W.cell? ⟨w.heap.size, 3, none⟩ = some (.int .i64 x.t.nw)) ∧ (W.cell? ⟨w.heap.size + 1, 0, none⟩ = some (.int .i64 p.a) ∧ W.cell? ⟨w.heap.size + 1, 1, none⟩ = some (.int .i64 p.b) ∧ W.cell? ⟨w.heap.size + 1, 2, none⟩ = some (.int .i64 p.c))) _ from ⟨Hfa.out.bx.b1.cells, Hra.out.cells⟩)
    refine ⟨hI, ?_⟩
    refine rg_one (n := 2) 11 rfl (by kernel_rfl) (by rfl) ?_
    go_simp
    go_at_call 47
    refine (filled_ok _ (⟨some ⟨gP, 0, none⟩, x.n, c, some ⟨gS, 0, none⟩, x.m, d, ⟨x.t.pg.set i p, x.t.sg, x.t.sl, x.t.nw⟩⟩ : TV) x.t.sl (ageT x.t p.a.toNat)).mono ?_
    rintro e w10 ⟨rfl, hm10⟩
    have hf10 := Hfa.out.keep hm10
    have hr10 := Hra.out.keep hm10
    have hf11 := hf10.setS rfl rfl Hne.out (by show p.a.toNat < x.m; omega) (fillT x.t.sl x.t.sl (ageT x.t p.a.toNat))
    have hr11 := hr10.mod (st3_mod w10 gS p.a.toNat (fillT x.t.sl x.t.sl (ageT x.t p.a.toNat))) (fun e => by omega)
    have fS := fun j => (hf10.frozen (by show 0 < x.n; omega) (by show 0 < x.m; omega) rfl rfl j).2
    have fS0 := fS (p.a.toNat * 3)
    have fS1 := fS (p.a.toNat * 3 + 1)
    have fS2 := fS (p.a.toNat * 3 + 2)
    obtain ⟨s0, s1, s2⟩ := hf10.cellsS rfl (j := p.a.toNat) (by show p.a.toNat < x.m; omega)
    obtain ⟨w11, hw11⟩ : ∃ w11, st3 w10 gS p.a.toNat (fillT x.t.sl x.t.sl (ageT x.t p.a.toNat)) = w11 := ⟨_, rfl⟩
    rw [hw11] at hf11 hr11
    unfold st3 at hw11
    have HF11 := Lib.hid hf11
    have hI10 := hf10.bx.b1.cells
    have hI11 := hf11.bx.b1.cells
    have hJ10 := hr10.cells
    have hJ11 := hr11.cells
    clear hm10 hf10 hf11 fS hr10 hr11
    clear hI
    have hI := (show (fun W : World => (W.cell? ⟨w.heap.size, 0, none⟩ = some (.slice (some ⟨gP, 0, none⟩) x.n c) ∧ W.cell? ⟨w.heap.size, 1, none⟩ = some (.slice (some ⟨gS, 0, none⟩) x.m d) ∧ W.cell? ⟨w.heap.size, 2, none⟩ = some (.int .i64 x.t.sl) ∧ W.cell? ⟨w.heap.size, 3, none⟩ = some (.int .i64 x.t.nw)) ∧ (W.cell? ⟨w.heap.size + 1, 0, none⟩ = some (.int .i64 p.a) ∧ W.cell? ⟨w.heap.size + 1, 1, none⟩ = some (.int .i64 p.b) ∧ W.cell? ⟨w.heap.size + 1, 2, none⟩ = some (.int .i64 p.c))) _ from ⟨hI10, hJ10⟩)
    refine ⟨hI, ?_⟩
    refine rg_take (n := 1) (v := ?_) 12 (some 59) rfl rfl (by kernel_rfl) (by kernel_rfl) (by kernel_rfl) (fun _ _ _ h => h) (by rfl) hI ?_ ?_
    rotate_left
    · ((intro w hSw; (try dsimp only at hSw); go_simp); (try with_reducible rfl))
    try simp only [Act.put, List.setIfInBounds_toArray, List.set_cons_zero, List.set_cons_succ]
    refine rg_one (n := 0) 13 rfl (by kernel_rfl) (by rfl) ?_
    go_simp
    clear hI
    have hI := (show (fun W : World => (W.cell? ⟨w.heap.size, 0, none⟩ = some (.slice (some ⟨gP, 0, none⟩) x.n c) ∧ W.cell? ⟨w.heap.size, 1, none⟩ = some (.slice (some ⟨gS, 0, none⟩) x.m d) ∧ W.cell? ⟨w.heap.size, 2, none⟩ = some (.int .i64 x.t.sl) ∧ W.cell? ⟨w.heap.size, 3, none⟩ = some (.int .i64 x.t.nw)) ∧ (W.cell? ⟨w.heap.size + 1, 0, none⟩ = some (.int .i64 p.a) ∧ W.cell? ⟨w.heap.size + 1, 1, none⟩ = some (.int .i64 p.b) ∧ W.cell? ⟨w.heap.size + 1, 2, none⟩ = some (.int .i64 p.c))) _ from ⟨hI11, hJ11⟩)
    first | refine ⟨hI, ?_⟩ | skip
    try simp only [Act.put]
    clear hI10 hI11 hJ10 hJ11
    refine wpAnyH_done (by kernel_rfl) ?_ _
    clear hI
    clear hw11 s0 s1 s2 fS0 fS1 fS2
    have fz0 := HF11.out.bx.b2.frozen 0
    have fz1 := HF11.out.bx.b2.frozen 1
    have fz2 := HF11.out.bx.b2.frozen 2
    have fz3 := HF11.out.bx.b2.frozen 3
    obtain ⟨z0c, z1c, z2c, z3c⟩ := HF11.out.bx.b2.cells
    obtain ⟨r0, r1, r2, r3⟩ := HF11.out.bx.b1.cells
    have hfin := HF11.out.fin
    obtain ⟨w12, hwf⟩ : ∃ w12, stT w11 (w.heap.size + 2) (⟨some ⟨gP, 0, none⟩, x.n, c, some ⟨gS, 0, none⟩, x.m, d, ⟨x.t.pg.set i p, x.t.sg.set p.a.toNat (fillT x.t.sl x.t.sl (ageT x.t p.a.toNat)), x.t.sl, x.t.nw⟩⟩ : TV) = w12 := ⟨_, rfl⟩
    rw [hwf] at hfin
    unfold stT at hwf
    have hwf : (((w11.setCell ⟨w.heap.size + 2, 0, none⟩ (.slice (some ⟨gP, 0, none⟩) x.n c)).setCell ⟨w.heap.size + 2, 1, none⟩ (.slice (some ⟨gS, 0, none⟩) x.m d)).setCell ⟨w.heap.size + 2, 2, none⟩ (.int .i64 x.t.sl)).setCell ⟨w.heap.size + 2, 3, none⟩ (.int .i64 x.t.nw) = w12 := hwf
    have Hfin := Lib.hid hfin
    clear hfin
    go_wp2
    clear hwf fz0 fz1 fz2 fz3 z0c z1c z2c z3c r0 r1 r2 r3
    have q0 : w12.cell? ⟨w.heap.size + 2, 0, none⟩ = some (.slice (some ⟨gP, 0, none⟩) x.n c) := Hfin.out.2.1.cells.1
    have q1 : w12.cell? ⟨w.heap.size + 2, 1, none⟩ = some (.slice (some ⟨gS, 0, none⟩) x.m d) := Hfin.out.2.1.cells.2.1
    have q2 : w12.cell? ⟨w.heap.size + 2, 2, none⟩ = some (.int .i64 x.t.sl) := Hfin.out.2.1.cells.2.2.1
    have q3 : w12.cell? ⟨w.heap.size + 2, 3, none⟩ = some (.int .i64 x.t.nw) := Hfin.out.2.1.cells.2.2.2
    refine bodyPost_ret (v := .tuple #[.agg #[.slice (some ⟨gP, 0, none⟩) x.n c, .slice (some ⟨gS, 0, none⟩) x.m d, .int .i64 x.t.sl, .int .i64 x.t.nw], .int .i64 0]) (by simp [results, Try.results30, go_sem, q0, q1, q2, q3]) rfl ?_
    exact ⟨⟨some ⟨gP, 0, none⟩, x.n, c, some ⟨gS, 0, none⟩, x.m, d, ⟨x.t.pg.set i p, x.t.sg.set p.a.toNat (fillT x.t.sl x.t.sl (ageT x.t p.a.toNat)), x.t.sl, x.t.nw⟩⟩, rfl, Hfin.out.1, by rw [if_pos rfl, HT.out], Hfin.out.2.2⟩
end Go.Proofs.Ythbcgbbcoanbdaa
