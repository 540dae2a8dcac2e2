/-
  Package table: Put.
-/
import Derived.Test.YthbcgbbcoanbdaaTFr
namespace Go.Proofs.Ythbcgbbcoanbdaa
open Go Go.RowKit

def putE (t : Tb) (page a : Int) : Int := if mayB t && inB page 0 ((t.pg.length : Int) - 1) && inB a 0 4294967295 && !decide (t.nw = 1099511627776) then nxE t else 1
def putT (t : Tb) (page a : Int) : Tb := ⟨t.pg.set page.toNat ⟨(nxG t : Int), nxU t, a⟩, t.sg.set (nxG t) (fillT t.sl (nxU t + 1) (t.nw + 1)), t.sl, t.nw + 1⟩
/-- The next place lies within the table. -/
theorem nx_in {t : Tb} (h : t.May) (he : nxE t = 0) : nxG t < t.sg.length ∧ 0 ≤ nxU t ∧ nxU t < t.sl := by
  have hy := mayB_iff.2 h
  have hU : nxU t = (atS t.sg (nxG t)).b := by unfold nxU; rw [if_pos he]
  unfold nxE at he
  rw [if_pos hy] at he
  have k1 := h.k1
  by_cases h1 : 0 < cnt (stF 1 t) t.sg.length
  · obtain ⟨f1, f2, _⟩ := fstI_spec h1
    have hG : nxG t = fstI (stF 1 t) t.sg.length := by unfold nxG; rw [if_pos hy, if_pos h1]
    rw [hU, hG]
    have f3 : (atS t.sg (fstI (stF 1 t) t.sg.length)).a = 1 := of_decide_eq_true f2
    have := h.segs f1
    rcases this with e | e | e
    · rw [e] at f3; exact absurd f3 (by decide)
    · exact ⟨f1, by omega, by omega⟩
    · omega
  · rw [if_neg h1] at he
    by_cases h0 : 0 < cnt (stF 0 t) t.sg.length
    · obtain ⟨f1, f2, _⟩ := fstI_spec h0
      have hG : nxG t = fstI (stF 0 t) t.sg.length := by unfold nxG; rw [if_pos hy, if_neg h1, if_pos h0]
      have f3 : (atS t.sg (fstI (stF 0 t) t.sg.length)).a = 0 := of_decide_eq_true f2
      rw [hU, hG, h.freeSeg f1 f3]
      exact ⟨f1, by decide, by show (0 : Int) < _; omega⟩
    · rw [if_neg h0] at he
      exact absurd he (by decide)
theorem nxE_cases (t : Tb) : nxE t = 0 ∨ nxE t = 4 ∨ nxE t = 1 := by
  unfold nxE
  split
  · split
    · exact .inl rfl
    · split
      · exact .inl rfl
      · exact .inr (.inl rfl)
  · exact .inr (.inr rfl)

set_option maxRecDepth 100000 in
set_option maxHeartbeats 6400000 in
theorem put_ok (w : World) (x : TV) (h : x.At w) (hn : x.n ≤ 1000) (hm : x.m ≤ 1000) (page a : Int) :
    Calls Try.prog 22 #[.agg #[.slice x.P x.n x.c, .slice x.S x.m x.d, .int .i64 x.t.sl, .int .i64 x.t.nw], .int .i64 page, .int .i64 a] w fun e w' => TbAns w w' (putE x.t page a) (putT x.t page a) e := by
  obtain ⟨w1, hw1⟩ : ∃ w1, (w.alloc (.cells #[.slice x.P x.n x.c, .slice x.S x.m x.d, .int .i64 x.t.sl, .int .i64 x.t.nw] 27)).alloc (.cells #[.slice none 0 0, .slice none 0 0, .int .i64 0, .int .i64 0] 27) = w1 := ⟨_, rfl⟩
  have hb : Bxs w w1 x := by
    rw [← hw1]
    refine ⟨(TBx.new w x).keep ((Mod.refl _ _).alloc _), ?_, ((Mod.refl _ w).alloc _).alloc _, by simp⟩
    have := TBx.new (w.alloc (.cells #[.slice x.P x.n x.c, .slice x.S x.m x.d, .int .i64 x.t.sl, .int .i64 x.t.nw] 27)) z0
    rw [World.size_alloc] at this
    exact this
  obtain ⟨c0, c1, c2, c3⟩ := hb.b1.cells
  have HB := Lib.hid hb
  have HX := Lib.hid (h.keep hb.old)
  have Hm := Lib.hid (tmay_ok w1 x HX.out hn hm)
  have Hpl : Hid (x.t.pg.length = x.n) := h.pg.len
  have Hsl : Hid (x.t.sg.length = x.m) := h.sg.len
  have W2 := Lib.hid (fun W => hasPage_ok W x hn page)
  have W3 := Lib.hid (fun W => within_ok W a 0 4294967295)
  clear hb h
  have HE : Hid (putE x.t page a = if mayB x.t && inB page 0 ((x.n : Int) - 1) && inB a 0 4294967295 && !decide (x.t.nw = 1099511627776) then nxE x.t else 1) := by rw [← Hpl.out]; exact Lib.hid rfl
  cases hy : mayB x.t with
  | false =>
    rw [hy] at Hm HE
    have He1 : putE x.t page a = 1 := by rw [HE.out]; simp
    rw [He1]
    clear hy He1 HE
    go_enter Try.func22, Try.ntmps22
    go_wp2_with fail
    refine Hm.out.mono ?_
    rintro e w2 ⟨rfl, hm2⟩
    have HB2 := Lib.hid (HB.out.keep hm2)
    clear hm2 hw1 c0 c1 c2 c3
    have fz0 := (HB2.out).b2.frozen 0
    have fz1 := (HB2.out).b2.frozen 1
    have fz2 := (HB2.out).b2.frozen 2
    have fz3 := (HB2.out).b2.frozen 3
    obtain ⟨z0c, z1c, z2c, z3c⟩ := (HB2.out).b2.cells
    have herr := (HB2.out).err
    obtain ⟨wf, hwf⟩ : ∃ wf, stT w2 (w.heap.size + 1) z0 = wf := ⟨_, rfl⟩
    rw [hwf] at herr
    unfold stT at hwf
    have Herr := Lib.hid herr
    have hwf : ((((w2).setCell ⟨w.heap.size + 1, 0, none⟩ (.slice none 0 0)).setCell ⟨w.heap.size + 1, 1, none⟩ (.slice none 0 0)).setCell ⟨w.heap.size + 1, 2, none⟩ (.int .i64 0)).setCell ⟨w.heap.size + 1, 3, none⟩ (.int .i64 0) = wf := hwf
    clear herr
    go_wp2
    clear hwf fz0 fz1 fz2 fz3 z0c z1c z2c z3c
    have q0 : wf.cell? ⟨w.heap.size + 1, 0, none⟩ = some (.slice none 0 0) := Herr.out.1.cells.1
    have q1 : wf.cell? ⟨w.heap.size + 1, 1, none⟩ = some (.slice none 0 0) := Herr.out.1.cells.2.1
    have q2 : wf.cell? ⟨w.heap.size + 1, 2, none⟩ = some (.int .i64 0) := Herr.out.1.cells.2.2.1
    have q3 : wf.cell? ⟨w.heap.size + 1, 3, none⟩ = some (.int .i64 0) := Herr.out.1.cells.2.2.2
    refine bodyPost_ret (v := .tuple #[.agg #[.slice none 0 0, .slice none 0 0, .int .i64 0, .int .i64 0], .int .i64 1]) (by simp [results, Try.results22, go_sem, q0, q1, q2, q3]) rfl ?_
    exact ⟨z0, rfl, z0_at _, rfl, Herr.out.2⟩
  | true =>
  rw [hy] at Hm HE
  have Hmay := Lib.hid (mayB_iff.1 hy)
  clear hy
  cases hp : inB page 0 ((x.n : Int) - 1) with
  | false =>
    rw [hp] at W2 HE
    have He1 : putE x.t page a = 1 := by rw [HE.out]; simp
    rw [He1]
    clear hp He1 HE
    go_enter Try.func22, Try.ntmps22
    go_wp2_with fail
    refine Hm.out.mono ?_
    rintro e w2 ⟨rfl, hm2⟩
    have HB2 := Lib.hid (HB.out.keep hm2)
    obtain ⟨d0, d1, d2, d3⟩ := HB2.out.b1.cells
    clear hm2 hw1 c0 c1 c2 c3
    go_wp2_with fail
    refine (W2.out _).mono ?_
    rintro e w3 ⟨rfl, hm3⟩
    have HB3 := Lib.hid (HB2.out.keep hm3)
    clear hm3 d0 d1 d2 d3
    have fz0 := (HB3.out).b2.frozen 0
    have fz1 := (HB3.out).b2.frozen 1
    have fz2 := (HB3.out).b2.frozen 2
    have fz3 := (HB3.out).b2.frozen 3
    obtain ⟨z0c, z1c, z2c, z3c⟩ := (HB3.out).b2.cells
    have herr := (HB3.out).err
    obtain ⟨wf, hwf⟩ : ∃ wf, stT w3 (w.heap.size + 1) z0 = wf := ⟨_, rfl⟩
    rw [hwf] at herr
    unfold stT at hwf
    have Herr := Lib.hid herr
    have hwf : ((((w3).setCell ⟨w.heap.size + 1, 0, none⟩ (.slice none 0 0)).setCell ⟨w.heap.size + 1, 1, none⟩ (.slice none 0 0)).setCell ⟨w.heap.size + 1, 2, none⟩ (.int .i64 0)).setCell ⟨w.heap.size + 1, 3, none⟩ (.int .i64 0) = wf := hwf
    clear herr
    go_wp2
    clear hwf fz0 fz1 fz2 fz3 z0c z1c z2c z3c
    have q0 : wf.cell? ⟨w.heap.size + 1, 0, none⟩ = some (.slice none 0 0) := Herr.out.1.cells.1
    have q1 : wf.cell? ⟨w.heap.size + 1, 1, none⟩ = some (.slice none 0 0) := Herr.out.1.cells.2.1
    have q2 : wf.cell? ⟨w.heap.size + 1, 2, none⟩ = some (.int .i64 0) := Herr.out.1.cells.2.2.1
    have q3 : wf.cell? ⟨w.heap.size + 1, 3, none⟩ = some (.int .i64 0) := Herr.out.1.cells.2.2.2
    refine bodyPost_ret (v := .tuple #[.agg #[.slice none 0 0, .slice none 0 0, .int .i64 0, .int .i64 0], .int .i64 1]) (by simp [results, Try.results22, go_sem, q0, q1, q2, q3]) rfl ?_
    exact ⟨z0, rfl, z0_at _, rfl, Herr.out.2⟩
  | true =>
  rw [hp] at W2 HE
  obtain ⟨hp0, hp1⟩ := inB_iff.1 hp
  clear hp
  cases ha : inB a 0 4294967295 with
  | false =>
    rw [ha] at W3 HE
    have He1 : putE x.t page a = 1 := by rw [HE.out]; simp
    rw [He1]
    clear ha He1 HE
    go_enter Try.func22, Try.ntmps22
    go_wp2_with fail
    refine Hm.out.mono ?_
    rintro e w2 ⟨rfl, hm2⟩
    have HB2 := Lib.hid (HB.out.keep hm2)
    obtain ⟨d0, d1, d2, d3⟩ := HB2.out.b1.cells
    clear hm2 hw1 c0 c1 c2 c3
    go_wp2_with fail
    refine (W2.out _).mono ?_
    rintro e w3 ⟨rfl, hm3⟩
    have HB3 := Lib.hid (HB2.out.keep hm3)
    clear hm3 d0 d1 d2 d3
    go_wp2_with fail
    refine (W3.out _).mono ?_
    rintro e w4 ⟨rfl, rfl⟩
    have fz0 := (HB3.out).b2.frozen 0
    have fz1 := (HB3.out).b2.frozen 1
    have fz2 := (HB3.out).b2.frozen 2
    have fz3 := (HB3.out).b2.frozen 3
    obtain ⟨z0c, z1c, z2c, z3c⟩ := (HB3.out).b2.cells
    have herr := (HB3.out).err
    obtain ⟨wf, hwf⟩ : ∃ wf, stT w3 (w.heap.size + 1) z0 = wf := ⟨_, rfl⟩
    rw [hwf] at herr
    unfold stT at hwf
    have Herr := Lib.hid herr
    have hwf : ((((w3).setCell ⟨w.heap.size + 1, 0, none⟩ (.slice none 0 0)).setCell ⟨w.heap.size + 1, 1, none⟩ (.slice none 0 0)).setCell ⟨w.heap.size + 1, 2, none⟩ (.int .i64 0)).setCell ⟨w.heap.size + 1, 3, none⟩ (.int .i64 0) = wf := hwf
    clear herr
    go_wp2
    clear hwf fz0 fz1 fz2 fz3 z0c z1c z2c z3c
    have q0 : wf.cell? ⟨w.heap.size + 1, 0, none⟩ = some (.slice none 0 0) := Herr.out.1.cells.1
    have q1 : wf.cell? ⟨w.heap.size + 1, 1, none⟩ = some (.slice none 0 0) := Herr.out.1.cells.2.1
    have q2 : wf.cell? ⟨w.heap.size + 1, 2, none⟩ = some (.int .i64 0) := Herr.out.1.cells.2.2.1
    have q3 : wf.cell? ⟨w.heap.size + 1, 3, none⟩ = some (.int .i64 0) := Herr.out.1.cells.2.2.2
    refine bodyPost_ret (v := .tuple #[.agg #[.slice none 0 0, .slice none 0 0, .int .i64 0, .int .i64 0], .int .i64 1]) (by simp [results, Try.results22, go_sem, q0, q1, q2, q3]) rfl ?_
    exact ⟨z0, rfl, z0_at _, rfl, Herr.out.2⟩
  | true =>
  rw [ha] at W3 HE
  clear ha
  by_cases ht : x.t.nw = 1099511627776
  · have hd : (x.t.nw == 1099511627776) = true := by simpa using ht
    have He1 : putE x.t page a = 1 := by rw [HE.out, decide_eq_true ht]; rfl
    rw [He1]
    clear ht He1 HE
    go_enter Try.func22, Try.ntmps22
    go_wp2_with fail
    refine Hm.out.mono ?_
    rintro e w2 ⟨rfl, hm2⟩
    have HB2 := Lib.hid (HB.out.keep hm2)
    obtain ⟨d0, d1, d2, d3⟩ := HB2.out.b1.cells
    clear hm2 hw1 c0 c1 c2 c3
    go_wp2_with fail
    refine (W2.out _).mono ?_
    rintro e w3 ⟨rfl, hm3⟩
    have HB3 := Lib.hid (HB2.out.keep hm3)
    obtain ⟨d0, d1, d2, d3⟩ := HB3.out.b1.cells
    clear hm3
    go_wp2_with fail
    refine (W3.out _).mono ?_
    rintro e w4 ⟨rfl, rfl⟩
    have fz0 := (HB3.out).b2.frozen 0
    have fz1 := (HB3.out).b2.frozen 1
    have fz2 := (HB3.out).b2.frozen 2
    have fz3 := (HB3.out).b2.frozen 3
    obtain ⟨z0c, z1c, z2c, z3c⟩ := (HB3.out).b2.cells
    have herr := (HB3.out).err
    obtain ⟨wf, hwf⟩ : ∃ wf, stT w3 (w.heap.size + 1) z0 = wf := ⟨_, rfl⟩
    rw [hwf] at herr
    unfold stT at hwf
    have Herr := Lib.hid herr
    have hwf : ((((w3).setCell ⟨w.heap.size + 1, 0, none⟩ (.slice none 0 0)).setCell ⟨w.heap.size + 1, 1, none⟩ (.slice none 0 0)).setCell ⟨w.heap.size + 1, 2, none⟩ (.int .i64 0)).setCell ⟨w.heap.size + 1, 3, none⟩ (.int .i64 0) = wf := hwf
    clear herr
    go_wp2
    clear hwf fz0 fz1 fz2 fz3 z0c z1c z2c z3c
    have q0 : wf.cell? ⟨w.heap.size + 1, 0, none⟩ = some (.slice none 0 0) := Herr.out.1.cells.1
    have q1 : wf.cell? ⟨w.heap.size + 1, 1, none⟩ = some (.slice none 0 0) := Herr.out.1.cells.2.1
    have q2 : wf.cell? ⟨w.heap.size + 1, 2, none⟩ = some (.int .i64 0) := Herr.out.1.cells.2.2.1
    have q3 : wf.cell? ⟨w.heap.size + 1, 3, none⟩ = some (.int .i64 0) := Herr.out.1.cells.2.2.2
    refine bodyPost_ret (v := .tuple #[.agg #[.slice none 0 0, .slice none 0 0, .int .i64 0, .int .i64 0], .int .i64 1]) (by simp [results, Try.results22, go_sem, q0, q1, q2, q3]) rfl ?_
    exact ⟨z0, rfl, z0_at _, rfl, Herr.out.2⟩
  have hd : (x.t.nw == 1099511627776) = false := by simpa using ht
  have He0 : putE x.t page a = nxE x.t := by rw [HE.out, decide_eq_false ht]; rfl
  rw [He0]
  have Hnx := Lib.hid (fun W (hW : x.At W) => next_ok W x hW hn hm)
  clear ht He0 HE
  have hn2 := Hmay.out.n2
  have hn1 := Hmay.out.n1
  by_cases hx0 : nxE x.t = 0
  rotate_left
  · have hdx : (nxE x.t == 0) = false := by simpa using hx0
    generalize hxe : nxE x.t = E at *
    have Hdx : Hid (¬ E = 0) := hx0
    clear hxe hx0
    go_enter Try.func22, Try.ntmps22
    go_wp2_with fail
    refine Hm.out.mono ?_
    rintro e w2 ⟨rfl, hm2⟩
    have HB2 := Lib.hid (HB.out.keep hm2)
    obtain ⟨d0, d1, d2, d3⟩ := HB2.out.b1.cells
    have HX2 := Lib.hid (HX.out.keep hm2)
    clear hm2 hw1 c0 c1 c2 c3
    go_wp2_with fail
    refine (W2.out _).mono ?_
    rintro e w3 ⟨rfl, hm3⟩
    have HB3 := Lib.hid (HB2.out.keep hm3)
    have HX3 := Lib.hid (HX2.out.keep hm3)
    obtain ⟨d0, d1, d2, d3⟩ := HB3.out.b1.cells
    clear hm3
    go_wp2_with fail
    refine (W3.out _).mono ?_
    rintro e w4 ⟨rfl, rfl⟩
    go_wp2_with fail
    refine (Hnx.out _ HX3.out).mono ?_
    rintro e w5 ⟨rfl, hm5⟩
    have HB5 := Lib.hid (HB3.out.keep hm5)
    clear hm5 d0 d1 d2 d3
    have fz0 := (HB5.out).b2.frozen 0
    have fz1 := (HB5.out).b2.frozen 1
    have fz2 := (HB5.out).b2.frozen 2
    have fz3 := (HB5.out).b2.frozen 3
    obtain ⟨z0c, z1c, z2c, z3c⟩ := (HB5.out).b2.cells
    have herr := (HB5.out).err
    obtain ⟨wf, hwf⟩ : ∃ wf, stT w5 (w.heap.size + 1) z0 = wf := ⟨_, rfl⟩
    rw [hwf] at herr
    unfold stT at hwf
    have Herr := Lib.hid herr
    have hwf : ((((w5).setCell ⟨w.heap.size + 1, 0, none⟩ (.slice none 0 0)).setCell ⟨w.heap.size + 1, 1, none⟩ (.slice none 0 0)).setCell ⟨w.heap.size + 1, 2, none⟩ (.int .i64 0)).setCell ⟨w.heap.size + 1, 3, none⟩ (.int .i64 0) = wf := hwf
    clear herr
    go_wp2
    clear hwf fz0 fz1 fz2 fz3 z0c z1c z2c z3c
    have q0 : wf.cell? ⟨w.heap.size + 1, 0, none⟩ = some (.slice none 0 0) := Herr.out.1.cells.1
    have q1 : wf.cell? ⟨w.heap.size + 1, 1, none⟩ = some (.slice none 0 0) := Herr.out.1.cells.2.1
    have q2 : wf.cell? ⟨w.heap.size + 1, 2, none⟩ = some (.int .i64 0) := Herr.out.1.cells.2.2.1
    have q3 : wf.cell? ⟨w.heap.size + 1, 3, none⟩ = some (.int .i64 0) := Herr.out.1.cells.2.2.2
    refine bodyPost_ret (v := .tuple #[.agg #[.slice none 0 0, .slice none 0 0, .int .i64 0, .int .i64 0], .int .i64 E]) (by simp [results, Try.results22, go_sem, q0, q1, q2, q3]) rfl ?_
    exact ⟨z0, rfl, z0_at _, by rw [if_neg Hdx.out]; rfl, Herr.out.2⟩
  have hdx : (nxE x.t == 0) = true := by simpa using hx0
  obtain ⟨hg, hu0, hu1⟩ := nx_in Hmay.out hx0
  have Hx0 := Lib.hid hx0
  rw [Hsl.out] at hg
  have hk2 := Hmay.out.k2
  have hpn := Hmay.out.p1
  rw [Hpl.out] at hpn
  obtain ⟨i, rfl⟩ : ∃ i : Nat, page = i := ⟨page.toNat, by omega⟩
  have hi : i < x.n := by omega
  have Hcp := Lib.hid (fun W (hW : x.At W) => copied_ok W x hW hn hm)
  rw [hx0] at Hnx
  have HT : Hid (putT x.t i a = ⟨x.t.pg.set i ⟨(nxG x.t : Int), nxU x.t, a⟩, x.t.sg.set (nxG x.t) (fillT x.t.sl (nxU x.t + 1) (x.t.nw + 1)), x.t.sl, x.t.nw + 1⟩) := Lib.hid rfl
  clear hx0 hdx
  generalize nxG x.t = G at *
  generalize nxU x.t = U at *
  go_enter Try.func22, Try.ntmps22
  go_wp2_with fail
  refine Hm.out.mono ?_
  rintro e w2 ⟨rfl, hm2⟩
  have HB2 := Lib.hid (HB.out.keep hm2)
  obtain ⟨d0, d1, d2, d3⟩ := HB2.out.b1.cells
  have HX2 := Lib.hid (HX.out.keep hm2)
  clear hm2 hw1 c0 c1 c2 c3
  go_wp2_with fail
  refine (W2.out _).mono ?_
  rintro e w3 ⟨rfl, hm3⟩
  have HB3 := Lib.hid (HB2.out.keep hm3)
  have HX3 := Lib.hid (HX2.out.keep hm3)
  obtain ⟨d0, d1, d2, d3⟩ := HB3.out.b1.cells
  clear hm3
  go_wp2_with fail
  refine (W3.out _).mono ?_
  rintro e w4 ⟨rfl, rfl⟩
  go_wp2_with fail
  refine (Hnx.out _ HX3.out).mono ?_
  rintro e w5 ⟨rfl, hm5⟩
  have HB5 := Lib.hid (HB3.out.keep hm5)
  have HX5 := Lib.hid (HX3.out.keep hm5)
  clear hm5 d0 d1 d2 d3
  obtain ⟨d0, d1, d2, d3⟩ := HB5.out.b1.cells
  go_wp2_with fail
  refine (Hcp.out _ HX5.out).mono ?_
  rintro e w6 ⟨P, c, S, d, rfl, hown, hm6⟩
  have hb6 := HB5.out.keep hm6
  have hfr := Fr.start hb6 hown HB5.out.sz
  have f0 := hb6.b1.frozen 0
  have f1 := hb6.b1.frozen 1
  have f2 := hb6.b1.frozen 2
  have f3 := hb6.b1.frozen 3
  clear d0 d1 d2 d3
  obtain ⟨d0, d1, d2, d3⟩ := hb6.b1.cells
  obtain ⟨w7, hw7⟩ : ∃ w7, stT w6 w.heap.size ⟨P, x.n, c, S, x.m, d, x.t⟩ = w7 := ⟨_, rfl⟩
  rw [hw7] at hfr
  unfold stT at hw7
  have hw7 : (((w6.setCell ⟨w.heap.size, 0, none⟩ (.slice P x.n c)).setCell ⟨w.heap.size, 1, none⟩ (.slice S x.m d)).setCell ⟨w.heap.size, 2, none⟩ (.int .i64 x.t.sl)).setCell ⟨w.heap.size, 3, none⟩ (.int .i64 x.t.nw) = w7 := hw7
  obtain ⟨e0, e1, e2, e3⟩ := hfr.bx.b1.cells
  have k3 := hfr.bx.b1.frozen 3
  have hwr : IntKind.i64.wrap (x.t.nw + 1) = x.t.nw + 1 := by rw [IntKind.wrap_i64]; omega
  have Hwr := Lib.hid hwr
  clear hwr
  have hft := hfr.tick (x.t.nw + 1)
  obtain ⟨w8, hw8⟩ : ∃ w8, w7.setCell ⟨w.heap.size, 3, none⟩ (.int .i64 (x.t.nw + 1)) = w8 := ⟨_, rfl⟩
  rw [hw8] at hft
  obtain ⟨gP, gS, hP, hS, hne, hbP, hbS, hlP, hlS⟩ := hft.rows (by show 0 < x.n; omega) (by show 0 < x.m; omega)
  replace hP : P = some ⟨gP, 0, none⟩ := hP
  replace hS : S = some ⟨gS, 0, none⟩ := hS
  subst hP
  subst hS
  obtain ⟨r0, r1, r2, r3⟩ := hft.bx.b1.cells
  have fP := fun j => (hft.frozen (by show 0 < x.n; omega) (by show 0 < x.m; omega) rfl rfl j).1
  have fP0 := fP (i * 3)
  have fP1 := fP (i * 3 + 1)
  have fP2 := fP (i * 3 + 2)
  obtain ⟨p0, p1, p2⟩ := hft.cellsP rfl (j := i) (by show i < x.n; omega)
  have hfp := hft.setP rfl rfl hne (by show i < x.n; omega) (⟨(G : Int), U, a⟩ : Tr)
  obtain ⟨w9, hw9⟩ : ∃ w9, st3 w8 gP i ⟨(G : Int), U, a⟩ = w9 := ⟨_, rfl⟩
  rw [hw9] at hfp
  unfold st3 at hw9
  have hw9 : ((w8.setCell ⟨gP, i * 3, none⟩ (.int .i64 (G : Int))).setCell ⟨gP, i * 3 + 1, none⟩ (.int .i64 U)).setCell ⟨gP, i * 3 + 2, none⟩ (.int .i64 a) = w9 := hw9
  have HFP := Lib.hid hfp
  have Hne := Lib.hid hne
  have hbP2 := hbP
  clear hfr hft hfp hown hm6 hb6 fP
  go_wp2
  clear hw7 hw8 hw9 d0 d1 d2 d3 e0 e1 e2 e3 r0 r1 r2 r3 p0 p1 p2 fP0 fP1 fP2 k3 f0 f1 f2 f3
  have hwU : IntKind.i64.wrap (U + 1) = U + 1 := by rw [IntKind.wrap_i64]; omega
  have hGm : (G : Int) < (x.m : Int) := by omega
  have hG0 : (0 : Int) ≤ (G : Int) := by omega
  have HFL := Lib.hid (fun W => filled_ok W (⟨some ⟨gP, 0, none⟩, x.n, c, some ⟨gS, 0, none⟩, x.m, d, ⟨x.t.pg.set i ⟨(G : Int), U, a⟩, x.t.sg, x.t.sl, x.t.nw + 1⟩⟩ : TV) (U + 1) (x.t.nw + 1))
  have M9 : Hid (Mod (fun _ => False) w9 w9.drew) := (Mod.refl _ w9).drew
  refine wp_region_held (S := (fun W : World => W.cell? ⟨w.heap.size, 0, none⟩ = some (.slice (some ⟨gP, 0, none⟩) x.n c) ∧ W.cell? ⟨w.heap.size, 1, none⟩ = some (.slice (some ⟨gS, 0, none⟩) x.m d) ∧ W.cell? ⟨w.heap.size, 2, none⟩ = some (.int .i64 x.t.sl) ∧ W.cell? ⟨w.heap.size, 3, none⟩ = some (.int .i64 (x.t.nw + 1)))) (by kernel_rfl) ?_
  have hI := (show (fun W : World => W.cell? ⟨w.heap.size, 0, none⟩ = some (.slice (some ⟨gP, 0, none⟩) x.n c) ∧ W.cell? ⟨w.heap.size, 1, none⟩ = some (.slice (some ⟨gS, 0, none⟩) x.m d) ∧ W.cell? ⟨w.heap.size, 2, none⟩ = some (.int .i64 x.t.sl) ∧ W.cell? ⟨w.heap.size, 3, none⟩ = some (.int .i64 (x.t.nw + 1))) _ from (HFP.out.keep M9.out).bx.b1.cells)
  refine rg_take (n := 10) (v := ?_) 0 (some 55) rfl rfl (by kernel_rfl) (by kernel_rfl) (by kernel_rfl) (fun _ _ _ h => h) (by rfl) hI ?_ ?_
  rotate_left
  · ((intro w hSw; (try dsimp only at hSw); go_simp); (try with_reducible rfl))
  try simp only [Act.put, List.setIfInBounds_toArray, List.set_cons_zero, List.set_cons_succ]
  refine rg_take (n := 9) (v := ?_) 1 (some 56) rfl rfl (by kernel_rfl) (by kernel_rfl) (by kernel_rfl) (fun _ _ _ h => h) (by rfl) hI ?_ ?_
  rotate_left
  · ((intro w hSw; (try dsimp only at hSw); go_simp); (try with_reducible rfl))
  try simp only [Act.put, List.setIfInBounds_toArray, List.set_cons_zero, List.set_cons_succ]
  refine rg_take (n := 8) (v := ?_) 2 (some 57) rfl rfl (by kernel_rfl) (by kernel_rfl) (by kernel_rfl) (fun _ _ _ h => h) (by rfl) hI ?_ ?_
  rotate_left
  · ((intro w hSw; (try dsimp only at hSw); go_simp); (try with_reducible rfl))
  try simp only [Act.put, List.setIfInBounds_toArray, List.set_cons_zero, List.set_cons_succ]
  refine rg_take (n := 7) (v := ?_) 3 (some 58) rfl rfl (by kernel_rfl) (by kernel_rfl) (by kernel_rfl) (fun _ _ _ h => h) (by rfl) hI ?_ ?_
  rotate_left
  · ((intro w hSw; (try dsimp only at hSw); go_simp); (try with_reducible rfl))
  try simp only [Act.put, List.setIfInBounds_toArray, List.set_cons_zero, List.set_cons_succ]
  refine rg_take (n := 6) (v := ?_) 4 (some 59) rfl rfl (by kernel_rfl) (by kernel_rfl) (by kernel_rfl) (fun _ _ _ h => h) (by rfl) hI ?_ ?_
  rotate_left
  · ((intro w hSw; (try dsimp only at hSw); go_simp); (try with_reducible rfl))
  try simp only [Act.put, List.setIfInBounds_toArray, List.set_cons_zero, List.set_cons_succ]
  refine rg_take (n := 5) (v := ?_) 5 (some 60) rfl rfl (by kernel_rfl) (by kernel_rfl) (by kernel_rfl) (fun _ _ _ h => h) (by rfl) hI ?_ ?_
  rotate_left
  · ((intro w hSw; (try dsimp only at hSw); go_simp); (try with_reducible rfl))
  try simp only [Act.put, List.setIfInBounds_toArray, List.set_cons_zero, List.set_cons_succ]
  refine rg_take (n := 4) (v := ?_) 6 (some 61) rfl rfl (by kernel_rfl) (by kernel_rfl) (by kernel_rfl) (fun _ _ _ h => h) (by rfl) hI ?_ ?_
  rotate_left
  · ((intro w hSw; (try dsimp only at hSw); go_simp); (try with_reducible rfl))
  try simp only [Act.put, List.setIfInBounds_toArray, List.set_cons_zero, List.set_cons_succ]
  refine rg_take (n := 3) (v := ?_) 7 (some 62) rfl rfl (by kernel_rfl) (by kernel_rfl) (by kernel_rfl) (fun _ _ _ h => h) (by rfl) hI ?_ ?_
  rotate_left
  · ((intro w hSw; (try dsimp only at hSw); go_simp); (try with_reducible rfl))
  try simp only [Act.put, List.setIfInBounds_toArray, List.set_cons_zero, List.set_cons_succ]
  refine rg_one (n := 2) 8 rfl (by kernel_rfl) (by rfl) ?_
  go_simp
  go_at_call 47
  refine (HFL.out _).mono ?_
  rintro e w10 ⟨rfl, hm10⟩
  have hf10 := (HFP.out.keep M9.out).keep hm10
  have hf11 := hf10.setS rfl rfl Hne.out (by show G < x.m; omega) (fillT x.t.sl (U + 1) (x.t.nw + 1))
  have fS := fun j => (hf10.frozen (by show 0 < x.n; omega) (by show 0 < x.m; omega) rfl rfl j).2
  have fS0 := fS (G * 3)
  have fS1 := fS (G * 3 + 1)
  have fS2 := fS (G * 3 + 2)
  obtain ⟨s0, s1, s2⟩ := hf10.cellsS rfl (j := G) (by show G < x.m; omega)
  obtain ⟨w11, hw11⟩ : ∃ w11, st3 w10 gS G (fillT x.t.sl (U + 1) (x.t.nw + 1)) = w11 := ⟨_, rfl⟩
  rw [hw11] at hf11
  unfold st3 at hw11
  have HF11 := Lib.hid hf11
  have hI10 := hf10.bx.b1.cells
  have hI11 := hf11.bx.b1.cells
  clear hm10 hf10 hf11 fS
  clear hI
  have hI := (show (fun W : World => W.cell? ⟨w.heap.size, 0, none⟩ = some (.slice (some ⟨gP, 0, none⟩) x.n c) ∧ W.cell? ⟨w.heap.size, 1, none⟩ = some (.slice (some ⟨gS, 0, none⟩) x.m d) ∧ W.cell? ⟨w.heap.size, 2, none⟩ = some (.int .i64 x.t.sl) ∧ W.cell? ⟨w.heap.size, 3, none⟩ = some (.int .i64 (x.t.nw + 1))) _ from hI10)
  refine ⟨hI, ?_⟩
  refine rg_take (n := 1) (v := ?_) 9 (some 64) rfl rfl (by kernel_rfl) (by kernel_rfl) (by kernel_rfl) (fun _ _ _ h => h) (by rfl) hI ?_ ?_
  rotate_left
  · ((intro w hSw; (try dsimp only at hSw); go_simp); (try with_reducible rfl))
  try simp only [Act.put, List.setIfInBounds_toArray, List.set_cons_zero, List.set_cons_succ]
  refine rg_one (n := 0) 10 rfl (by kernel_rfl) (by rfl) ?_
  go_simp
  clear hI
  have hI := (show (fun W : World => W.cell? ⟨w.heap.size, 0, none⟩ = some (.slice (some ⟨gP, 0, none⟩) x.n c) ∧ W.cell? ⟨w.heap.size, 1, none⟩ = some (.slice (some ⟨gS, 0, none⟩) x.m d) ∧ W.cell? ⟨w.heap.size, 2, none⟩ = some (.int .i64 x.t.sl) ∧ W.cell? ⟨w.heap.size, 3, none⟩ = some (.int .i64 (x.t.nw + 1))) _ from hI11)
  first | refine ⟨hI, ?_⟩ | skip
  try simp only [Act.put]
  clear hI10 hI11
  refine wpAnyH_done (by kernel_rfl) ?_ _
  clear hI
  clear hwU hw11 s0 s1 s2 fS0 fS1 fS2
  have fz0 := HF11.out.bx.b2.frozen 0
  have fz1 := HF11.out.bx.b2.frozen 1
  have fz2 := HF11.out.bx.b2.frozen 2
  have fz3 := HF11.out.bx.b2.frozen 3
  obtain ⟨z0c, z1c, z2c, z3c⟩ := HF11.out.bx.b2.cells
  obtain ⟨r0, r1, r2, r3⟩ := HF11.out.bx.b1.cells
  have hfin := HF11.out.fin
  obtain ⟨w12, hw12⟩ : ∃ w12, stT w11 (w.heap.size + 1) (⟨some ⟨gP, 0, none⟩, x.n, c, some ⟨gS, 0, none⟩, x.m, d, ⟨x.t.pg.set i ⟨(G : Int), U, a⟩, x.t.sg.set G (fillT x.t.sl (U + 1) (x.t.nw + 1)), x.t.sl, x.t.nw + 1⟩⟩ : TV) = w12 := ⟨_, rfl⟩
  rw [hw12] at hfin
  unfold stT at hw12
  have hw12 : (((w11.setCell ⟨w.heap.size + 1, 0, none⟩ (.slice (some ⟨gP, 0, none⟩) x.n c)).setCell ⟨w.heap.size + 1, 1, none⟩ (.slice (some ⟨gS, 0, none⟩) x.m d)).setCell ⟨w.heap.size + 1, 2, none⟩ (.int .i64 x.t.sl)).setCell ⟨w.heap.size + 1, 3, none⟩ (.int .i64 (x.t.nw + 1)) = w12 := hw12
  have Hfin := Lib.hid hfin
  clear hfin
  go_wp2
  clear hw12 fz0 fz1 fz2 fz3 z0c z1c z2c z3c r0 r1 r2 r3
  have q0 : w12.cell? ⟨w.heap.size + 1, 0, none⟩ = some (.slice (some ⟨gP, 0, none⟩) x.n c) := Hfin.out.2.1.cells.1
  have q1 : w12.cell? ⟨w.heap.size + 1, 1, none⟩ = some (.slice (some ⟨gS, 0, none⟩) x.m d) := Hfin.out.2.1.cells.2.1
  have q2 : w12.cell? ⟨w.heap.size + 1, 2, none⟩ = some (.int .i64 x.t.sl) := Hfin.out.2.1.cells.2.2.1
  have q3 : w12.cell? ⟨w.heap.size + 1, 3, none⟩ = some (.int .i64 (x.t.nw + 1)) := Hfin.out.2.1.cells.2.2.2
  refine bodyPost_ret (v := .tuple #[.agg #[.slice (some ⟨gP, 0, none⟩) x.n c, .slice (some ⟨gS, 0, none⟩) x.m d, .int .i64 x.t.sl, .int .i64 (x.t.nw + 1)], .int .i64 0]) (by simp [results, Try.results22, go_sem, q0, q1, q2, q3]) rfl ?_
  exact ⟨⟨some ⟨gP, 0, none⟩, x.n, c, some ⟨gS, 0, none⟩, x.m, d, ⟨x.t.pg.set i ⟨(G : Int), U, a⟩, x.t.sg.set G (fillT x.t.sl (U + 1) (x.t.nw + 1)), x.t.sl, x.t.nw + 1⟩⟩, by rw [Hx0.out], Hfin.out.1, by rw [if_pos Hx0.out, HT.out], Hfin.out.2.2⟩
end Go.Proofs.Ythbcgbbcoanbdaa
