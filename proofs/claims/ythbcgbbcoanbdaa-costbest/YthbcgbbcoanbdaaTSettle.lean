/-
  Package table: Settle.
-/
import Derived.Test.YthbcgbbcoanbdaaTFree
namespace Go.Proofs.Ythbcgbbcoanbdaa
open Go Go.RowKit

/-- A segment as Settle makes it. -/
def stlT (t : Tb) (op : Int) (i : Nat) : Tr := if topN t i t.pg.length = 0 then noT else if (i : Int) = op then fillT t.sl (topN t i t.pg.length) (atS t.sg i).c else fillT t.sl t.sl (atS t.sg i).c
/-- Behind some rounds. -/
def part (t : Tb) (op : Int) (j : Nat) : List Tr := (List.range t.sg.length).map fun i => if i < j then stlT t op i else atS t.sg i
def setlT (t : Tb) (op : Int) : Tb := ⟨t.pg, (List.range t.sg.length).map (stlT t op), t.sl, t.nw⟩
theorem part_len (t : Tb) (op : Int) (j : Nat) : (part t op j).length = t.sg.length := by simp [part]
theorem part_at {t : Tb} {op : Int} {j i : Nat} (hi : i < t.sg.length) : atS (part t op j) i = if i < j then stlT t op i else atS t.sg i := atS_map hi
theorem part_zero (t : Tb) (op : Int) : part t op 0 = t.sg := by
  refine atS_ext (part_len t op 0) (fun i hi => ?_)
  rw [part_len] at hi
  rw [part_at hi, if_neg (by omega)]
theorem part_succ {t : Tb} {op : Int} {j : Nat} (hj : j < t.sg.length) : part t op (j + 1) = (part t op j).set j (stlT t op j) := by
  refine atS_ext (by rw [part_len, List.length_set, part_len]) (fun i hi => ?_)
  rw [part_len] at hi
  rw [part_at hi, atS_set (by rw [part_len]; exact hj), part_at hi]
  by_cases h : i = j
  · subst h; rw [if_pos (by omega), if_pos rfl]
  · by_cases h2 : i < j
    · rw [if_pos (by omega), if_neg h, if_pos h2]
    · rw [if_neg (by omega), if_neg h, if_neg h2]
theorem part_all (t : Tb) (op : Int) : part t op t.sg.length = (setlT t op).sg := by
  refine atS_ext (by simp [part, setlT]) (fun i hi => ?_)
  rw [part_len] at hi
  rw [part_at hi, if_pos hi]
  exact (atS_map hi).symm
theorem topN_congr {t u : Tb} (h : t.pg = u.pg) (seg : Int) : ∀ j, topN t seg j = topN u seg j
  | 0 => rfl
  | j + 1 => by rw [topN, topN, topN_congr h seg j, h]
/-- The slots of pages that are somewhere. -/
theorem Tb.May.slots {t : Tb} (h : t.May) : ∀ j, j < t.pg.length → 0 ≤ (atS t.pg j).a → 0 ≤ (atS t.pg j).b ∧ (atS t.pg j).b ≤ 16 := fun j hj h0 => by
  have := h.page hj h0
  have := h.k2
  omega

set_option maxRecDepth 100000 in
set_option maxHeartbeats 6400000 in
theorem settle_ok (w : World) (x : TV) (h : x.At w) (hn : x.n ≤ 1000) (hm : x.m ≤ 1000) (op : Int) :
    Calls Try.prog 31 #[.agg #[.slice x.P x.n x.c, .slice x.S x.m x.d, .int .i64 x.t.sl, .int .i64 x.t.nw], .int .i64 op] w fun e w' => TbAns w w' (if mayB x.t = true then 0 else 1) (setlT x.t op) e := by
  obtain ⟨w1, hw1⟩ : ∃ w1, (w.alloc (.cells #[.slice x.P x.n x.c, .slice x.S x.m x.d, .int .i64 x.t.sl, .int .i64 x.t.nw] 27)).alloc (.cells #[.slice none 0 0, .slice none 0 0, .int .i64 0, .int .i64 0] 27) = w1 := ⟨_, rfl⟩
  have hb : Bxs w w1 x := by
    rw [← hw1]
    refine ⟨(TBx.new w x).keep ((Mod.refl _ _).alloc _), ?_, ((Mod.refl _ w).alloc _).alloc _, by simp⟩
    have := TBx.new (w.alloc (.cells #[.slice x.P x.n x.c, .slice x.S x.m x.d, .int .i64 x.t.sl, .int .i64 x.t.nw] 27)) z0
    rw [World.size_alloc] at this
    exact this
  obtain ⟨c0, c1, c2, c3⟩ := hb.b1.cells
  have HB := Lib.hid hb
  have HX := Lib.hid (h.keep hb.old)
  have Hm := Lib.hid (tmay_ok w1 x HX.out hn hm)
  have Hpl : Hid (x.t.pg.length = x.n) := h.pg.len
  have Hsl : Hid (x.t.sg.length = x.m) := h.sg.len
  have Hcp := Lib.hid (fun W (hW : x.At W) => copied_ok W x hW hn hm)
  clear hb h
  by_cases hy : mayB x.t = true
  rotate_left
  · rw [if_neg hy]
    rw [show mayB x.t = false by simpa using hy] at Hm
    clear hy
    go_enter Try.func31, Try.ntmps31
    go_wp2_with fail
    refine Hm.out.mono ?_
    rintro e w2 ⟨rfl, hm2⟩
    have HB2 := Lib.hid (HB.out.keep hm2)
    clear hm2 hw1 c0 c1 c2 c3
    have fz0 := (HB2.out).b2.frozen 0
    have fz1 := (HB2.out).b2.frozen 1
    have fz2 := (HB2.out).b2.frozen 2
    have fz3 := (HB2.out).b2.frozen 3
    obtain ⟨z0c, z1c, z2c, z3c⟩ := (HB2.out).b2.cells
    have herr := (HB2.out).err
    obtain ⟨wf, hwf⟩ : ∃ wf, stT w2 (w.heap.size + 1) z0 = wf := ⟨_, rfl⟩
    rw [hwf] at herr
    unfold stT at hwf
    have Herr := Lib.hid herr
    have hwf : ((((w2).setCell ⟨w.heap.size + 1, 0, none⟩ (.slice none 0 0)).setCell ⟨w.heap.size + 1, 1, none⟩ (.slice none 0 0)).setCell ⟨w.heap.size + 1, 2, none⟩ (.int .i64 0)).setCell ⟨w.heap.size + 1, 3, none⟩ (.int .i64 0) = wf := hwf
    clear herr
    go_wp2
    clear hwf fz0 fz1 fz2 fz3 z0c z1c z2c z3c
    have q0 : wf.cell? ⟨w.heap.size + 1, 0, none⟩ = some (.slice none 0 0) := Herr.out.1.cells.1
    have q1 : wf.cell? ⟨w.heap.size + 1, 1, none⟩ = some (.slice none 0 0) := Herr.out.1.cells.2.1
    have q2 : wf.cell? ⟨w.heap.size + 1, 2, none⟩ = some (.int .i64 0) := Herr.out.1.cells.2.2.1
    have q3 : wf.cell? ⟨w.heap.size + 1, 3, none⟩ = some (.int .i64 0) := Herr.out.1.cells.2.2.2
    refine bodyPost_ret (v := .tuple #[.agg #[.slice none 0 0, .slice none 0 0, .int .i64 0, .int .i64 0], .int .i64 1]) (by simp [results, Try.results31, go_sem, q0, q1, q2, q3]) rfl ?_
    exact ⟨z0, rfl, z0_at _, rfl, Herr.out.2⟩
  rw [if_pos hy]
  rw [hy] at Hm
  have Hmay := Lib.hid (mayB_iff.1 hy)
  clear hy
  have hpn := Hmay.out.p1
  have hsn := Hmay.out.s1
  rw [Hpl.out] at hpn
  rw [Hsl.out] at hsn
  have Hslo := Lib.hid Hmay.out.slots
  have HT : Hid ((⟨x.t.pg, part x.t op x.m, x.t.sl, x.t.nw⟩ : Tb) = setlT x.t op) := by
    have := part_all x.t op
    rw [Hsl.out] at this
    show _ = _
    rw [this]
    rfl
  go_enter Try.func31, Try.ntmps31
  go_wp2_with fail
  refine Hm.out.mono ?_
  rintro e w2 ⟨rfl, hm2⟩
  have HB2 := Lib.hid (HB.out.keep hm2)
  have HX2 := Lib.hid (HX.out.keep hm2)
  obtain ⟨d0, d1, d2, d3⟩ := HB2.out.b1.cells
  clear hm2 hw1 c0 c1 c2 c3
  go_wp2_with fail
  refine (Hcp.out _ HX2.out).mono ?_
  rintro e w6 ⟨P, c, S, d, rfl, hown, hm6⟩
  have hb6 := HB2.out.keep hm6
  have hfr := Fr.start hb6 hown HB2.out.sz
  have f0 := hb6.b1.frozen 0
  have f1 := hb6.b1.frozen 1
  have f2 := hb6.b1.frozen 2
  have f3 := hb6.b1.frozen 3
  clear d0 d1 d2 d3
  obtain ⟨d0, d1, d2, d3⟩ := hb6.b1.cells
  obtain ⟨w7, hw7⟩ : ∃ w7, stT w6 w.heap.size ⟨P, x.n, c, S, x.m, d, x.t⟩ = w7 := ⟨_, rfl⟩
  rw [hw7] at hfr
  unfold stT at hw7
  obtain ⟨gP, gS, hP, hS, hne, hbP, hbS, hlP, hlS⟩ := hfr.rows (by show 0 < x.n; omega) (by show 0 < x.m; omega)
  replace hP : P = some ⟨gP, 0, none⟩ := hP
  replace hS : S = some ⟨gS, 0, none⟩ := hS
  subst hP
  subst hS
  have hw7 : (((w6.setCell ⟨w.heap.size, 0, none⟩ (.slice (some ⟨gP, 0, none⟩) x.n c)).setCell ⟨w.heap.size, 1, none⟩ (.slice (some ⟨gS, 0, none⟩) x.m d)).setCell ⟨w.heap.size, 2, none⟩ (.int .i64 x.t.sl)).setCell ⟨w.heap.size, 3, none⟩ (.int .i64 x.t.nw) = w7 := hw7
  obtain ⟨r0, r1, r2, r3⟩ := hfr.bx.b1.cells
  have Hne := Lib.hid hne
  clear hne
  have HF0 : Hid (Fr w w7 ⟨some ⟨gP, 0, none⟩, x.n, c, some ⟨gS, 0, none⟩, x.m, d, ⟨x.t.pg, part x.t op 0, x.t.sl, x.t.nw⟩⟩) := by rw [part_zero]; exact hfr
  clear hfr hown hm6 hb6
  go_wp2
  clear hw7 d0 d1 d2 d3 r0 r1 r2 r3 f0 f1 f2 f3
  go_loopw [18] (fun k wr => ∃ j : Nat, j ≤ x.m ∧ k = .int .i64 j ∧ Fr w wr ⟨some ⟨gP, 0, none⟩, x.n, c, some ⟨gS, 0, none⟩, x.m, d, ⟨x.t.pg, part x.t op j, x.t.sl, x.t.nw⟩⟩) (fun k _ => x.m - (intOf k).toNat)
  case atStart => exact ⟨0, Nat.zero_le _, rfl, HF0.out⟩
  case round =>
    obtain ⟨j, hj, rfl, hfj⟩ := hrel
    have HFj := Lib.hid hfj
    by_cases hlt : j < x.m
    · have hlr := hfj.rows (by show 0 < x.n; omega) (by show 0 < x.m; omega)
      obtain ⟨gP', gS', eP, eS, _, _, _, hlP', hlS'⟩ := hlr
      have hgS : gS < wr.heap.size := by
        injection eS with eS
        injection eS with eS _ _
        omega
      obtain ⟨s0, s1, s2⟩ := hfj.cellsS rfl (j := j) (by show j < x.m; omega)
      have hats : atS (part x.t op j) j = atS x.t.sg j := by rw [part_at (by rw [Hsl.out]; exact hlt), if_neg (by omega)]
      replace s0 : wr.cell? ⟨gS, j * 3, none⟩ = some (.int .i64 (atS x.t.sg j).a) := hats ▸ s0
      replace s1 : wr.cell? ⟨gS, j * 3 + 1, none⟩ = some (.int .i64 (atS x.t.sg j).b) := hats ▸ s1
      replace s2 : wr.cell? ⟨gS, j * 3 + 2, none⟩ = some (.int .i64 (atS x.t.sg j).c) := hats ▸ s2
      have Hst : Hid (stlT x.t op j = if topN x.t j x.n = 0 then noT else if (j : Int) = op then fillT x.t.sl (topN x.t j x.n) (atS x.t.sg j).c else fillT x.t.sl x.t.sl (atS x.t.sg j).c) := by rw [← Hpl.out]; exact Lib.hid rfl
      have Hps := Lib.hid (part_succ (t := x.t) (op := op) (j := j) (by rw [Hsl.out]; exact hlt))
      generalize hT : atS x.t.sg j = s at *
      clear hats hfj hlP' hlS' eP eS hT
      obtain ⟨w2', hw2'⟩ : ∃ w2', wr.alloc (.cells #[.int .i64 s.a, .int .i64 s.b, .int .i64 s.c] 45) = w2' := ⟨_, rfl⟩
      have hm2' : Mod (fun _ => False) wr w2' := by rw [← hw2']; exact (Mod.refl _ wr).alloc _
      have hsb2 : RBx w2' wr.heap.size 45 s := by rw [← hw2']; exact RBx.new wr _ s
      have HF2 := Lib.hid (HFj.out.keep hm2')
      have HSB2 := Lib.hid hsb2
      obtain ⟨r0, r1, r2, r3⟩ := HF2.out.bx.b1.cells
      have HTP := Lib.hid (top_ok w2' (⟨some ⟨gP, 0, none⟩, x.n, c, some ⟨gS, 0, none⟩, x.m, d, ⟨x.t.pg, part x.t op j, x.t.sl, x.t.nw⟩⟩ : TV) HF2.out.own.at_ hn (j : Int) (by omega) (fun q hq h0 => Hslo.out q (by rw [Hpl.out]; exact hq) h0))
      rw [topN_congr (t := (⟨x.t.pg, part x.t op j, x.t.sl, x.t.nw⟩ : Tb)) (u := x.t) rfl] at HTP
      have HTP : Hid (Calls Try.prog 54 #[.agg #[.slice (some ⟨gP, 0, none⟩) x.n c, .slice (some ⟨gS, 0, none⟩) x.m d, .int .i64 x.t.sl, .int .i64 x.t.nw], .int .i64 j] w2' fun e w' => e = .returned (.int .i64 (topN x.t j x.n)) ∧ Mod (fun _ => False) w2' w') := HTP
      clear hm2' hsb2
      generalize topN x.t j x.n = u at *
      go_wp2_with fail
      clear hw2' s0 s1 s2
      refine HTP.out.mono ?_
      rintro e w3 ⟨rfl, hm3⟩
      have HF3 := Lib.hid (HF2.out.keep hm3)
      have HSB3 := Lib.hid (HSB2.out.keep hm3)
      have M9 : Hid (Mod (fun _ => False) w3 w3.drew) := (Mod.refl _ w3).drew
      have hjm : (j : Int) < (x.m : Int) := by omega
      have hj0 : (0 : Int) ≤ (j : Int) := by omega
      clear hm3 r0 r1 r2 r3 HTP
      by_cases hu : u = 0
      · have hdu : (u == 0) = true := by simpa using hu
        have Hpt : Hid (part x.t op (j + 1) = (part x.t op j).set j noT) := by rw [Hps.out, Hst.out, if_pos hu]; exact Lib.hid rfl
        clear hu
        go_wp2_with fail
        refine wp_region_held (S := (fun W : World => (W.cell? ⟨w.heap.size, 0, none⟩ = some (.slice (some ⟨gP, 0, none⟩) x.n c) ∧ W.cell? ⟨w.heap.size, 1, none⟩ = some (.slice (some ⟨gS, 0, none⟩) x.m d) ∧ W.cell? ⟨w.heap.size, 2, none⟩ = some (.int .i64 x.t.sl) ∧ W.cell? ⟨w.heap.size, 3, none⟩ = some (.int .i64 x.t.nw)) ∧ W.cell? ⟨wr.heap.size, 2, none⟩ = some (.int .i64 s.c))) (by kernel_rfl) ?_
        have hI := (show (fun W : World => (W.cell? ⟨w.heap.size, 0, none⟩ = some (.slice (some ⟨gP, 0, none⟩) x.n c) ∧ W.cell? ⟨w.heap.size, 1, none⟩ = some (.slice (some ⟨gS, 0, none⟩) x.m d) ∧ W.cell? ⟨w.heap.size, 2, none⟩ = some (.int .i64 x.t.sl) ∧ W.cell? ⟨w.heap.size, 3, none⟩ = some (.int .i64 x.t.nw)) ∧ W.cell? ⟨wr.heap.size, 2, none⟩ = some (.int .i64 s.c)) _ from ⟨(HF3.out.keep M9.out).bx.b1.cells, (HSB3.out.keep M9.out).cells.2.2⟩)
        refine rg_take (n := 5) (v := ?_) 0 (some 39) rfl rfl (by kernel_rfl) (by kernel_rfl) (by kernel_rfl) (fun _ _ _ h => h) (by rfl) hI ?_ ?_
        rotate_left
        · ((intro w hSw; (try dsimp only at hSw); go_simp); (try with_reducible rfl))
        try simp only [Act.put, List.setIfInBounds_toArray, List.set_cons_zero, List.set_cons_succ]
        refine rg_take (n := 4) (v := ?_) 1 (some 40) rfl rfl (by kernel_rfl) (by kernel_rfl) (by kernel_rfl) (fun _ _ _ h => h) (by rfl) hI ?_ ?_
        rotate_left
        · ((intro w hSw; (try dsimp only at hSw); go_simp); (try with_reducible rfl))
        try simp only [Act.put, List.setIfInBounds_toArray, List.set_cons_zero, List.set_cons_succ]
        refine rg_take (n := 3) (v := ?_) 2 (some 41) rfl rfl (by kernel_rfl) (by kernel_rfl) (by kernel_rfl) (fun _ _ _ h => h) (by rfl) hI ?_ ?_
        rotate_left
        · ((intro w hSw; (try dsimp only at hSw); go_simp); (try with_reducible rfl))
        try simp only [Act.put, List.setIfInBounds_toArray, List.set_cons_zero, List.set_cons_succ]
        refine rg_one (n := 2) 3 rfl (by kernel_rfl) (by rfl) ?_
        go_simp
        go_at_call 29
        refine (free_ok _).mono ?_
        rintro e w10 ⟨rfl, hm10⟩
        have hf10 := (HF3.out.keep M9.out).keep hm10
        have hf11 := hf10.setS rfl rfl Hne.out (by show j < x.m; omega) (noT)
        have fS := fun q => (hf10.frozen (by show 0 < x.n; omega) (by show 0 < x.m; omega) rfl rfl q).2
        have fS0 := fS (j * 3)
        have fS1 := fS (j * 3 + 1)
        have fS2 := fS (j * 3 + 2)
        obtain ⟨s0, s1, s2⟩ := hf10.cellsS rfl (j := j) (by show j < x.m; omega)
        have hsb := (HSB3.out.keep M9.out).keep hm10
        have hsb11 := hsb.mod (st3_mod w10 gS j (noT)) (fun e => by omega)
        obtain ⟨w11, hw11⟩ : ∃ w11, st3 w10 gS j (noT) = w11 := ⟨_, rfl⟩
        rw [hw11] at hf11 hsb11
        unfold st3 at hw11
        have hw11 : ((w10.setCell ⟨gS, j * 3, none⟩ (.int .i64 0)).setCell ⟨gS, j * 3 + 1, none⟩ (.int .i64 0)).setCell ⟨gS, j * 3 + 2, none⟩ (.int .i64 0) = w11 := hw11
        have HF11 := Lib.hid hf11
        have hI10 := hf10.bx.b1.cells
        have hI11 := hf11.bx.b1.cells
        have hJ10 := hsb.cells.2.2
        have hJ11 := hsb11.cells.2.2
        clear hm10 hf10 hf11 fS hsb hsb11
        clear hI
        have hI := (show (fun W : World => (W.cell? ⟨w.heap.size, 0, none⟩ = some (.slice (some ⟨gP, 0, none⟩) x.n c) ∧ W.cell? ⟨w.heap.size, 1, none⟩ = some (.slice (some ⟨gS, 0, none⟩) x.m d) ∧ W.cell? ⟨w.heap.size, 2, none⟩ = some (.int .i64 x.t.sl) ∧ W.cell? ⟨w.heap.size, 3, none⟩ = some (.int .i64 x.t.nw)) ∧ W.cell? ⟨wr.heap.size, 2, none⟩ = some (.int .i64 s.c)) _ from ⟨hI10, hJ10⟩)
        refine ⟨hI, ?_⟩
        refine rg_take (n := 1) (v := ?_) 4 (some 43) rfl rfl (by kernel_rfl) (by kernel_rfl) (by kernel_rfl) (fun _ _ _ h => h) (by rfl) hI ?_ ?_
        rotate_left
        · ((intro w hSw; (try dsimp only at hSw); go_simp); (try with_reducible rfl))
        try simp only [Act.put, List.setIfInBounds_toArray, List.set_cons_zero, List.set_cons_succ]
        refine rg_one (n := 0) 5 rfl (by kernel_rfl) (by rfl) ?_
        go_simp
        clear hI
        have hI := (show (fun W : World => (W.cell? ⟨w.heap.size, 0, none⟩ = some (.slice (some ⟨gP, 0, none⟩) x.n c) ∧ W.cell? ⟨w.heap.size, 1, none⟩ = some (.slice (some ⟨gS, 0, none⟩) x.m d) ∧ W.cell? ⟨w.heap.size, 2, none⟩ = some (.int .i64 x.t.sl) ∧ W.cell? ⟨w.heap.size, 3, none⟩ = some (.int .i64 x.t.nw)) ∧ W.cell? ⟨wr.heap.size, 2, none⟩ = some (.int .i64 s.c)) _ from ⟨hI11, hJ11⟩)
        first | refine ⟨hI, ?_⟩ | skip
        try simp only [Act.put]
        clear hI10 hI11 hJ10 hJ11
        refine wpAnyH_done (by kernel_rfl) ?_ _
        clear hI
        clear hw11 s0 s1 s2 fS0 fS1 fS2
        have HFn : Hid (Fr w w11 ⟨some ⟨gP, 0, none⟩, x.n, c, some ⟨gS, 0, none⟩, x.m, d, ⟨x.t.pg, part x.t op (j + 1), x.t.sl, x.t.nw⟩⟩) := by
          have := HF11.out
          rw [Hpt.out]
          exact this
        go_wp2
        go_roundw
        case rel => exact ⟨j + 1, by omega, by go_num, HFn.out⟩
        case measure => simp [intOf]; omega
      · have hdu : (u == 0) = false := by simpa using hu
        by_cases ho : (j : Int) = op
        · have hdo : ((j : Int) == op) = true := by simpa using ho
          have Hpt : Hid (part x.t op (j + 1) = (part x.t op j).set j (fillT x.t.sl u s.c)) := by rw [Hps.out, Hst.out, if_neg hu, if_pos ho]; exact Lib.hid rfl
          clear hu ho
          go_wp2_with fail
          refine wp_region_held (S := (fun W : World => (W.cell? ⟨w.heap.size, 0, none⟩ = some (.slice (some ⟨gP, 0, none⟩) x.n c) ∧ W.cell? ⟨w.heap.size, 1, none⟩ = some (.slice (some ⟨gS, 0, none⟩) x.m d) ∧ W.cell? ⟨w.heap.size, 2, none⟩ = some (.int .i64 x.t.sl) ∧ W.cell? ⟨w.heap.size, 3, none⟩ = some (.int .i64 x.t.nw)) ∧ W.cell? ⟨wr.heap.size, 2, none⟩ = some (.int .i64 s.c))) (by kernel_rfl) ?_
          have hI := (show (fun W : World => (W.cell? ⟨w.heap.size, 0, none⟩ = some (.slice (some ⟨gP, 0, none⟩) x.n c) ∧ W.cell? ⟨w.heap.size, 1, none⟩ = some (.slice (some ⟨gS, 0, none⟩) x.m d) ∧ W.cell? ⟨w.heap.size, 2, none⟩ = some (.int .i64 x.t.sl) ∧ W.cell? ⟨w.heap.size, 3, none⟩ = some (.int .i64 x.t.nw)) ∧ W.cell? ⟨wr.heap.size, 2, none⟩ = some (.int .i64 s.c)) _ from ⟨(HF3.out.keep M9.out).bx.b1.cells, (HSB3.out.keep M9.out).cells.2.2⟩)
          refine rg_take (n := 9) (v := ?_) 0 (some 48) rfl rfl (by kernel_rfl) (by kernel_rfl) (by kernel_rfl) (fun _ _ _ h => h) (by rfl) hI ?_ ?_
          rotate_left
          · ((intro w hSw; (try dsimp only at hSw); go_simp); (try with_reducible rfl))
          try simp only [Act.put, List.setIfInBounds_toArray, List.set_cons_zero, List.set_cons_succ]
          refine rg_take (n := 8) (v := ?_) 1 (some 49) rfl rfl (by kernel_rfl) (by kernel_rfl) (by kernel_rfl) (fun _ _ _ h => h) (by rfl) hI ?_ ?_
          rotate_left
          · ((intro w hSw; (try dsimp only at hSw); go_simp); (try with_reducible rfl))
          try simp only [Act.put, List.setIfInBounds_toArray, List.set_cons_zero, List.set_cons_succ]
          refine rg_take (n := 7) (v := ?_) 2 (some 50) rfl rfl (by kernel_rfl) (by kernel_rfl) (by kernel_rfl) (fun _ _ _ h => h) (by rfl) hI ?_ ?_
          rotate_left
          · ((intro w hSw; (try dsimp only at hSw); go_simp); (try with_reducible rfl))
          try simp only [Act.put, List.setIfInBounds_toArray, List.set_cons_zero, List.set_cons_succ]
          refine rg_take (n := 6) (v := ?_) 3 (some 51) rfl rfl (by kernel_rfl) (by kernel_rfl) (by kernel_rfl) (fun _ _ _ h => h) (by rfl) hI ?_ ?_
          rotate_left
          · ((intro w hSw; (try dsimp only at hSw); go_simp); (try with_reducible rfl))
          try simp only [Act.put, List.setIfInBounds_toArray, List.set_cons_zero, List.set_cons_succ]
          refine rg_take (n := 5) (v := ?_) 4 (some 52) rfl rfl (by kernel_rfl) (by kernel_rfl) (by kernel_rfl) (fun _ _ _ h => h) (by rfl) hI ?_ ?_
          rotate_left
          · ((intro w hSw; (try dsimp only at hSw); go_simp); (try with_reducible rfl))
          try simp only [Act.put, List.setIfInBounds_toArray, List.set_cons_zero, List.set_cons_succ]
          refine rg_take (n := 4) (v := ?_) 5 (some 53) rfl rfl (by kernel_rfl) (by kernel_rfl) (by kernel_rfl) (fun _ _ _ h => h) (by rfl) hI ?_ ?_
          rotate_left
          · ((intro w hSw; (try dsimp only at hSw); go_simp); (try with_reducible rfl))
          try simp only [Act.put, List.setIfInBounds_toArray, List.set_cons_zero, List.set_cons_succ]
          refine rg_take (n := 3) (v := ?_) 6 (some 54) rfl rfl (by kernel_rfl) (by kernel_rfl) (by kernel_rfl) (fun _ _ _ h => h) (by rfl) hI ?_ ?_
          rotate_left
          · ((intro w hSw; (try dsimp only at hSw); go_simp); (try with_reducible rfl))
          try simp only [Act.put, List.setIfInBounds_toArray, List.set_cons_zero, List.set_cons_succ]
          refine rg_one (n := 2) 7 rfl (by kernel_rfl) (by rfl) ?_
          go_simp
          go_at_call 47
          refine (filled_ok _ (⟨some ⟨gP, 0, none⟩, x.n, c, some ⟨gS, 0, none⟩, x.m, d, ⟨x.t.pg, part x.t op j, x.t.sl, x.t.nw⟩⟩ : TV) u s.c).mono ?_
          rintro e w10 ⟨rfl, hm10⟩
          have hf10 := (HF3.out.keep M9.out).keep hm10
          have hf11 := hf10.setS rfl rfl Hne.out (by show j < x.m; omega) (fillT x.t.sl u s.c)
          have fS := fun q => (hf10.frozen (by show 0 < x.n; omega) (by show 0 < x.m; omega) rfl rfl q).2
          have fS0 := fS (j * 3)
          have fS1 := fS (j * 3 + 1)
          have fS2 := fS (j * 3 + 2)
          obtain ⟨s0, s1, s2⟩ := hf10.cellsS rfl (j := j) (by show j < x.m; omega)
          have hsb := (HSB3.out.keep M9.out).keep hm10
          have hsb11 := hsb.mod (st3_mod w10 gS j (fillT x.t.sl u s.c)) (fun e => by omega)
          obtain ⟨w11, hw11⟩ : ∃ w11, st3 w10 gS j (fillT x.t.sl u s.c) = w11 := ⟨_, rfl⟩
          rw [hw11] at hf11 hsb11
          unfold st3 at hw11
          have HF11 := Lib.hid hf11
          have hI10 := hf10.bx.b1.cells
          have hI11 := hf11.bx.b1.cells
          have hJ10 := hsb.cells.2.2
          have hJ11 := hsb11.cells.2.2
          clear hm10 hf10 hf11 fS hsb hsb11
          clear hI
          have hI := (show (fun W : World => (W.cell? ⟨w.heap.size, 0, none⟩ = some (.slice (some ⟨gP, 0, none⟩) x.n c) ∧ W.cell? ⟨w.heap.size, 1, none⟩ = some (.slice (some ⟨gS, 0, none⟩) x.m d) ∧ W.cell? ⟨w.heap.size, 2, none⟩ = some (.int .i64 x.t.sl) ∧ W.cell? ⟨w.heap.size, 3, none⟩ = some (.int .i64 x.t.nw)) ∧ W.cell? ⟨wr.heap.size, 2, none⟩ = some (.int .i64 s.c)) _ from ⟨hI10, hJ10⟩)
          refine ⟨hI, ?_⟩
          refine rg_take (n := 1) (v := ?_) 8 (some 56) rfl rfl (by kernel_rfl) (by kernel_rfl) (by kernel_rfl) (fun _ _ _ h => h) (by rfl) hI ?_ ?_
          rotate_left
          · ((intro w hSw; (try dsimp only at hSw); go_simp); (try with_reducible rfl))
          try simp only [Act.put, List.setIfInBounds_toArray, List.set_cons_zero, List.set_cons_succ]
          refine rg_one (n := 0) 9 rfl (by kernel_rfl) (by rfl) ?_
          go_simp
          clear hI
          have hI := (show (fun W : World => (W.cell? ⟨w.heap.size, 0, none⟩ = some (.slice (some ⟨gP, 0, none⟩) x.n c) ∧ W.cell? ⟨w.heap.size, 1, none⟩ = some (.slice (some ⟨gS, 0, none⟩) x.m d) ∧ W.cell? ⟨w.heap.size, 2, none⟩ = some (.int .i64 x.t.sl) ∧ W.cell? ⟨w.heap.size, 3, none⟩ = some (.int .i64 x.t.nw)) ∧ W.cell? ⟨wr.heap.size, 2, none⟩ = some (.int .i64 s.c)) _ from ⟨hI11, hJ11⟩)
          first | refine ⟨hI, ?_⟩ | skip
          try simp only [Act.put]
          clear hI10 hI11 hJ10 hJ11
          refine wpAnyH_done (by kernel_rfl) ?_ _
          clear hI
          clear hw11 s0 s1 s2 fS0 fS1 fS2
          have HFn : Hid (Fr w w11 ⟨some ⟨gP, 0, none⟩, x.n, c, some ⟨gS, 0, none⟩, x.m, d, ⟨x.t.pg, part x.t op (j + 1), x.t.sl, x.t.nw⟩⟩) := by
            have := HF11.out
            rw [Hpt.out]
            exact this
          go_wp2
          go_roundw
          case rel => exact ⟨j + 1, by omega, by go_num, HFn.out⟩
          case measure => simp [intOf]; omega
        · have hdo : ((j : Int) == op) = false := by simpa using ho
          have Hpt : Hid (part x.t op (j + 1) = (part x.t op j).set j (fillT x.t.sl x.t.sl s.c)) := by rw [Hps.out, Hst.out, if_neg hu, if_neg ho]; exact Lib.hid rfl
          clear hu ho
          go_wp2_with fail
          refine wp_region_held (S := (fun W : World => (W.cell? ⟨w.heap.size, 0, none⟩ = some (.slice (some ⟨gP, 0, none⟩) x.n c) ∧ W.cell? ⟨w.heap.size, 1, none⟩ = some (.slice (some ⟨gS, 0, none⟩) x.m d) ∧ W.cell? ⟨w.heap.size, 2, none⟩ = some (.int .i64 x.t.sl) ∧ W.cell? ⟨w.heap.size, 3, none⟩ = some (.int .i64 x.t.nw)) ∧ W.cell? ⟨wr.heap.size, 2, none⟩ = some (.int .i64 s.c))) (by kernel_rfl) ?_
          have hI := (show (fun W : World => (W.cell? ⟨w.heap.size, 0, none⟩ = some (.slice (some ⟨gP, 0, none⟩) x.n c) ∧ W.cell? ⟨w.heap.size, 1, none⟩ = some (.slice (some ⟨gS, 0, none⟩) x.m d) ∧ W.cell? ⟨w.heap.size, 2, none⟩ = some (.int .i64 x.t.sl) ∧ W.cell? ⟨w.heap.size, 3, none⟩ = some (.int .i64 x.t.nw)) ∧ W.cell? ⟨wr.heap.size, 2, none⟩ = some (.int .i64 s.c)) _ from ⟨(HF3.out.keep M9.out).bx.b1.cells, (HSB3.out.keep M9.out).cells.2.2⟩)
          refine rg_take (n := 10) (v := ?_) 0 (some 26) rfl rfl (by kernel_rfl) (by kernel_rfl) (by kernel_rfl) (fun _ _ _ h => h) (by rfl) hI ?_ ?_
          rotate_left
          · ((intro w hSw; (try dsimp only at hSw); go_simp); (try with_reducible rfl))
          try simp only [Act.put, List.setIfInBounds_toArray, List.set_cons_zero, List.set_cons_succ]
          refine rg_take (n := 9) (v := ?_) 1 (some 27) rfl rfl (by kernel_rfl) (by kernel_rfl) (by kernel_rfl) (fun _ _ _ h => h) (by rfl) hI ?_ ?_
          rotate_left
          · ((intro w hSw; (try dsimp only at hSw); go_simp); (try with_reducible rfl))
          try simp only [Act.put, List.setIfInBounds_toArray, List.set_cons_zero, List.set_cons_succ]
          refine rg_take (n := 8) (v := ?_) 2 (some 28) rfl rfl (by kernel_rfl) (by kernel_rfl) (by kernel_rfl) (fun _ _ _ h => h) (by rfl) hI ?_ ?_
          rotate_left
          · ((intro w hSw; (try dsimp only at hSw); go_simp); (try with_reducible rfl))
          try simp only [Act.put, List.setIfInBounds_toArray, List.set_cons_zero, List.set_cons_succ]
          refine rg_take (n := 7) (v := ?_) 3 (some 29) rfl rfl (by kernel_rfl) (by kernel_rfl) (by kernel_rfl) (fun _ _ _ h => h) (by rfl) hI ?_ ?_
          rotate_left
          · ((intro w hSw; (try dsimp only at hSw); go_simp); (try with_reducible rfl))
          try simp only [Act.put, List.setIfInBounds_toArray, List.set_cons_zero, List.set_cons_succ]
          refine rg_take (n := 6) (v := ?_) 4 (some 30) rfl rfl (by kernel_rfl) (by kernel_rfl) (by kernel_rfl) (fun _ _ _ h => h) (by rfl) hI ?_ ?_
          rotate_left
          · ((intro w hSw; (try dsimp only at hSw); go_simp); (try with_reducible rfl))
          try simp only [Act.put, List.setIfInBounds_toArray, List.set_cons_zero, List.set_cons_succ]
          refine rg_take (n := 5) (v := ?_) 5 (some 31) rfl rfl (by kernel_rfl) (by kernel_rfl) (by kernel_rfl) (fun _ _ _ h => h) (by rfl) hI ?_ ?_
          rotate_left
          · ((intro w hSw; (try dsimp only at hSw); go_simp); (try with_reducible rfl))
          try simp only [Act.put, List.setIfInBounds_toArray, List.set_cons_zero, List.set_cons_succ]
          refine rg_take (n := 4) (v := ?_) 6 (some 32) rfl rfl (by kernel_rfl) (by kernel_rfl) (by kernel_rfl) (fun _ _ _ h => h) (by rfl) hI ?_ ?_
          rotate_left
          · ((intro w hSw; (try dsimp only at hSw); go_simp); (try with_reducible rfl))
          try simp only [Act.put, List.setIfInBounds_toArray, List.set_cons_zero, List.set_cons_succ]
          refine rg_take (n := 3) (v := ?_) 7 (some 33) rfl rfl (by kernel_rfl) (by kernel_rfl) (by kernel_rfl) (fun _ _ _ h => h) (by rfl) hI ?_ ?_
          rotate_left
          · ((intro w hSw; (try dsimp only at hSw); go_simp); (try with_reducible rfl))
          try simp only [Act.put, List.setIfInBounds_toArray, List.set_cons_zero, List.set_cons_succ]
          refine rg_one (n := 2) 8 rfl (by kernel_rfl) (by rfl) ?_
          go_simp
          go_at_call 47
          refine (filled_ok _ (⟨some ⟨gP, 0, none⟩, x.n, c, some ⟨gS, 0, none⟩, x.m, d, ⟨x.t.pg, part x.t op j, x.t.sl, x.t.nw⟩⟩ : TV) x.t.sl s.c).mono ?_
          rintro e w10 ⟨rfl, hm10⟩
          have hf10 := (HF3.out.keep M9.out).keep hm10
          have hf11 := hf10.setS rfl rfl Hne.out (by show j < x.m; omega) (fillT x.t.sl x.t.sl s.c)
          have fS := fun q => (hf10.frozen (by show 0 < x.n; omega) (by show 0 < x.m; omega) rfl rfl q).2
          have fS0 := fS (j * 3)
          have fS1 := fS (j * 3 + 1)
          have fS2 := fS (j * 3 + 2)
          obtain ⟨s0, s1, s2⟩ := hf10.cellsS rfl (j := j) (by show j < x.m; omega)
          have hsb := (HSB3.out.keep M9.out).keep hm10
          have hsb11 := hsb.mod (st3_mod w10 gS j (fillT x.t.sl x.t.sl s.c)) (fun e => by omega)
          obtain ⟨w11, hw11⟩ : ∃ w11, st3 w10 gS j (fillT x.t.sl x.t.sl s.c) = w11 := ⟨_, rfl⟩
          rw [hw11] at hf11 hsb11
          unfold st3 at hw11
          have HF11 := Lib.hid hf11
          have hI10 := hf10.bx.b1.cells
          have hI11 := hf11.bx.b1.cells
          have hJ10 := hsb.cells.2.2
          have hJ11 := hsb11.cells.2.2
          clear hm10 hf10 hf11 fS hsb hsb11
          clear hI
          have hI := (show (fun W : World => (W.cell? ⟨w.heap.size, 0, none⟩ = some (.slice (some ⟨gP, 0, none⟩) x.n c) ∧ W.cell? ⟨w.heap.size, 1, none⟩ = some (.slice (some ⟨gS, 0, none⟩) x.m d) ∧ W.cell? ⟨w.heap.size, 2, none⟩ = some (.int .i64 x.t.sl) ∧ W.cell? ⟨w.heap.size, 3, none⟩ = some (.int .i64 x.t.nw)) ∧ W.cell? ⟨wr.heap.size, 2, none⟩ = some (.int .i64 s.c)) _ from ⟨hI10, hJ10⟩)
          refine ⟨hI, ?_⟩
          refine rg_take (n := 1) (v := ?_) 9 (some 35) rfl rfl (by kernel_rfl) (by kernel_rfl) (by kernel_rfl) (fun _ _ _ h => h) (by rfl) hI ?_ ?_
          rotate_left
          · ((intro w hSw; (try dsimp only at hSw); go_simp); (try with_reducible rfl))
          try simp only [Act.put, List.setIfInBounds_toArray, List.set_cons_zero, List.set_cons_succ]
          refine rg_one (n := 0) 10 rfl (by kernel_rfl) (by rfl) ?_
          go_simp
          clear hI
          have hI := (show (fun W : World => (W.cell? ⟨w.heap.size, 0, none⟩ = some (.slice (some ⟨gP, 0, none⟩) x.n c) ∧ W.cell? ⟨w.heap.size, 1, none⟩ = some (.slice (some ⟨gS, 0, none⟩) x.m d) ∧ W.cell? ⟨w.heap.size, 2, none⟩ = some (.int .i64 x.t.sl) ∧ W.cell? ⟨w.heap.size, 3, none⟩ = some (.int .i64 x.t.nw)) ∧ W.cell? ⟨wr.heap.size, 2, none⟩ = some (.int .i64 s.c)) _ from ⟨hI11, hJ11⟩)
          first | refine ⟨hI, ?_⟩ | skip
          try simp only [Act.put]
          clear hI10 hI11 hJ10 hJ11
          refine wpAnyH_done (by kernel_rfl) ?_ _
          clear hI
          clear hw11 s0 s1 s2 fS0 fS1 fS2
          have HFn : Hid (Fr w w11 ⟨some ⟨gP, 0, none⟩, x.n, c, some ⟨gS, 0, none⟩, x.m, d, ⟨x.t.pg, part x.t op (j + 1), x.t.sl, x.t.nw⟩⟩) := by
            have := HF11.out
            rw [Hpt.out]
            exact this
          go_wp2
          go_roundw
          case rel => exact ⟨j + 1, by omega, by go_num, HFn.out⟩
          case measure => simp [intOf]; omega
    · obtain rfl : j = x.m := by omega
      clear hfj
      have fz0 := HFj.out.bx.b2.frozen 0
      have fz1 := HFj.out.bx.b2.frozen 1
      have fz2 := HFj.out.bx.b2.frozen 2
      have fz3 := HFj.out.bx.b2.frozen 3
      obtain ⟨z0c, z1c, z2c, z3c⟩ := HFj.out.bx.b2.cells
      obtain ⟨r0, r1, r2, r3⟩ := HFj.out.bx.b1.cells
      have hfin := HFj.out.fin
      obtain ⟨w12, hwf⟩ : ∃ w12, stT wr (w.heap.size + 1) (⟨some ⟨gP, 0, none⟩, x.n, c, some ⟨gS, 0, none⟩, x.m, d, ⟨x.t.pg, part x.t op x.m, x.t.sl, x.t.nw⟩⟩ : TV) = w12 := ⟨_, rfl⟩
      rw [hwf] at hfin
      unfold stT at hwf
      have hwf : (((wr.setCell ⟨w.heap.size + 1, 0, none⟩ (.slice (some ⟨gP, 0, none⟩) x.n c)).setCell ⟨w.heap.size + 1, 1, none⟩ (.slice (some ⟨gS, 0, none⟩) x.m d)).setCell ⟨w.heap.size + 1, 2, none⟩ (.int .i64 x.t.sl)).setCell ⟨w.heap.size + 1, 3, none⟩ (.int .i64 x.t.nw) = w12 := hwf
      have Hfin := Lib.hid hfin
      clear hfin
      go_wp2
      clear hwf fz0 fz1 fz2 fz3 z0c z1c z2c z3c r0 r1 r2 r3
      have q0 : w12.cell? ⟨w.heap.size + 1, 0, none⟩ = some (.slice (some ⟨gP, 0, none⟩) x.n c) := Hfin.out.2.1.cells.1
      have q1 : w12.cell? ⟨w.heap.size + 1, 1, none⟩ = some (.slice (some ⟨gS, 0, none⟩) x.m d) := Hfin.out.2.1.cells.2.1
      have q2 : w12.cell? ⟨w.heap.size + 1, 2, none⟩ = some (.int .i64 x.t.sl) := Hfin.out.2.1.cells.2.2.1
      have q3 : w12.cell? ⟨w.heap.size + 1, 3, none⟩ = some (.int .i64 x.t.nw) := Hfin.out.2.1.cells.2.2.2
      refine bodyPost_ret (v := .tuple #[.agg #[.slice (some ⟨gP, 0, none⟩) x.n c, .slice (some ⟨gS, 0, none⟩) x.m d, .int .i64 x.t.sl, .int .i64 x.t.nw], .int .i64 0]) (by simp [results, Try.results31, go_sem, q0, q1, q2, q3]) rfl ?_
      exact ⟨⟨some ⟨gP, 0, none⟩, x.n, c, some ⟨gS, 0, none⟩, x.m, d, ⟨x.t.pg, part x.t op x.m, x.t.sl, x.t.nw⟩⟩, rfl, Hfin.out.1, by rw [if_pos rfl, ← HT.out], Hfin.out.2.2⟩
end Go.Proofs.Ythbcgbbcoanbdaa
