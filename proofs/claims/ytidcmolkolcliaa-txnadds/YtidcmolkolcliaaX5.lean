/-
  Package txn: copied.
-/
import Derived.Test.YtidcmolkolcliaaX4
namespace Go.Proofs.Ytidcmolkolcliaa
open Go Go.RowKit

theorem ChD.Own.rebase {w : World} {base base' : Nat} {x : ChD} (h : x.Own w base) (hb : base' ≤ base) : x.Own w base' :=
  ⟨OwV.rebase h.o (fun k hk => by have := (OwV.lt h.o k hk).1; omega), OwV.rebase h.v (fun k hk => by have := (OwV.lt h.v k hk).1; omega)⟩
theorem OwN.rebase_ {w : World} {base base' : Nat} {e : TypeId} {size : Nat} {A : Option Addr} {n c : Nat} {vs : List Value} (h : OwN w base e size A n c vs) (hb : base' ≤ base) : OwN w base' e size A n c vs := by
  refine ⟨h.1, ?_⟩
  rcases h.2 with hn | ⟨g, cap, cur, hv, hbg, rest⟩
  · exact .inl hn
  · exact .inr ⟨g, cap, cur, hv, by omega, rest⟩
theorem pc_set {l : List ChD} {i : Nat} {y z : ChD} (h : l[i]? = some y) (e : z.p = y.p) : pc (l.set i z) = pc l := by
  unfold pc
  rw [List.map_set, e]
  apply List.ext_getElem?
  intro j
  rw [List.getElem?_set]
  split
  · rename_i hij
    subst hij
    obtain ⟨hl, hy⟩ := List.getElem?_eq_some_iff.1 h
    rw [if_pos (by simpa using hl), List.getElem?_map, h]
    rfl
  · rfl
/-- What lies ahead of a round of copied. -/
structure CpFr (w W : World) (x : TxD) (A : Option Addr) (c : Nat) (i : Nat) (ys : List ChD) : Prop where
  row : OwC W w.heap.size A x.n c ys
  p : pc ys = pc x.L
  done : ∀ k, k < i → ∀ y, ys[k]? = some y → y.Own W w.heap.size
  rest : ∀ k, i ≤ k → ys[k]? = x.L[k]?
  box : (⟨x.id, x.st, x.f, x.l, A, x.n, c, x.L, x.B, x.m, x.d, x.S⟩ : TxD).In W (w.heap.size)
  res : TxD.zero.In W (w.heap.size + 1)
  old : Mod (fun _ => False) w W
  new : ∀ k, blkOf A = some k → w.heap.size + 2 ≤ k
theorem u8_ne_ch : 30 ≠ 5 := by decide
theorem CpFr.step {w W V : World} {x : TxD} {gA : Nat} {c i : Nat} {ys : List ChD} {y z : ChD} (h : CpFr w W x (some ⟨gA, 0, none⟩) c i ys) (hi : i < x.n) (hy : ys[i]? = some y) (hm : Mod (fun _ => False) W V) {b : Nat} (hb : w.heap.size ≤ b) (hz : z.Own V b) (he : z.p = y.p) :
    CpFr w (stC V gA (i * 7) z) x (some ⟨gA, 0, none⟩) c (i + 1) (ys.set i z) := by
  have hg := h.new gA rfl
  have hr := OwN.mod h.row hm (fun _ _ h => h)
  have hs := stC_mod V gA (i * 7) z
  obtain ⟨cs, hcs⟩ := OwN.blk hr (k := gA) rfl
  have hF : ∀ k, k = gA → ∃ cs t fr, V.heap[k]? = some (.cells cs t fr) ∧ t ≠ 5 := by rintro k rfl; exact ⟨cs, _, _, hcs, u8_ne_ch⟩
  have hl := OwC.len h.row
  refine ⟨OwC.store hr hi z, ?_, ?_, ?_, ?_, ?_, ?_, h.new⟩
  · rw [← h.p]; exact pc_set hy he
  · intro k hk u hu
    rw [List.getElem?_set] at hu
    split at hu
    · split at hu
      · have hu := Option.some.inj hu
        rw [← hu]
        exact (hz.far hs hF).rebase hb
      · exact absurd hu (by simp)
    · exact ((h.done k (by omega) u hu).keep hm).far hs hF
  · intro k hk
    rw [List.getElem?_set, if_neg (by omega)]
    exact h.rest k (by omega)
  · exact (h.box.keep hm).mod hs (fun e => by omega)
  · exact (h.res.keep hm).mod hs (fun e => by omega)
  · exact (h.old.trans hm (fun _ _ h => h)).trans hs (fun k _ e => by omega)
set_option maxRecDepth 100000 in
set_option maxHeartbeats 3200000 in
theorem copied_ok (w : World) (x : TxD) (h : x.At w) (hn : x.n ≤ 1000) (hm : x.m ≤ 1000) (hv : ∀ y ∈ x.L, y.o.m ≤ 1000 ∧ y.v.m ≤ 1000) :
    Calls Try.prog 32 #[.agg #[.int .i64 x.id, .int .i64 x.st, .int .i64 x.f, .int .i64 x.l, .slice x.A x.n x.c, .slice x.B x.m x.d]] w fun e w' => ∃ y : TxD, e = .returned (.agg #[.int .i64 y.id, .int .i64 y.st, .int .i64 y.f, .int .i64 y.l, .slice y.A y.n y.c, .slice y.B y.m y.d]) ∧ y.Own w' w.heap.size ∧ y.p = x.p ∧ Mod (fun _ => False) w w' := by
  obtain ⟨w1, hw1⟩ : ∃ w1, (w.alloc (.cells #[.int .i64 x.id, .int .i64 x.st, .int .i64 x.f, .int .i64 x.l, .slice x.A x.n x.c, .slice x.B x.m x.d] 25)).alloc (.cells #[.int .i64 0, .int .i64 0, .int .i64 0, .int .i64 0, .slice none 0 0, .slice none 0 0] 25) = w1 := ⟨_, rfl⟩
  have HB1 : Hid ((x : TxD).In w1 (w.heap.size)) := by
    rw [← hw1]
    have q := TxD.In.new (w) (x)
    exact q.keep ((Mod.refl (fun _ => False) _).alloc _)
  have HR1 : Hid ((TxD.zero : TxD).In w1 (w.heap.size + 1)) := by
    rw [← hw1]
    have q := TxD.In.new (w.alloc (.cells #[.int .i64 x.id, .int .i64 x.st, .int .i64 x.f, .int .i64 x.l, .slice x.A x.n x.c, .slice x.B x.m x.d] 25)) (TxD.zero)
    simp only [World.size_alloc] at q
    exact q.keep (Mod.refl (fun _ => False) _)
  have HM1 : Hid (Mod (fun _ => False) w w1) := by rw [← hw1]; exact ((Mod.refl (fun _ => False) w).alloc _).alloc _
  have hz1 : w.heap.size + 2 ≤ w1.heap.size := by rw [← hw1]; simp
  obtain ⟨c0, c1, c2, c3, c4, c5⟩ := HB1.out.cells
  have HC := Lib.hid (clonec_ok w1 x.A x.n x.c x.L (h.L.keep HM1.out) (by omega))
  have HX := Lib.hid h
  have HV := Lib.hid hv
  have Hm := Lib.hid hm
  clear h hm hv
  go_enter Try.func32, Try.ntmps32
  go_wp2_with fail
  refine HC.out.mono ?_
  rintro e w2 ⟨A, c', rfl, hA, hm2⟩
  have HA := Lib.hid hA
  have HM2 := Lib.hid (HM1.out.trans hm2 (fun _ _ h => h))
  have hz2 := hm2.size
  have HB2 := Lib.hid (HB1.out.keep hm2)
  have HR2 := Lib.hid (HR1.out.keep hm2)
  clear HC hA hm2
  clear c0 c1 c2 c3 c4 c5
  obtain ⟨c0, c1, c2, c3, c4, c5⟩ := HB2.out.cells
  have f4 := HB2.out.fz 4
  obtain ⟨w3, hw3⟩ : ∃ w3, w2.setCell ⟨w.heap.size, 4, none⟩ (.slice A x.n c') = w3 := ⟨_, rfl⟩
  have hs3 : Mod (fun k => k = w.heap.size) w2 w3 := by rw [← hw3]; exact (Mod.refl (fun k => k = w.heap.size) w2).one (fun _ => rfl) _ _
  have HM3 : Hid (Mod (fun _ => False) w w3) := HM2.out.trans hs3 (fun k _ e => by omega)
  have hz3 := hs3.size
  have HB3 : Hid ((⟨x.id, x.st, x.f, x.l, A, x.n, c', x.L, x.B, x.m, x.d, x.S⟩ : TxD).In w3 (w.heap.size)) := by rw [← hw3]; exact heap_set HB2.out 4 (.slice A x.n c')
  have HR3 := Lib.hid (HR2.out.mod hs3 (fun e => by omega))
  have HA3 := Lib.hid (OwN.mod HA.out hs3 (fun k hk e => by have := (OwN.lt HA.out k hk).1; omega))
  obtain ⟨d0, d1, d2, d3, d4, d5⟩ := HB3.out.cells
  have hfr : CpFr w w3 x A c' 0 x.L := ⟨OwN.rebase_ HA3.out (by omega), rfl, fun k hk => absurd hk (by omega), fun _ _ => rfl, HB3.out, HR3.out, HM3.out, fun k hk => by have := (OwN.lt HA.out k hk).1; omega⟩
  have Hfr := Lib.hid hfr
  clear hs3 hfr HA
  clear hw1 HB1 HR1 HB2 HR2 HM1 HM2 HB3 HR3 HM3 HA3
  go_wp2_with fail
  clear hw3 f4 c0 c1 c2 c3 c4 c5
  go_loopw [12] (fun k wr => ∃ (i : Nat) (ys : List ChD), k = .int .i64 i ∧ i ≤ x.n ∧ CpFr w wr x A c' i ys) (fun k _ => x.n - (intOf k).toNat)
  case atStart => exact ⟨0, x.L, rfl, by omega, Hfr.out⟩
  case round =>
    obtain ⟨i, ys, rfl, hi, hf⟩ := hrel
    have HF := Lib.hid hf
    clear hf Hfr d0 d1 d2 d3 d4 d5
    by_cases hlt : i < x.n
    · obtain ⟨y, hy⟩ : ∃ y, ys[i]? = some y := ⟨_, List.getElem?_eq_getElem (by rw [OwC.len HF.out.row]; exact hlt)⟩
      have hyx : x.L[i]? = some y := by rw [← HF.out.rest i (Nat.le_refl _)]; exact hy
      have hyv := HV.out y (List.mem_of_getElem? hyx)
      obtain ⟨gA, cur, hAe, _⟩ := OwN.open_ HF.out.row (by omega)
      subst hAe
      have Hy := Lib.hid hy
      have hgA := (OwN.lt HF.out.row gA rfl).2
      have HSc : Hid (∀ V, Mod (fun _ => False) wr V → V.cell? ⟨gA, i * 7, none⟩ = some (.int .i64 y.lsn) ∧ V.cell? ⟨gA, i * 7 + 1, none⟩ = some (.int .i64 y.page) ∧ V.cell? ⟨gA, i * 7 + 2, none⟩ = some (.int .i64 y.key) ∧ V.cell? ⟨gA, i * 7 + 3, none⟩ = some (.bool y.o.is) ∧ V.cell? ⟨gA, i * 7 + 4, none⟩ = some (.slice y.o.B y.o.m y.o.d) ∧ V.cell? ⟨gA, i * 7 + 5, none⟩ = some (.bool y.v.is) ∧ V.cell? ⟨gA, i * 7 + 6, none⟩ = some (.slice y.v.B y.v.m y.v.d)) := by
        intro V hV
        have hr := OwN.mod HF.out.row hV (fun _ _ h => h)
        obtain ⟨g', hg', hc⟩ := OwN.cells hr (by omega)
        obtain rfl : gA = g' := by simpa using hg'
        have hk : ∀ j, j < 7 → V.cell? ⟨gA, i * 7 + j, none⟩ = (chc y)[j]? := fun j hj => by rw [hc _ (by omega), chs_get ys i y Hy.out j hj]
        exact ⟨hk 0 (by omega), hk 1 (by omega), hk 2 (by omega), hk 3 (by omega), hk 4 (by omega), hk 5 (by omega), hk 6 (by omega)⟩
      obtain ⟨s0, s1, s2, s3, s4, s5, s6⟩ := HSc.out wr (Mod.refl _ wr)
      obtain ⟨w5, hw5⟩ : ∃ w5, wr.alloc (.cells #[.int .i64 y.lsn, .int .i64 y.page, .int .i64 y.key, .bool y.o.is, .slice y.o.B y.o.m y.o.d, .bool y.v.is, .slice y.v.B y.v.m y.v.d] 30) = w5 := ⟨_, rfl⟩
      have HI5 : Hid (y.In w5 wr.heap.size) := by rw [← hw5]; exact ChD.In.new wr y
      have hm5 : Mod (fun _ => False) wr w5 := by rw [← hw5]; exact (Mod.refl _ wr).alloc _
      have HK := Lib.hid (fun V (hV : Mod (fun _ => False) w5 V) => copiedChange_ok V y ((HX.out.keep (HF.out.old.trans (hm5.trans hV (fun _ _ h => h)) (fun _ _ h => h))).L.ats y (List.mem_of_getElem? hyx)) hyv.1 hyv.2)
      have HD : Hid (Mod (fun _ => False) w5 w5.drew) := (Mod.refl _ w5).drew
      have l1 : i < c' := by have := OwN.cap HF.out.row; omega
      generalize hg : wr.heap.size = g at *
      clear hy hyx hyv hi
      go_wp2_with fail
      refine wp_region_held (S := (fun W : World => W.cell? ⟨w.heap.size, 4, none⟩ = some (.slice (some ⟨gA, 0, none⟩) x.n c') ∧ (W.cell? ⟨g, 0, none⟩ = some (.int .i64 y.lsn) ∧ W.cell? ⟨g, 1, none⟩ = some (.int .i64 y.page) ∧ W.cell? ⟨g, 2, none⟩ = some (.int .i64 y.key) ∧ W.cell? ⟨g, 3, none⟩ = some (.bool y.o.is) ∧ W.cell? ⟨g, 4, none⟩ = some (.slice y.o.B y.o.m y.o.d) ∧ W.cell? ⟨g, 5, none⟩ = some (.bool y.v.is) ∧ W.cell? ⟨g, 6, none⟩ = some (.slice y.v.B y.v.m y.v.d)))) (by kernel_rfl) ?_
      have hI := (show (fun W : World => W.cell? ⟨w.heap.size, 4, none⟩ = some (.slice (some ⟨gA, 0, none⟩) x.n c') ∧ (W.cell? ⟨g, 0, none⟩ = some (.int .i64 y.lsn) ∧ W.cell? ⟨g, 1, none⟩ = some (.int .i64 y.page) ∧ W.cell? ⟨g, 2, none⟩ = some (.int .i64 y.key) ∧ W.cell? ⟨g, 3, none⟩ = some (.bool y.o.is) ∧ W.cell? ⟨g, 4, none⟩ = some (.slice y.o.B y.o.m y.o.d) ∧ W.cell? ⟨g, 5, none⟩ = some (.bool y.v.is) ∧ W.cell? ⟨g, 6, none⟩ = some (.slice y.v.B y.v.m y.v.d))) _ from ⟨((HF.out.box.keep hm5).keep HD.out).cells.2.2.2.2.1, (HI5.out.keep HD.out).cells⟩)
      refine rg_take (n := 6) (v := ?_) 0 (some 17) rfl rfl (by kernel_rfl) (by kernel_rfl) (by kernel_rfl) (fun _ _ _ h => h) (by rfl) hI ?_ ?_
      rotate_left
      · ((intro w hSw; (try dsimp only at hSw); go_simp); (try with_reducible rfl))
      try simp only [Act.put, List.setIfInBounds_toArray, List.set_cons_zero, List.set_cons_succ]
      refine rg_take (n := 5) (v := ?_) 1 (some 18) rfl rfl (by kernel_rfl) (by kernel_rfl) (by kernel_rfl) (fun _ _ _ h => h) (by rfl) hI ?_ ?_
      rotate_left
      · ((intro w hSw; (try dsimp only at hSw); go_simp); (try with_reducible rfl))
      try simp only [Act.put, List.setIfInBounds_toArray, List.set_cons_zero, List.set_cons_succ]
      refine rg_take (n := 4) (v := ?_) 2 (some 19) rfl rfl (by kernel_rfl) (by kernel_rfl) (by kernel_rfl) (fun _ _ _ h => h) (by rfl) hI ?_ ?_
      rotate_left
      · ((intro w hSw; (try dsimp only at hSw); go_simp); (try with_reducible rfl))
      try simp only [Act.put, List.setIfInBounds_toArray, List.set_cons_zero, List.set_cons_succ]
      refine rg_take (n := 3) (v := ?_) 3 (some 20) rfl rfl (by kernel_rfl) (by kernel_rfl) (by kernel_rfl) (fun _ _ _ h => h) (by rfl) hI ?_ ?_
      rotate_left
      · ((intro w hSw; (try dsimp only at hSw); go_simp); (try with_reducible rfl))
      try simp only [Act.put, List.setIfInBounds_toArray, List.set_cons_zero, List.set_cons_succ]
      refine rg_one (n := 2) 4 rfl (by kernel_rfl) (by rfl) ?_
      go_simp
      go_at_call 33
      refine (HK.out _ HD.out).mono ?_
      rintro e w6 ⟨z, rfl, hz, hzp, hm6⟩
      have hm6' := HD.out.trans hm6 (fun _ _ h => h)
      have hm6w := hm5.trans hm6' (fun _ _ h => h)
      have HN := Lib.hid (HF.out.step hlt Hy.out hm6w (b := w5.drew.heap.size) (by show w.heap.size ≤ w5.heap.size; exact Nat.le_trans HF.out.old.size hm5.size) hz hzp)
      obtain ⟨w7, hw7⟩ : ∃ w7, ((((((w6.setCell ⟨gA, i * 7, none⟩ (.int .i64 z.lsn)).setCell ⟨gA, i * 7 + 1, none⟩ (.int .i64 z.page)).setCell ⟨gA, i * 7 + 2, none⟩ (.int .i64 z.key)).setCell ⟨gA, i * 7 + 3, none⟩ (.bool z.o.is)).setCell ⟨gA, i * 7 + 4, none⟩ (.slice z.o.B z.o.m z.o.d)).setCell ⟨gA, i * 7 + 5, none⟩ (.bool z.v.is)).setCell ⟨gA, i * 7 + 6, none⟩ (.slice z.v.B z.v.m z.v.d) = w7 := ⟨_, rfl⟩
      have hq7 : stC w6 gA (i * 7) z = w7 := hw7
      rw [hq7] at HN
      have HI7 : Hid (y.In w7 g) := by rw [← hq7]; exact (HI5.out.keep hm6').mod (stC_mod _ _ _ _) (fun e => by omega)
      obtain ⟨cs6, hcs6⟩ := OwN.blk (OwN.mod HF.out.row hm6w (fun _ _ h => h)) (k := gA) rfl
      have fz0 : w6.frozen? ⟨gA, i * 7, none⟩ = false := frozen_of_block hcs6 _
      have fz1 : w6.frozen? ⟨gA, i * 7 + 1, none⟩ = false := frozen_of_block hcs6 _
      have fz2 : w6.frozen? ⟨gA, i * 7 + 2, none⟩ = false := frozen_of_block hcs6 _
      have fz3 : w6.frozen? ⟨gA, i * 7 + 3, none⟩ = false := frozen_of_block hcs6 _
      have fz4 : w6.frozen? ⟨gA, i * 7 + 4, none⟩ = false := frozen_of_block hcs6 _
      have fz5 : w6.frozen? ⟨gA, i * 7 + 5, none⟩ = false := frozen_of_block hcs6 _
      have fz6 : w6.frozen? ⟨gA, i * 7 + 6, none⟩ = false := frozen_of_block hcs6 _
      obtain ⟨e0, e1, e2, e3, e4, e5, e6⟩ := HSc.out _ hm6w
      have hI6 := (show (fun W : World => W.cell? ⟨w.heap.size, 4, none⟩ = some (.slice (some ⟨gA, 0, none⟩) x.n c') ∧ (W.cell? ⟨g, 0, none⟩ = some (.int .i64 y.lsn) ∧ W.cell? ⟨g, 1, none⟩ = some (.int .i64 y.page) ∧ W.cell? ⟨g, 2, none⟩ = some (.int .i64 y.key) ∧ W.cell? ⟨g, 3, none⟩ = some (.bool y.o.is) ∧ W.cell? ⟨g, 4, none⟩ = some (.slice y.o.B y.o.m y.o.d) ∧ W.cell? ⟨g, 5, none⟩ = some (.bool y.v.is) ∧ W.cell? ⟨g, 6, none⟩ = some (.slice y.v.B y.v.m y.v.d))) _ from ⟨(HF.out.box.keep hm6w).cells.2.2.2.2.1, (HI5.out.keep hm6').cells⟩)
      have hI7 := (show (fun W : World => W.cell? ⟨w.heap.size, 4, none⟩ = some (.slice (some ⟨gA, 0, none⟩) x.n c') ∧ (W.cell? ⟨g, 0, none⟩ = some (.int .i64 y.lsn) ∧ W.cell? ⟨g, 1, none⟩ = some (.int .i64 y.page) ∧ W.cell? ⟨g, 2, none⟩ = some (.int .i64 y.key) ∧ W.cell? ⟨g, 3, none⟩ = some (.bool y.o.is) ∧ W.cell? ⟨g, 4, none⟩ = some (.slice y.o.B y.o.m y.o.d) ∧ W.cell? ⟨g, 5, none⟩ = some (.bool y.v.is) ∧ W.cell? ⟨g, 6, none⟩ = some (.slice y.v.B y.v.m y.v.d))) _ from ⟨HN.out.box.cells.2.2.2.2.1, HI7.out.cells⟩)
      clear hm6 hm6' hm6w hcs6 hz hzp hq7
      clear hI
      have hI := hI6
      refine ⟨hI, ?_⟩
      refine rg_take (n := 1) (v := ?_) 5 (some 22) rfl rfl (by kernel_rfl) (by kernel_rfl) (by kernel_rfl) (fun _ _ _ h => h) (by rfl) hI ?_ ?_
      rotate_left
      · ((intro w hSw; (try dsimp only at hSw); go_simp); (try with_reducible rfl))
      try simp only [Act.put, List.setIfInBounds_toArray, List.set_cons_zero, List.set_cons_succ]
      refine rg_one (n := 0) 6 rfl (by kernel_rfl) (by rfl) ?_
      go_simp
      clear hI
      have hI := hI7
      first | refine ⟨hI, ?_⟩ | skip
      try simp only [Act.put]
      clear hI6 hI7
      refine wpAnyH_done (by kernel_rfl) ?_ _
      clear hI
      go_wp2
      go_roundw
      case rel => exact ⟨i + 1, ys.set i z, by go_num, by omega, HN.out⟩
      case measure => simp [intOf]; omega
    obtain rfl : i = x.n := by omega
    have HB3 := Lib.hid HF.out.box
    have HR3 := Lib.hid HF.out.res
    have HM3 := Lib.hid HF.out.old
    have hzr : w.heap.size + 2 ≤ wr.heap.size := by have := hz3; have := HR3.out.lt; omega
    have HC := Lib.hid (clonei_ok wr x.B x.m x.d x.S (HX.out.S.keep HM3.out) (by have := Hm.out; omega))
    obtain ⟨c0, c1, c2, c3, c4, c5⟩ := HB3.out.cells
    go_wp2_with fail
    refine HC.out.mono ?_
    rintro e w4 ⟨B', d', rfl, hB, hm4⟩
    have HBn := Lib.hid hB
    have HF4 := Lib.hid (OwN.mod HF.out.row hm4 (fun _ _ h => h))
    have HV4 : Hid (∀ y ∈ ys, y.Own w4 w.heap.size) := fun y hy => by
      obtain ⟨k, hk⟩ := List.mem_iff_getElem?.1 hy
      exact (HF.out.done k (by have := (List.getElem?_eq_some_iff.1 hk).1; rw [OwC.len HF.out.row] at this; exact this) y hk).keep hm4
    have HM4 := Lib.hid (HM3.out.trans hm4 (fun _ _ h => h))
    have hz4 := hm4.size
    have HB4 := Lib.hid (HB3.out.keep hm4)
    have HR4 := Lib.hid (HR3.out.keep hm4)
    clear HC hB hm4
    clear c0 c1 c2 c3 c4 c5
    obtain ⟨c0, c1, c2, c3, c4, c5⟩ := HB4.out.cells
    have f5 := HB4.out.fz 5
    obtain ⟨w5, hw5⟩ : ∃ w5, w4.setCell ⟨w.heap.size, 5, none⟩ (.slice B' x.m d') = w5 := ⟨_, rfl⟩
    have hs5 : Mod (fun k => k = w.heap.size) w4 w5 := by rw [← hw5]; exact (Mod.refl (fun k => k = w.heap.size) w4).one (fun _ => rfl) _ _
    have HM5 : Hid (Mod (fun _ => False) w w5) := HM4.out.trans hs5 (fun k _ e => by omega)
    have hz5 := hs5.size
    have HB5 : Hid ((⟨x.id, x.st, x.f, x.l, A, x.n, c', x.L, B', x.m, d', x.S⟩ : TxD).In w5 (w.heap.size)) := by rw [← hw5]; exact heap_set HB4.out 5 (.slice B' x.m d')
    have HR5 := Lib.hid (HR4.out.mod hs5 (fun e => by omega))
    obtain ⟨d0, d1, d2, d3, d4, d5⟩ := HB5.out.cells
    obtain ⟨r0, r1, r2, r3, r4, r5⟩ := HR5.out.cells
    have g0 := HR5.out.fz 0
    have g1 := HR5.out.fz 1
    have g2 := HR5.out.fz 2
    have g3 := HR5.out.fz 3
    have g4 := HR5.out.fz 4
    have g5 := HR5.out.fz 5
    obtain ⟨w6, hw6⟩ : ∃ w6, (((((w5.setCell ⟨w.heap.size + 1, 0, none⟩ (.int .i64 x.id)).setCell ⟨w.heap.size + 1, 1, none⟩ (.int .i64 x.st)).setCell ⟨w.heap.size + 1, 2, none⟩ (.int .i64 x.f)).setCell ⟨w.heap.size + 1, 3, none⟩ (.int .i64 x.l)).setCell ⟨w.heap.size + 1, 4, none⟩ (.slice A x.n c')).setCell ⟨w.heap.size + 1, 5, none⟩ (.slice B' x.m d') = w6 := ⟨_, rfl⟩
    have hq6 : stT w5 (w.heap.size + 1) ⟨x.id, x.st, x.f, x.l, A, x.n, c', x.L, B', x.m, d', x.S⟩ = w6 := hw6
    have hs6 : Mod (fun k => k = w.heap.size + 1) w5 w6 := by rw [← hq6]; exact stT_mod w5 (w.heap.size + 1) ⟨x.id, x.st, x.f, x.l, A, x.n, c', x.L, B', x.m, d', x.S⟩
    have HM6 : Hid (Mod (fun _ => False) w w6) := HM5.out.trans hs6 (fun k _ e => by omega)
    have hz6 := hs6.size
    have HB6 := Lib.hid (HB5.out.mod hs6 (fun e => by omega))
    have HR6 : Hid ((⟨x.id, x.st, x.f, x.l, A, x.n, c', x.L, B', x.m, d', x.S⟩ : TxD).In w6 (w.heap.size + 1)) := by rw [← hq6]; exact HR5.out.set ⟨x.id, x.st, x.f, x.l, A, x.n, c', x.L, B', x.m, d', x.S⟩
    clear hq6
    have h56 : Mod (fun k => k = w.heap.size ∨ k = w.heap.size + 1) w4 w6 := (hs5.mono (fun _ _ e => .inl e)).trans (hs6.mono (fun _ _ e => Or.inr e)) (fun _ _ h => h)
    have H56 := Lib.hid h56
    have HW := Lib.hid hw6
    have HT : Hid (∃ cs, w4.heap[w.heap.size]? = some (.cells cs 25 (0, 0))) := ⟨_, HB4.out⟩
    have HT2 : Hid (∃ cs, w4.heap[w.heap.size + 1]? = some (.cells cs 25 (0, 0))) := ⟨_, HR4.out⟩
    clear hs5 hs6 h56 hw6
    go_wp2
    rw [HW.out]
    clear hw5 f5 c0 c1 c2 c3 c4 c5 d0 d1 d2 d3 d4 d5 r0 r1 r2 r3 r4 r5 g0 g1 g2 g3 g4 g5
    obtain ⟨q0, q1, q2, q3, q4, q5⟩ := HR6.out.cells
    refine bodyPost_ret (v := .agg #[.int .i64 x.id, .int .i64 x.st, .int .i64 x.f, .int .i64 x.l, .slice A x.n c', .slice B' x.m d']) (by simp [results, Try.results32, go_sem, q0, q1, q2, q3, q4, q5]) rfl ?_
    refine ⟨⟨x.id, x.st, x.f, x.l, A, x.n, c', ys, B', x.m, d', x.S⟩, rfl, ⟨?_, ?_, ?_⟩, ?_, HM6.out⟩
    · exact OwN.mod HF4.out H56.out (fun k hk e => by have := HF.out.new k hk; omega)
    · refine fun y hy => (HV4.out y hy).far H56.out (fun k hk => ?_)
      obtain ⟨c1, h1⟩ := HT.out
      obtain ⟨c2, h2⟩ := HT2.out
      rcases hk with rfl | rfl
      · exact ⟨_, _, _, h1, by decide⟩
      · exact ⟨_, _, _, h2, by decide⟩
    · exact OwV.rebase (OwV.mod HBn.out H56.out (fun k hk e => by have := (OwV.lt HBn.out k hk).1; omega)) (fun k hk => by have := (OwV.lt HBn.out k hk).1; omega)
    · show (⟨x.id, x.st, x.f, x.l, pc ys, x.S⟩ : Tp) = ⟨x.id, x.st, x.f, x.l, pc x.L, x.S⟩
      rw [HF.out.p]
end Go.Proofs.Ytidcmolkolcliaa
