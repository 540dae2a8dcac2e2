/-
  wal.copied: its contract.
-/
import Derived.Test.YtnbamljaiahmdaaGreatQCp
namespace Go.Proofs.YtnbamljaiahmdaaGreat
open Go Go.RowKit Go.Shelf

theorem fin_cp {w w1 wa wb w2 w3 : World} {r y : RcD} (hy : y = ⟨r.k, r.f, ⟨r.o.is, some ⟨w1.drew.heap.size, 0, none⟩, r.o.m, r.o.m, r.o.vs⟩, ⟨r.v.is, some ⟨wa.heap.size, 0, none⟩, r.v.m, r.v.m, r.v.vs⟩⟩) (hr : r.At w) (ho : r.o.m ≤ 1000) (hv : r.v.m ≤ 1000)
    (h1 : Mod (fun _ => False) w w1) (hs1 : w1.heap.size = w.heap.size + 2) (ha : NewB w1.drew wa r.o.vs) (hb : NewB wa wb r.v.vs) (h2 : Mod (fun k => k = w.heap.size) wb w2) (h3 : Mod (fun k => k = w.heap.size + 1) w2 w3) :
    ∃ y', Ending.returned y.val = .returned y'.val ∧ Cp r y' ∧ y'.o.Own w3 w.heap.size ∧ y'.v.Own w3 w.heap.size ∧ Mod (fun _ => False) w w3 := by
  have hd : w1.drew.heap.size = w1.heap.size := rfl
  have lo := hr.1.1
  have lv := hr.2.1
  have z1 := h1.size
  have za := ha.2.1
  have zb := hb.2.1
  have mk : ∀ (g n : Nat) (xs : List UInt8), xs.length = n → n ≤ maxLen → w.heap.size ≤ g → wb.heap[g]? = some (.cells (xs.map bv).toArray 5 (0, 0)) → g ≠ w.heap.size → g ≠ w.heap.size + 1 → OwV w3 w.heap.size 5 (some ⟨g, 0, none⟩) n n (xs.map bv) := by
    intro g n xs hl hn hg hblk e1 e2
    have k2 := (h2.block g (Array.getElem?_eq_some_iff.1 hblk).1 e1).trans hblk
    have k3 := (h3.block g (Array.getElem?_eq_some_iff.1 k2).1 e2).trans k2
    refine ⟨by simp [hl], .inr ⟨g, n, _, rfl, hg, k3, Nat.le_refl _, hn, by simp [hl], ?_⟩⟩
    rw [List.take_of_length_le (by simp [hl])]
  refine ⟨y, rfl, ?_, ?_, ?_, ?_⟩
  · subst hy; exact ⟨rfl, rfl, rfl, rfl, rfl, rfl, rfl, rfl⟩
  · subst hy
    refine mk _ r.o.m r.o.vs lo (by unfold maxLen; omega) (by omega) ((hb.2.2.block _ (by omega) id).trans ha.1) (by omega) (by omega)
  · subst hy
    refine mk _ r.v.m r.v.vs lv (by unfold maxLen; omega) (by omega) hb.1 (by omega) (by omega)
  · exact ((((h1.trans ((Mod.refl _ w1).drew) (fun _ _ h => h)).trans ha.2.2 (fun _ _ h => h)).trans hb.2.2 (fun _ _ h => h)).trans h2 (fun k hk e => by omega)).trans h3 (fun k hk e => by omega)

set_option maxRecDepth 100000 in
set_option maxHeartbeats 8000000 in
theorem copied_ok (w : World) (r : RcD) (hr : r.At w) (ho : r.o.m ≤ 1000) (hv : r.v.m ≤ 1000) :
    Calls Tryz.prog 33 #[r.val] w fun e w' => ∃ y, e = .returned y.val ∧ Cp r y ∧ y.o.Own w' w.heap.size ∧ y.v.Own w' w.heap.size ∧ Mod (fun _ => False) w w' := by
  obtain ⟨w1, hw1⟩ : ∃ w1, (w.alloc (.cells r.cells 47)).alloc (.cells #[.int .i64 0, .int .i64 0, .int .i64 0, .int .i64 0, .int .i64 0, .int .i64 0, .int .i64 0, .int .i64 0, .int .i64 0, .int .i64 0, .bool false, .slice none 0 0, .bool false, .slice none 0 0] 47) = w1 := ⟨_, rfl⟩
  have hm1 : Mod (fun _ => False) w w1 := by rw [← hw1]; exact ((Mod.refl _ w).alloc _).alloc _
  have hsz : w1.heap.size = w.heap.size + 2 := by rw [← hw1]; simp
  have hI : r.In w1 w.heap.size := by
    rw [← hw1]
    exact (Below.heap_alloc _ _ _ (by simp)).trans (RcD.In.new w r)
  have H1 : ∀ W, Mod (fun _ => False) w1.drew W → Calls Tryz.prog 56 #[.slice r.o.B r.o.m r.o.d] W fun e w' => e = .returned (.slice (some ⟨W.heap.size, 0, none⟩) r.o.m r.o.m) ∧ NewB W w' r.o.vs :=
    fun W hW => cbytes_ok W _ _ _ _ (hr.1.keep (hm1.drew.trans hW (fun _ _ h => h))) (by omega)
  have H2 : ∀ W, Mod (fun _ => False) w1.drew W → Calls Tryz.prog 56 #[.slice r.v.B r.v.m r.v.d] W fun e w' => e = .returned (.slice (some ⟨W.heap.size, 0, none⟩) r.v.m r.v.m) ∧ NewB W w' r.v.vs :=
    fun W hW => cbytes_ok W _ _ _ _ (hr.2.keep (hm1.drew.trans hW (fun _ _ h => h))) (by omega)
  have hZ : w1.heap[w.heap.size + 1]? = some (.cells #[.int .i64 0, .int .i64 0, .int .i64 0, .int .i64 0, .int .i64 0, .int .i64 0, .int .i64 0, .int .i64 0, .int .i64 0, .int .i64 0, .bool false, .slice none 0 0, .bool false, .slice none 0 0] 47 (0, 0)) := by
    rw [← hw1]
    have := heap_alloc_new (w.alloc (.cells r.cells 47)) (.cells #[.int .i64 0, .int .i64 0, .int .i64 0, .int .i64 0, .int .i64 0, .int .i64 0, .int .i64 0, .int .i64 0, .int .i64 0, .int .i64 0, .bool false, .slice none 0 0, .bool false, .slice none 0 0] 47)
    simpa using this
  have HI := Lib.hid hI
  have HZ := Lib.hid hZ
  have Hm1 := Lib.hid hm1
  have Hw1 := Lib.hid hw1
  have Hsz := Lib.hid hsz
  have HH1 := Lib.hid H1
  have HH2 := Lib.hid H2
  have HO : Hid (r.o.m ≤ 1000 ∧ r.v.m ≤ 1000) := ⟨ho, hv⟩
  clear hI hm1 hw1 hsz ho hv H1 H2 hZ
  go_enter Tryz.func33, Tryz.ntmps33
  go_wp2_with fail
  rw [Hw1.out]
  clear Hw1
  refine wp_region_held (by kernel_rfl) (cp_region (W := w1.drew) (by kernel_rfl) (by kernel_rfl) (by kernel_rfl) ?panic w.heap.size _ _ _ _ _ _ _ _ _ _ _ _ _ _ _ r.o.B r.v.B r.o.m r.o.d r.v.m r.v.d r.o.vs r.v.vs r.cells 47 HI.out rfl rfl HH1.out HH2.out ?fin)
  case panic =>
    intro c a t v w' hq
    cases t <;> exact hq
  case fin =>
    intro wa wb ha hb
    have HA := Lib.hid ha
    have HB := Lib.hid hb
    have hmb : Mod (fun _ => False) w1 wb := ((Mod.refl _ w1).drew.trans ha.2.2 (fun _ _ h => h)).trans hb.2.2 (fun _ _ h => h)
    have Hmb := Lib.hid hmb
    have hib := HI.out.keep hmb
    clear ha hb HH1 HH2
    obtain ⟨w2, hw2⟩ : ∃ w2, (wb.setCell ⟨w.heap.size, 11, none⟩ (.slice (some ⟨w1.drew.heap.size, 0, none⟩) r.o.m r.o.m)).setCell ⟨w.heap.size, 13, none⟩ (.slice (some ⟨wa.heap.size, 0, none⟩) r.v.m r.v.m) = w2 := ⟨_, rfl⟩
    rw [hw2]
    obtain ⟨y, hy⟩ : ∃ y : RcD, y = ⟨r.k, r.f, ⟨r.o.is, some ⟨w1.drew.heap.size, 0, none⟩, r.o.m, r.o.m, r.o.vs⟩, ⟨r.v.is, some ⟨wa.heap.size, 0, none⟩, r.v.m, r.v.m, r.v.vs⟩⟩ := ⟨_, rfl⟩
    have hI2 : y.In w2 w.heap.size := by
      rw [← hw2, hy]
      show _ = _
      rw [heap_set (heap_set hib 11 _) 13 _]
      rfl
    have hs1 : w1.heap.size = w.heap.size + 2 := Hsz.out
    have hm2 : Mod (fun k => k = w.heap.size) wb w2 := by rw [← hw2]; exact ((Mod.refl _ wb).one _ _).one _ _
    have hZ2 : w2.heap[w.heap.size + 1]? = some (.cells #[.int .i64 0, .int .i64 0, .int .i64 0, .int .i64 0, .int .i64 0, .int .i64 0, .int .i64 0, .int .i64 0, .int .i64 0, .int .i64 0, .bool false, .slice none 0 0, .bool false, .slice none 0 0] 47 (0, 0)) := by
      have h1 := (hmb.block (w.heap.size + 1) (by omega) id).trans HZ.out
      exact (hm2.block _ (Array.getElem?_eq_some_iff.1 h1).1 (by omega)).trans h1
    have HI2 := Lib.hid hI2
    have Hm2 := Lib.hid hm2
    have Hy := Lib.hid hy
    have HZ2 := Lib.hid hZ2
    have fz := frozen_of_block hZ2
    have y0 := hI2.kind
    have y1 := hI2.num (i := 1) (by omega) (by omega)
    have y2 := hI2.num (i := 2) (by omega) (by omega)
    have y3 := hI2.num (i := 3) (by omega) (by omega)
    have y4 := hI2.num (i := 4) (by omega) (by omega)
    have y5 := hI2.num (i := 5) (by omega) (by omega)
    have y6 := hI2.num (i := 6) (by omega) (by omega)
    have y7 := hI2.num (i := 7) (by omega) (by omega)
    have y8 := hI2.num (i := 8) (by omega) (by omega)
    have y9 := hI2.num (i := 9) (by omega) (by omega)
    have y10 := hI2.c10
    have y11 := hI2.c11
    have y12 := hI2.c12
    have y13 := hI2.c13
    have z0 : w2.cell? ⟨w.heap.size + 1, 0, none⟩ = some (.int .i64 0) := by rw [cell_of_row _ _ _ _ _ _ hZ2]; rfl
    have z1 : w2.cell? ⟨w.heap.size + 1, 1, none⟩ = some (.int .i64 0) := by rw [cell_of_row _ _ _ _ _ _ hZ2]; rfl
    have z2 : w2.cell? ⟨w.heap.size + 1, 2, none⟩ = some (.int .i64 0) := by rw [cell_of_row _ _ _ _ _ _ hZ2]; rfl
    have z3 : w2.cell? ⟨w.heap.size + 1, 3, none⟩ = some (.int .i64 0) := by rw [cell_of_row _ _ _ _ _ _ hZ2]; rfl
    have z4 : w2.cell? ⟨w.heap.size + 1, 4, none⟩ = some (.int .i64 0) := by rw [cell_of_row _ _ _ _ _ _ hZ2]; rfl
    have z5 : w2.cell? ⟨w.heap.size + 1, 5, none⟩ = some (.int .i64 0) := by rw [cell_of_row _ _ _ _ _ _ hZ2]; rfl
    have z6 : w2.cell? ⟨w.heap.size + 1, 6, none⟩ = some (.int .i64 0) := by rw [cell_of_row _ _ _ _ _ _ hZ2]; rfl
    have z7 : w2.cell? ⟨w.heap.size + 1, 7, none⟩ = some (.int .i64 0) := by rw [cell_of_row _ _ _ _ _ _ hZ2]; rfl
    have z8 : w2.cell? ⟨w.heap.size + 1, 8, none⟩ = some (.int .i64 0) := by rw [cell_of_row _ _ _ _ _ _ hZ2]; rfl
    have z9 : w2.cell? ⟨w.heap.size + 1, 9, none⟩ = some (.int .i64 0) := by rw [cell_of_row _ _ _ _ _ _ hZ2]; rfl
    have z10 : w2.cell? ⟨w.heap.size + 1, 10, none⟩ = some (.bool false) := by rw [cell_of_row _ _ _ _ _ _ hZ2]; rfl
    have z11 : w2.cell? ⟨w.heap.size + 1, 11, none⟩ = some (.slice none 0 0) := by rw [cell_of_row _ _ _ _ _ _ hZ2]; rfl
    have z12 : w2.cell? ⟨w.heap.size + 1, 12, none⟩ = some (.bool false) := by rw [cell_of_row _ _ _ _ _ _ hZ2]; rfl
    have z13 : w2.cell? ⟨w.heap.size + 1, 13, none⟩ = some (.slice none 0 0) := by rw [cell_of_row _ _ _ _ _ _ hZ2]; rfl
    clear hw2 hy hI2 hm2 hZ2 hib hmb hs1
    go_wp2
    refine bodyPost_ret (v := y.val) (by simp [results, Tryz.results33, go_sem, z0, z1, z2, z3, z4, z5, z6, z7, z8, z9, z10, z11, z12, z13]) rfl ?_
    have hm3 : ∀ {V V' : World}, Mod (fun k => k = w.heap.size + 1) V V' → ∀ (i : Nat) (u : Value), Mod (fun k => k = w.heap.size + 1) V (V'.setCell ⟨w.heap.size + 1, i, none⟩ u) := fun h i u => h.one i u
    have hs1 : w1.heap.size = w.heap.size + 2 := Hsz.out
    refine fin_cp Hy.out hr HO.out.1 HO.out.2 Hm1.out hs1 HA.out HB.out Hm2.out ?_
    iterate 14 refine hm3 ?_ _ _
    exact Mod.refl _ _
end Go.Proofs.YtnbamljaiahmdaaGreat
