/-
  The document's log: Append, in all its ways.
-/
import Derived.Test.YtidligegmhlikaaQRA
namespace Go.Proofs.Ytidligegmhlikaa
open Go Go.RowKit Go.Shelf

set_option maxRecDepth 100000 in
set_option maxHeartbeats 4000000 in
theorem ra_fit0 (w : World) (q : RL) (hk : q.Ok) (hq : Rs w q.A q.m q.c q.l) (r : RcD) (hr : r.At w) (hmb : mayB r = true) (hl : q.l = []) (hf : fitsB (q.l ++ [r]) = true) (hg : growR q 1 = true) : Calls Try.prog 14 #[q.val, r.val] w (RAns w q r) := by
  have hm0 : q.m = 0 := by rw [← hk.lm, hl]; rfl
  have HL := Lib.hid hl
  have Hm0 := Lib.hid hm0
  have HF := Lib.hid hf
  clear hl hm0 hf
  have HG := Lib.hid hg
  clear hg
  obtain ⟨w1, hw1⟩ : ∃ w1, ((w.alloc (.cells q.cells 35)).alloc (.cells r.cells 40)).alloc (.cells #[.int .i64 0, .int .i64 0, .int .i64 0, .int .i64 0, .int .i64 0, .slice none 0 0] 35) = w1 := ⟨_, rfl⟩
  have hm1 : Mod (fun _ => False) w w1 := by rw [← hw1]; exact (((Mod.refl _ w).alloc _).alloc _).alloc _
  have hsz : w1.heap.size = w.heap.size + 3 := by rw [← hw1]; simp
  have h2 : LIn w1 q w.heap.size := by
    rw [← hw1]
    exact (Below.heap_alloc _ _ _ (by simp; omega)).trans ((Below.heap_alloc _ _ _ (by simp)).trans (heap_alloc_new w _))
  have h3 : r.In w1 (w.heap.size + 1) := by
    rw [← hw1]
    refine (Below.heap_alloc _ _ _ (by simp)).trans ?_
    have := heap_alloc_new (w.alloc (.cells q.cells 35)) (.cells r.cells 40)
    simpa using this
  have h4 : LIn w1 RL.zero (w.heap.size + 2) := by
    rw [← hw1]
    have h0 := heap_alloc_new ((w.alloc (.cells q.cells 35)).alloc (.cells r.cells 40)) (.cells #[.int .i64 0, .int .i64 0, .int .i64 0, .int .i64 0, .int .i64 0, .slice none 0 0] 35)
    rw [show ((w.alloc (.cells q.cells 35)).alloc (.cells r.cells 40)).heap.size = w.heap.size + 2 by simp] at h0
    exact h0
  have hmay := rmay_ok w1 r
  rw [hmb] at hmay
  have Hmay := Lib.hid hmay
  have Hw1 := Lib.hid hw1
  have Hm1 := Lib.hid hm1
  have Hsz := Lib.hid hsz
  have H2 := Lib.hid h2
  have H3 := Lib.hid h3
  have H4 := Lib.hid h4
  have Hk := Lib.hid hk
  have Hq := Lib.hid hq
  have Hr := Lib.hid hr
  have Hmb := Lib.hid hmb
  have y0 := h3.kind
  have y1 := h3.num (i := 1) (by omega) (by omega)
  have y2 := h3.num (i := 2) (by omega) (by omega)
  have y3 := h3.num (i := 3) (by omega) (by omega)
  have y4 := h3.num (i := 4) (by omega) (by omega)
  have y5 := h3.num (i := 5) (by omega) (by omega)
  have y6 := h3.num (i := 6) (by omega) (by omega)
  have y7 := h3.num (i := 7) (by omega) (by omega)
  have y8 := h3.num (i := 8) (by omega) (by omega)
  have y9 := h3.num (i := 9) (by omega) (by omega)
  have y10 := h3.c10
  have y11 := h3.c11
  have y12 := h3.c12
  have y13 := h3.c13
  clear hmay hw1 hm1 hsz h2 h3 h4 hk hq hr hmb
  go_enter Try.func14, Try.ntmps14
  go_wp2_with fail
  rw [Hw1.out]
  clear Hw1
  refine Hmay.out.mono ?_
  rintro e w2 ⟨rfl, hm2⟩
  have h22 := H2.out.keep hm2
  have h42 := H4.out.keep hm2
  have H22 := Lib.hid h22
  have H32 := Lib.hid (H3.out.keep hm2)
  have H42 := Lib.hid h42
  have Hm2 := Lib.hid (Hm1.out.trans hm2 (fun _ _ h => h))
  have Hs2 : Hid (w.heap.size + 3 ≤ w2.heap.size) := by rw [← Hsz.out]; exact hm2.size
  clear hm2 Hmay H2 H3 H4 Hm1 Hsz y0 y1 y2 y3 y4 y5 y6 y7 y8 y9 y10 y11 y12 y13
  obtain ⟨n0, n1, s0, sn, nm, room, lm, few, some_⟩ := Hk.out
  have a0 := h22.c0
  have a1 := h22.c1
  have a2 := h22.c2
  have a3 := h22.c3
  have a4 := h22.c4
  have a5 := h22.c5
  have FB : Hid (∀ z : Int, z = q.n - (q.nx - q.st) → True) := fun _ _ => trivial
  clear h22 h42 FB
  go_wp2_with fail
  refine wp_region_held (by kernel_rfl) (ra_region (W := w2.drew) (by kernel_rfl) (by kernel_rfl) (by kernel_rfl) ?panic w.heap.size (w.heap.size + 1) q.A q.m q.c q.l r _ _ _ _ _ _ _ _ _ _ _ _ _ _ _ _ _ _ _ _ _ _ _ _ _ _ _ _ _ _ _ _ _ _ _ _ _ _ _ _ _ _ _ _ _ _ _ _ _ _ _ _ _ _ _ _ _ _ _ _ _ _ _ _ _ _ _ _ _ _ _ _ _ _ _ _ _ H22.out.c5 H32.out ((Hq.out.keep Hm2.out).keep ((Mod.refl _ w2).drew)) (by omega) ?fin)
  case panic =>
    intro c a t u w' hq
    cases t <;> exact hq
  intro A4 c4 gl A3 c3 w3 ho3 hm3
  have Hm3 := Lib.hid (Hm2.out.drew.trans hm3 (fun _ _ h => h))
  have h23 := LIn.keep (w := w2.drew) H22.out hm3
  have h43 := LIn.keep (w := w2.drew) H42.out hm3
  have H23 := Lib.hid h23
  have H43 := Lib.hid h43
  have H33 := Lib.hid (RcD.In.keep (w := w2.drew) H32.out hm3)
  have Hs3 : Hid (w.heap.size + 3 ≤ w3.heap.size) := Nat.le_trans Hs2.out hm3.size
  have Hnew : Hid (∀ k, blkOf A3 = some k → w.heap.size + 3 ≤ k) := fun k e => Nat.le_trans Hs2.out (ho3.lt k e).1
  have hrs3 : Rs w3 A3 (q.m + 1) c3 (q.l ++ [r]) := ho3.recs (fun y hy => by
    rcases List.mem_append.1 hy with hy | hy
    · exact (Hq.out.keep Hm3.out).ats y hy
    · rw [List.mem_singleton] at hy; subst hy; exact Hr.out.keep Hm3.out)
  have Hrs3 := Lib.hid hrs3
  have hfi := rfits_ok w3 A3 (q.m + 1) c3 (q.l ++ [r]) hrs3 (by omega)
  have hfi : Calls Try.prog 41 #[.slice A3 (q.m + 1) c3] w3 fun e w' => e = .returned (.bool (fitsB (q.l ++ [r]))) ∧ Mod (fun _ => False) w3 w' := hfi
  have Hfi := Lib.hid hfi
  clear a0 a1 a2 a3 a4 a5 H22 H32 H42 Hm2 Hs2 ho3 hm3 hrs3 hfi
  have a0 := h23.c0
  have a1 := h23.c1
  have a2 := h23.c2
  have a3 := h23.c3
  have a4 := h23.c4
  have a5 := h23.c5
  have z0 := h43.c0
  have z1 := h43.c1
  have z2 := h43.c2
  have z3 := h43.c3
  have z4 := h43.c4
  have z5 := h43.c5
  have fz := h43.fz
  have fy := h23.fz
  clear h23 h43
  have k0 : ((q.m : Int) == 0) = true := by rw [Hm0.out]; rfl
  have k1 : decide (q.n - (q.nx - q.st) < 1) = false := by have := growR_iff.1 HG.out; simpa using this.1
  have k2 : decide (16777215 < q.nx + 1) = false := by have := growR_iff.1 HG.out; simpa using this.2
  rw [HF.out] at Hfi
  go_wp2_with fail
  refine Hfi.out.mono ?_
  rintro e w4 ⟨rfl, hm4⟩
  have Hm4 := Lib.hid (Hm3.out.trans hm4 (fun _ _ h => h))
  have h24 := H23.out.keep hm4
  have h44 := H43.out.keep hm4
  have H24 := Lib.hid h24
  have H44 := Lib.hid h44
  have h34 := H33.out.keep hm4
  have H34 := Lib.hid h34
  have Hs4 : Hid (w.heap.size + 3 ≤ w4.heap.size) := Nat.le_trans Hs3.out hm4.size
  have Hrs4 := Lib.hid (Hrs3.out.keep hm4)
  clear hm4 Hfi a0 a1 a2 a3 a4 a5 z0 z1 z2 z3 z4 z5 fz fy H23 H43 Hm3 Hs3 Hrs3 H33
  have a0 := h24.c0
  have a1 := h24.c1
  have a2 := h24.c2
  have a3 := h24.c3
  have a4 := h24.c4
  have a5 := h24.c5
  have fy := h24.fz
  clear h24 h44 h34
  obtain ⟨w5, hw5⟩ : ∃ w5, w4.setCell ⟨w.heap.size, 5, none⟩ (.slice A3 (q.m + 1) c3) = w5 := ⟨_, rfl⟩
  have hm5 : Mod (fun k => k = w.heap.size) w4 w5 := by rw [← hw5]; exact (Mod.refl _ w4).one _ _
  have h25 : LIn w5 { q with A := A3, m := q.m + 1, c := c3, l := q.l ++ [r] } w.heap.size := by
    rw [← hw5]
    show _ = _
    rw [heap_set H24.out]
    rfl
  have h45 : LIn w5 RL.zero (w.heap.size + 2) := (hm5.block _ H44.out.lt (by omega)).trans H44.out
  have Hrs5 : Hid (Rs w5 A3 (q.m + 1) c3 (q.l ++ [r])) := by
    have h0 := Hm4.out.trans hm5 (fun k hk e => by omega)
    have hrow := Hrs4.out
    refine ⟨hrow.len, hrow.cap, fun hp => ?_, fun x hx => ?_⟩
    · obtain ⟨b, o, hA, hc⟩ := hrow.cells hp
      refine ⟨b, o, hA, fun i x hx => (hc i x hx).keep (hm5.block b (hc i x hx).lt (fun e => ?_))⟩
      have := Hnew.out b (by rw [hA]; rfl)
      omega
    · rcases List.mem_append.1 hx with hx | hx
      · exact (Hq.out.keep h0).ats x hx
      · rw [List.mem_singleton] at hx; subst hx; exact Hr.out.keep h0
  have Hm5 := Lib.hid hm5
  have Hw5 := Lib.hid hw5
  have H25 := Lib.hid h25
  have H45 := Lib.hid h45
  clear hm5 h25 h45 hw5
  go_wp2_with fail
  rw [Hw5.out]
  clear Hw5 a0 a1 a2 a3 a4 a5 fy
  refine wp_region_held (by kernel_rfl) (ra11_region (W := w5.drew) (by kernel_rfl) (by kernel_rfl) (by kernel_rfl) ?panic2 w.heap.size (w.heap.size + 2) (by omega) { q with A := A3, m := q.m + 1, c := c3, l := q.l ++ [r] } A3 (q.m + 1) c3 _ _ _ _ _ _ _ _ _ _ _ _ _ _ _ _ _ _ _ _ _ _ _ _ _ _ _ _ _ _ _ _ _ _ _ _ _ _ _ _ _ _ _ _ _ _ _ _ _ _ _ _ _ _ _ _ _ _ _ _ _ _ _ _ _ _ _ _ _ _ _ _ _ _ _ _ H25.out H45.out ?fin2)
  case panic2 =>
    intro c a t u w' hq
    cases t <;> exact hq
  obtain ⟨w6, hw6⟩ : ∃ w6, stLog w5.drew (w.heap.size + 2) { q with A := A3, m := q.m + 1, c := c3, l := q.l ++ [r] } = w6 := ⟨_, rfl⟩
  have hm6 : Mod (fun k => k = w.heap.size + 2) w5.drew w6 := by rw [← hw6]; exact stLog_mod _ _ _
  have h46 : LIn w6 { q with A := A3, m := q.m + 1, c := c3, l := q.l ++ [r] } (w.heap.size + 2) := by rw [← hw6]; exact stLog_in (W := w5.drew) H45.out _
  rw [hw6]
  have e0 : w6.cell? ⟨w.heap.size + 2, 0, none⟩ = some (.int .i64 q.n) := h46.c0
  have e1 : w6.cell? ⟨w.heap.size + 2, 1, none⟩ = some (.int .i64 q.ep) := h46.c1
  have e2 : w6.cell? ⟨w.heap.size + 2, 2, none⟩ = some (.int .i64 q.st) := h46.c2
  have e3 : w6.cell? ⟨w.heap.size + 2, 3, none⟩ = some (.int .i64 q.nx) := h46.c3
  have e4 : w6.cell? ⟨w.heap.size + 2, 4, none⟩ = some (.int .i64 q.du) := h46.c4
  have e5 : w6.cell? ⟨w.heap.size + 2, 5, none⟩ = some (.slice A3 (q.m + 1) c3) := h46.c5
  have hev : IntKind.i64.wrap (IntKind.i64.wrap (IntKind.i64.wrap (q.nx * 256) + ((q.m + 1 : Nat) : Int)) - 1) = 256 * q.nx + q.l.length := by
    rw [IntKind.wrap_i64, IntKind.wrap_i64, IntKind.wrap_i64] <;> omega
  have Hev := Lib.hid hev
  have Hm6 := Lib.hid hm6
  clear hw6 hm6 h46 hev
  go_wp2
  refine bodyPost_ret (v := .tuple #[.agg #[.int .i64 q.n, .int .i64 q.ep, .int .i64 q.st, .int .i64 q.nx, .int .i64 q.du, .slice A3 (q.m + 1) c3], .int .i64 (256 * q.nx + q.l.length), .int .i64 0, .bool false]) (by rw [← Hev.out]; simp [results, Try.results14, go_sem, e0, e1, e2, e3, e4, e5]) rfl ?_
  have hmm : Mod (fun _ => False) w w6 := ((Hm4.out.trans Hm5.out (fun k hk e => by omega)).drew).trans Hm6.out (fun k hk e => by omega)
  refine ⟨⟨{ q with A := A3, m := q.m + 1, c := c3, l := q.l ++ [r] }, _, 0, false, rfl, .fit A3 c3 Hmb.out (fun _ => HG.out) HF.out, ?_, fun k hk => .inr (by have := Hnew.out k hk; omega)⟩, hmm⟩
  have hrow := Hrs5.out
  refine ⟨hrow.len, hrow.cap, fun hp => ?_, fun x hx => ?_⟩
  · obtain ⟨b, o, hA, hc⟩ := hrow.cells hp
    refine ⟨b, o, hA, fun i x hx => (hc i x hx).keep (Hm6.out.block b (hc i x hx).lt (fun e => ?_))⟩
    have := Hnew.out b (by rw [hA]; rfl)
    omega
  · rcases List.mem_append.1 hx with hx | hx
    · exact (Hq.out.keep hmm).ats x hx
    · rw [List.mem_singleton] at hx; subst hx; exact Hr.out.keep hmm

set_option maxRecDepth 100000 in
set_option maxHeartbeats 4000000 in
theorem ra_fit1 (w : World) (q : RL) (hk : q.Ok) (hq : Rs w q.A q.m q.c q.l) (r : RcD) (hr : r.At w) (hmb : mayB r = true) (hl : q.l ≠ []) (hf : fitsB (q.l ++ [r]) = true) : Calls Try.prog 14 #[q.val, r.val] w (RAns w q r) := by
  have hm0 : 0 < q.m := by rw [← hk.lm]; exact List.length_pos_iff.2 hl
  have HL := Lib.hid hl
  have Hm0 := Lib.hid hm0
  have HF := Lib.hid hf
  clear hl hm0 hf
  obtain ⟨w1, hw1⟩ : ∃ w1, ((w.alloc (.cells q.cells 35)).alloc (.cells r.cells 40)).alloc (.cells #[.int .i64 0, .int .i64 0, .int .i64 0, .int .i64 0, .int .i64 0, .slice none 0 0] 35) = w1 := ⟨_, rfl⟩
  have hm1 : Mod (fun _ => False) w w1 := by rw [← hw1]; exact (((Mod.refl _ w).alloc _).alloc _).alloc _
  have hsz : w1.heap.size = w.heap.size + 3 := by rw [← hw1]; simp
  have h2 : LIn w1 q w.heap.size := by
    rw [← hw1]
    exact (Below.heap_alloc _ _ _ (by simp; omega)).trans ((Below.heap_alloc _ _ _ (by simp)).trans (heap_alloc_new w _))
  have h3 : r.In w1 (w.heap.size + 1) := by
    rw [← hw1]
    refine (Below.heap_alloc _ _ _ (by simp)).trans ?_
    have := heap_alloc_new (w.alloc (.cells q.cells 35)) (.cells r.cells 40)
    simpa using this
  have h4 : LIn w1 RL.zero (w.heap.size + 2) := by
    rw [← hw1]
    have h0 := heap_alloc_new ((w.alloc (.cells q.cells 35)).alloc (.cells r.cells 40)) (.cells #[.int .i64 0, .int .i64 0, .int .i64 0, .int .i64 0, .int .i64 0, .slice none 0 0] 35)
    rw [show ((w.alloc (.cells q.cells 35)).alloc (.cells r.cells 40)).heap.size = w.heap.size + 2 by simp] at h0
    exact h0
  have hmay := rmay_ok w1 r
  rw [hmb] at hmay
  have Hmay := Lib.hid hmay
  have Hw1 := Lib.hid hw1
  have Hm1 := Lib.hid hm1
  have Hsz := Lib.hid hsz
  have H2 := Lib.hid h2
  have H3 := Lib.hid h3
  have H4 := Lib.hid h4
  have Hk := Lib.hid hk
  have Hq := Lib.hid hq
  have Hr := Lib.hid hr
  have Hmb := Lib.hid hmb
  have y0 := h3.kind
  have y1 := h3.num (i := 1) (by omega) (by omega)
  have y2 := h3.num (i := 2) (by omega) (by omega)
  have y3 := h3.num (i := 3) (by omega) (by omega)
  have y4 := h3.num (i := 4) (by omega) (by omega)
  have y5 := h3.num (i := 5) (by omega) (by omega)
  have y6 := h3.num (i := 6) (by omega) (by omega)
  have y7 := h3.num (i := 7) (by omega) (by omega)
  have y8 := h3.num (i := 8) (by omega) (by omega)
  have y9 := h3.num (i := 9) (by omega) (by omega)
  have y10 := h3.c10
  have y11 := h3.c11
  have y12 := h3.c12
  have y13 := h3.c13
  clear hmay hw1 hm1 hsz h2 h3 h4 hk hq hr hmb
  go_enter Try.func14, Try.ntmps14
  go_wp2_with fail
  rw [Hw1.out]
  clear Hw1
  refine Hmay.out.mono ?_
  rintro e w2 ⟨rfl, hm2⟩
  have h22 := H2.out.keep hm2
  have h42 := H4.out.keep hm2
  have H22 := Lib.hid h22
  have H32 := Lib.hid (H3.out.keep hm2)
  have H42 := Lib.hid h42
  have Hm2 := Lib.hid (Hm1.out.trans hm2 (fun _ _ h => h))
  have Hs2 : Hid (w.heap.size + 3 ≤ w2.heap.size) := by rw [← Hsz.out]; exact hm2.size
  clear hm2 Hmay H2 H3 H4 Hm1 Hsz y0 y1 y2 y3 y4 y5 y6 y7 y8 y9 y10 y11 y12 y13
  obtain ⟨n0, n1, s0, sn, nm, room, lm, few, some_⟩ := Hk.out
  have a0 := h22.c0
  have a1 := h22.c1
  have a2 := h22.c2
  have a3 := h22.c3
  have a4 := h22.c4
  have a5 := h22.c5
  have FB : Hid (∀ z : Int, z = q.n - (q.nx - q.st) → True) := fun _ _ => trivial
  clear h22 h42 FB
  go_wp2_with fail
  refine wp_region_held (by kernel_rfl) (ra_region (W := w2.drew) (by kernel_rfl) (by kernel_rfl) (by kernel_rfl) ?panic w.heap.size (w.heap.size + 1) q.A q.m q.c q.l r _ _ _ _ _ _ _ _ _ _ _ _ _ _ _ _ _ _ _ _ _ _ _ _ _ _ _ _ _ _ _ _ _ _ _ _ _ _ _ _ _ _ _ _ _ _ _ _ _ _ _ _ _ _ _ _ _ _ _ _ _ _ _ _ _ _ _ _ _ _ _ _ _ _ _ _ _ H22.out.c5 H32.out ((Hq.out.keep Hm2.out).keep ((Mod.refl _ w2).drew)) (by omega) ?fin)
  case panic =>
    intro c a t u w' hq
    cases t <;> exact hq
  intro A4 c4 gl A3 c3 w3 ho3 hm3
  have Hm3 := Lib.hid (Hm2.out.drew.trans hm3 (fun _ _ h => h))
  have h23 := LIn.keep (w := w2.drew) H22.out hm3
  have h43 := LIn.keep (w := w2.drew) H42.out hm3
  have H23 := Lib.hid h23
  have H43 := Lib.hid h43
  have H33 := Lib.hid (RcD.In.keep (w := w2.drew) H32.out hm3)
  have Hs3 : Hid (w.heap.size + 3 ≤ w3.heap.size) := Nat.le_trans Hs2.out hm3.size
  have Hnew : Hid (∀ k, blkOf A3 = some k → w.heap.size + 3 ≤ k) := fun k e => Nat.le_trans Hs2.out (ho3.lt k e).1
  have hrs3 : Rs w3 A3 (q.m + 1) c3 (q.l ++ [r]) := ho3.recs (fun y hy => by
    rcases List.mem_append.1 hy with hy | hy
    · exact (Hq.out.keep Hm3.out).ats y hy
    · rw [List.mem_singleton] at hy; subst hy; exact Hr.out.keep Hm3.out)
  have Hrs3 := Lib.hid hrs3
  have hfi := rfits_ok w3 A3 (q.m + 1) c3 (q.l ++ [r]) hrs3 (by omega)
  have hfi : Calls Try.prog 41 #[.slice A3 (q.m + 1) c3] w3 fun e w' => e = .returned (.bool (fitsB (q.l ++ [r]))) ∧ Mod (fun _ => False) w3 w' := hfi
  have Hfi := Lib.hid hfi
  clear a0 a1 a2 a3 a4 a5 H22 H32 H42 Hm2 Hs2 ho3 hm3 hrs3 hfi
  have a0 := h23.c0
  have a1 := h23.c1
  have a2 := h23.c2
  have a3 := h23.c3
  have a4 := h23.c4
  have a5 := h23.c5
  have z0 := h43.c0
  have z1 := h43.c1
  have z2 := h43.c2
  have z3 := h43.c3
  have z4 := h43.c4
  have z5 := h43.c5
  have fz := h43.fz
  have fy := h23.fz
  clear h23 h43
  have k0 : ((q.m : Int) == 0) = false := by have := Hm0.out; rw [beq_eq_false_iff_ne]; omega
  rw [HF.out] at Hfi
  go_wp2_with fail
  refine Hfi.out.mono ?_
  rintro e w4 ⟨rfl, hm4⟩
  have Hm4 := Lib.hid (Hm3.out.trans hm4 (fun _ _ h => h))
  have h24 := H23.out.keep hm4
  have h44 := H43.out.keep hm4
  have H24 := Lib.hid h24
  have H44 := Lib.hid h44
  have h34 := H33.out.keep hm4
  have H34 := Lib.hid h34
  have Hs4 : Hid (w.heap.size + 3 ≤ w4.heap.size) := Nat.le_trans Hs3.out hm4.size
  have Hrs4 := Lib.hid (Hrs3.out.keep hm4)
  clear hm4 Hfi a0 a1 a2 a3 a4 a5 z0 z1 z2 z3 z4 z5 fz fy H23 H43 Hm3 Hs3 Hrs3 H33
  have a0 := h24.c0
  have a1 := h24.c1
  have a2 := h24.c2
  have a3 := h24.c3
  have a4 := h24.c4
  have a5 := h24.c5
  have fy := h24.fz
  clear h24 h44 h34
  obtain ⟨w5, hw5⟩ : ∃ w5, w4.setCell ⟨w.heap.size, 5, none⟩ (.slice A3 (q.m + 1) c3) = w5 := ⟨_, rfl⟩
  have hm5 : Mod (fun k => k = w.heap.size) w4 w5 := by rw [← hw5]; exact (Mod.refl _ w4).one _ _
  have h25 : LIn w5 { q with A := A3, m := q.m + 1, c := c3, l := q.l ++ [r] } w.heap.size := by
    rw [← hw5]
    show _ = _
    rw [heap_set H24.out]
    rfl
  have h45 : LIn w5 RL.zero (w.heap.size + 2) := (hm5.block _ H44.out.lt (by omega)).trans H44.out
  have Hrs5 : Hid (Rs w5 A3 (q.m + 1) c3 (q.l ++ [r])) := by
    have h0 := Hm4.out.trans hm5 (fun k hk e => by omega)
    have hrow := Hrs4.out
    refine ⟨hrow.len, hrow.cap, fun hp => ?_, fun x hx => ?_⟩
    · obtain ⟨b, o, hA, hc⟩ := hrow.cells hp
      refine ⟨b, o, hA, fun i x hx => (hc i x hx).keep (hm5.block b (hc i x hx).lt (fun e => ?_))⟩
      have := Hnew.out b (by rw [hA]; rfl)
      omega
    · rcases List.mem_append.1 hx with hx | hx
      · exact (Hq.out.keep h0).ats x hx
      · rw [List.mem_singleton] at hx; subst hx; exact Hr.out.keep h0
  have Hm5 := Lib.hid hm5
  have Hw5 := Lib.hid hw5
  have H25 := Lib.hid h25
  have H45 := Lib.hid h45
  clear hm5 h25 h45 hw5
  go_wp2_with fail
  rw [Hw5.out]
  clear Hw5 a0 a1 a2 a3 a4 a5 fy
  refine wp_region_held (by kernel_rfl) (ra11_region (W := w5.drew) (by kernel_rfl) (by kernel_rfl) (by kernel_rfl) ?panic2 w.heap.size (w.heap.size + 2) (by omega) { q with A := A3, m := q.m + 1, c := c3, l := q.l ++ [r] } A3 (q.m + 1) c3 _ _ _ _ _ _ _ _ _ _ _ _ _ _ _ _ _ _ _ _ _ _ _ _ _ _ _ _ _ _ _ _ _ _ _ _ _ _ _ _ _ _ _ _ _ _ _ _ _ _ _ _ _ _ _ _ _ _ _ _ _ _ _ _ _ _ _ _ _ _ _ _ _ _ _ _ H25.out H45.out ?fin2)
  case panic2 =>
    intro c a t u w' hq
    cases t <;> exact hq
  obtain ⟨w6, hw6⟩ : ∃ w6, stLog w5.drew (w.heap.size + 2) { q with A := A3, m := q.m + 1, c := c3, l := q.l ++ [r] } = w6 := ⟨_, rfl⟩
  have hm6 : Mod (fun k => k = w.heap.size + 2) w5.drew w6 := by rw [← hw6]; exact stLog_mod _ _ _
  have h46 : LIn w6 { q with A := A3, m := q.m + 1, c := c3, l := q.l ++ [r] } (w.heap.size + 2) := by rw [← hw6]; exact stLog_in (W := w5.drew) H45.out _
  rw [hw6]
  have e0 : w6.cell? ⟨w.heap.size + 2, 0, none⟩ = some (.int .i64 q.n) := h46.c0
  have e1 : w6.cell? ⟨w.heap.size + 2, 1, none⟩ = some (.int .i64 q.ep) := h46.c1
  have e2 : w6.cell? ⟨w.heap.size + 2, 2, none⟩ = some (.int .i64 q.st) := h46.c2
  have e3 : w6.cell? ⟨w.heap.size + 2, 3, none⟩ = some (.int .i64 q.nx) := h46.c3
  have e4 : w6.cell? ⟨w.heap.size + 2, 4, none⟩ = some (.int .i64 q.du) := h46.c4
  have e5 : w6.cell? ⟨w.heap.size + 2, 5, none⟩ = some (.slice A3 (q.m + 1) c3) := h46.c5
  have hev : IntKind.i64.wrap (IntKind.i64.wrap (IntKind.i64.wrap (q.nx * 256) + ((q.m + 1 : Nat) : Int)) - 1) = 256 * q.nx + q.l.length := by
    rw [IntKind.wrap_i64, IntKind.wrap_i64, IntKind.wrap_i64] <;> omega
  have Hev := Lib.hid hev
  have Hm6 := Lib.hid hm6
  clear hw6 hm6 h46 hev
  go_wp2
  refine bodyPost_ret (v := .tuple #[.agg #[.int .i64 q.n, .int .i64 q.ep, .int .i64 q.st, .int .i64 q.nx, .int .i64 q.du, .slice A3 (q.m + 1) c3], .int .i64 (256 * q.nx + q.l.length), .int .i64 0, .bool false]) (by rw [← Hev.out]; simp [results, Try.results14, go_sem, e0, e1, e2, e3, e4, e5]) rfl ?_
  have hmm : Mod (fun _ => False) w w6 := ((Hm4.out.trans Hm5.out (fun k hk e => by omega)).drew).trans Hm6.out (fun k hk e => by omega)
  refine ⟨⟨{ q with A := A3, m := q.m + 1, c := c3, l := q.l ++ [r] }, _, 0, false, rfl, .fit A3 c3 Hmb.out (fun e => absurd e HL.out) HF.out, ?_, fun k hk => .inr (by have := Hnew.out k hk; omega)⟩, hmm⟩
  have hrow := Hrs5.out
  refine ⟨hrow.len, hrow.cap, fun hp => ?_, fun x hx => ?_⟩
  · obtain ⟨b, o, hA, hc⟩ := hrow.cells hp
    refine ⟨b, o, hA, fun i x hx => (hc i x hx).keep (Hm6.out.block b (hc i x hx).lt (fun e => ?_))⟩
    have := Hnew.out b (by rw [hA]; rfl)
    omega
  · rcases List.mem_append.1 hx with hx | hx
    · exact (Hq.out.keep hmm).ats x hx
    · rw [List.mem_singleton] at hx; subst hx; exact Hr.out.keep hmm

set_option maxRecDepth 100000 in
set_option maxHeartbeats 4000000 in
theorem ra_full1a (w : World) (q : RL) (hk : q.Ok) (hq : Rs w q.A q.m q.c q.l) (r : RcD) (hr : r.At w) (hmb : mayB r = true) (hl : q.l ≠ []) (hf : fitsB (q.l ++ [r]) = false) (hg : q.n - (q.nx - q.st) < 2) : Calls Try.prog 14 #[q.val, r.val] w (RAns w q r) := by
  have hm0 : 0 < q.m := by rw [← hk.lm]; exact List.length_pos_iff.2 hl
  have HL := Lib.hid hl
  have Hm0 := Lib.hid hm0
  have HF := Lib.hid hf
  clear hl hm0 hf
  have HG := Lib.hid hg
  clear hg
  obtain ⟨w1, hw1⟩ : ∃ w1, ((w.alloc (.cells q.cells 35)).alloc (.cells r.cells 40)).alloc (.cells #[.int .i64 0, .int .i64 0, .int .i64 0, .int .i64 0, .int .i64 0, .slice none 0 0] 35) = w1 := ⟨_, rfl⟩
  have hm1 : Mod (fun _ => False) w w1 := by rw [← hw1]; exact (((Mod.refl _ w).alloc _).alloc _).alloc _
  have hsz : w1.heap.size = w.heap.size + 3 := by rw [← hw1]; simp
  have h2 : LIn w1 q w.heap.size := by
    rw [← hw1]
    exact (Below.heap_alloc _ _ _ (by simp; omega)).trans ((Below.heap_alloc _ _ _ (by simp)).trans (heap_alloc_new w _))
  have h3 : r.In w1 (w.heap.size + 1) := by
    rw [← hw1]
    refine (Below.heap_alloc _ _ _ (by simp)).trans ?_
    have := heap_alloc_new (w.alloc (.cells q.cells 35)) (.cells r.cells 40)
    simpa using this
  have h4 : LIn w1 RL.zero (w.heap.size + 2) := by
    rw [← hw1]
    have h0 := heap_alloc_new ((w.alloc (.cells q.cells 35)).alloc (.cells r.cells 40)) (.cells #[.int .i64 0, .int .i64 0, .int .i64 0, .int .i64 0, .int .i64 0, .slice none 0 0] 35)
    rw [show ((w.alloc (.cells q.cells 35)).alloc (.cells r.cells 40)).heap.size = w.heap.size + 2 by simp] at h0
    exact h0
  have hmay := rmay_ok w1 r
  rw [hmb] at hmay
  have Hmay := Lib.hid hmay
  have Hw1 := Lib.hid hw1
  have Hm1 := Lib.hid hm1
  have Hsz := Lib.hid hsz
  have H2 := Lib.hid h2
  have H3 := Lib.hid h3
  have H4 := Lib.hid h4
  have Hk := Lib.hid hk
  have Hq := Lib.hid hq
  have Hr := Lib.hid hr
  have Hmb := Lib.hid hmb
  have y0 := h3.kind
  have y1 := h3.num (i := 1) (by omega) (by omega)
  have y2 := h3.num (i := 2) (by omega) (by omega)
  have y3 := h3.num (i := 3) (by omega) (by omega)
  have y4 := h3.num (i := 4) (by omega) (by omega)
  have y5 := h3.num (i := 5) (by omega) (by omega)
  have y6 := h3.num (i := 6) (by omega) (by omega)
  have y7 := h3.num (i := 7) (by omega) (by omega)
  have y8 := h3.num (i := 8) (by omega) (by omega)
  have y9 := h3.num (i := 9) (by omega) (by omega)
  have y10 := h3.c10
  have y11 := h3.c11
  have y12 := h3.c12
  have y13 := h3.c13
  clear hmay hw1 hm1 hsz h2 h3 h4 hk hq hr hmb
  go_enter Try.func14, Try.ntmps14
  go_wp2_with fail
  rw [Hw1.out]
  clear Hw1
  refine Hmay.out.mono ?_
  rintro e w2 ⟨rfl, hm2⟩
  have h22 := H2.out.keep hm2
  have h42 := H4.out.keep hm2
  have H22 := Lib.hid h22
  have H32 := Lib.hid (H3.out.keep hm2)
  have H42 := Lib.hid h42
  have Hm2 := Lib.hid (Hm1.out.trans hm2 (fun _ _ h => h))
  have Hs2 : Hid (w.heap.size + 3 ≤ w2.heap.size) := by rw [← Hsz.out]; exact hm2.size
  clear hm2 Hmay H2 H3 H4 Hm1 Hsz y0 y1 y2 y3 y4 y5 y6 y7 y8 y9 y10 y11 y12 y13
  obtain ⟨n0, n1, s0, sn, nm, room, lm, few, some_⟩ := Hk.out
  have a0 := h22.c0
  have a1 := h22.c1
  have a2 := h22.c2
  have a3 := h22.c3
  have a4 := h22.c4
  have a5 := h22.c5
  have FB : Hid (∀ z : Int, z = q.n - (q.nx - q.st) → True) := fun _ _ => trivial
  clear h22 h42 FB
  go_wp2_with fail
  refine wp_region_held (by kernel_rfl) (ra_region (W := w2.drew) (by kernel_rfl) (by kernel_rfl) (by kernel_rfl) ?panic w.heap.size (w.heap.size + 1) q.A q.m q.c q.l r _ _ _ _ _ _ _ _ _ _ _ _ _ _ _ _ _ _ _ _ _ _ _ _ _ _ _ _ _ _ _ _ _ _ _ _ _ _ _ _ _ _ _ _ _ _ _ _ _ _ _ _ _ _ _ _ _ _ _ _ _ _ _ _ _ _ _ _ _ _ _ _ _ _ _ _ _ H22.out.c5 H32.out ((Hq.out.keep Hm2.out).keep ((Mod.refl _ w2).drew)) (by omega) ?fin)
  case panic =>
    intro c a t u w' hq
    cases t <;> exact hq
  intro A4 c4 gl A3 c3 w3 ho3 hm3
  have Hm3 := Lib.hid (Hm2.out.drew.trans hm3 (fun _ _ h => h))
  have h23 := LIn.keep (w := w2.drew) H22.out hm3
  have h43 := LIn.keep (w := w2.drew) H42.out hm3
  have H23 := Lib.hid h23
  have H43 := Lib.hid h43
  have H33 := Lib.hid (RcD.In.keep (w := w2.drew) H32.out hm3)
  have Hs3 : Hid (w.heap.size + 3 ≤ w3.heap.size) := Nat.le_trans Hs2.out hm3.size
  have Hnew : Hid (∀ k, blkOf A3 = some k → w.heap.size + 3 ≤ k) := fun k e => Nat.le_trans Hs2.out (ho3.lt k e).1
  have hrs3 : Rs w3 A3 (q.m + 1) c3 (q.l ++ [r]) := ho3.recs (fun y hy => by
    rcases List.mem_append.1 hy with hy | hy
    · exact (Hq.out.keep Hm3.out).ats y hy
    · rw [List.mem_singleton] at hy; subst hy; exact Hr.out.keep Hm3.out)
  have Hrs3 := Lib.hid hrs3
  have hfi := rfits_ok w3 A3 (q.m + 1) c3 (q.l ++ [r]) hrs3 (by omega)
  have hfi : Calls Try.prog 41 #[.slice A3 (q.m + 1) c3] w3 fun e w' => e = .returned (.bool (fitsB (q.l ++ [r]))) ∧ Mod (fun _ => False) w3 w' := hfi
  have Hfi := Lib.hid hfi
  clear a0 a1 a2 a3 a4 a5 H22 H32 H42 Hm2 Hs2 ho3 hm3 hrs3 hfi
  have a0 := h23.c0
  have a1 := h23.c1
  have a2 := h23.c2
  have a3 := h23.c3
  have a4 := h23.c4
  have a5 := h23.c5
  have z0 := h43.c0
  have z1 := h43.c1
  have z2 := h43.c2
  have z3 := h43.c3
  have z4 := h43.c4
  have z5 := h43.c5
  have fz := h43.fz
  have fy := h23.fz
  clear h23 h43
  have k0 : ((q.m : Int) == 0) = false := by have := Hm0.out; rw [beq_eq_false_iff_ne]; omega
  rw [HF.out] at Hfi
  go_wp2_with fail
  refine Hfi.out.mono ?_
  rintro e w4 ⟨rfl, hm4⟩
  have Hm4 := Lib.hid (Hm3.out.trans hm4 (fun _ _ h => h))
  have h24 := H23.out.keep hm4
  have h44 := H43.out.keep hm4
  have H24 := Lib.hid h24
  have H44 := Lib.hid h44
  have h34 := H33.out.keep hm4
  have H34 := Lib.hid h34
  have Hs4 : Hid (w.heap.size + 3 ≤ w4.heap.size) := Nat.le_trans Hs3.out hm4.size
  have Hrs4 := Lib.hid (Hrs3.out.keep hm4)
  clear hm4 Hfi a0 a1 a2 a3 a4 a5 z0 z1 z2 z3 z4 z5 fz fy H23 H43 Hm3 Hs3 Hrs3 H33
  have a0 := h24.c0
  have a1 := h24.c1
  have a2 := h24.c2
  have a3 := h24.c3
  have a4 := h24.c4
  have a5 := h24.c5
  have fy := h24.fz
  have k1 : decide (q.n - (q.nx - q.st) < 2) = true := by simpa using HG.out
  have z0 := h44.c0
  have z1 := h44.c1
  have z2 := h44.c2
  have z3 := h44.c3
  have z4 := h44.c4
  have z5 := h44.c5
  have fz := h44.fz
  clear h24 h44 h34
  go_wp2
  refine bodyPost_ret (v := .tuple #[q.val, .int .i64 0, .int .i64 4, .bool false]) (by simp [results, Try.results14, go_sem, z0, z1, z2, z3, z4, z5]) rfl ?_
  have hst : Mod (fun k => k = w.heap.size + 2) w4 (stLog w4 (w.heap.size + 2) q) := stLog_mod _ _ _
  have hmm := Hm4.out.trans hst (fun k hk e => by omega)
  exact ⟨⟨q, 0, 4, false, rfl, .full Hmb.out (.inr ⟨HL.out, HF.out, by have := HG.out; unfold growR; rw [decide_eq_false (by omega)]; rfl⟩), Hq.out.keep hmm, fun _ h => .inl h⟩, hmm⟩

set_option maxRecDepth 100000 in
set_option maxHeartbeats 4000000 in
theorem ra_full1b (w : World) (q : RL) (hk : q.Ok) (hq : Rs w q.A q.m q.c q.l) (r : RcD) (hr : r.At w) (hmb : mayB r = true) (hl : q.l ≠ []) (hf : fitsB (q.l ++ [r]) = false) (hg : ¬ q.n - (q.nx - q.st) < 2 ∧ 16777215 < q.nx + 2) : Calls Try.prog 14 #[q.val, r.val] w (RAns w q r) := by
  have hm0 : 0 < q.m := by rw [← hk.lm]; exact List.length_pos_iff.2 hl
  have HL := Lib.hid hl
  have Hm0 := Lib.hid hm0
  have HF := Lib.hid hf
  clear hl hm0 hf
  have HG := Lib.hid hg
  clear hg
  obtain ⟨w1, hw1⟩ : ∃ w1, ((w.alloc (.cells q.cells 35)).alloc (.cells r.cells 40)).alloc (.cells #[.int .i64 0, .int .i64 0, .int .i64 0, .int .i64 0, .int .i64 0, .slice none 0 0] 35) = w1 := ⟨_, rfl⟩
  have hm1 : Mod (fun _ => False) w w1 := by rw [← hw1]; exact (((Mod.refl _ w).alloc _).alloc _).alloc _
  have hsz : w1.heap.size = w.heap.size + 3 := by rw [← hw1]; simp
  have h2 : LIn w1 q w.heap.size := by
    rw [← hw1]
    exact (Below.heap_alloc _ _ _ (by simp; omega)).trans ((Below.heap_alloc _ _ _ (by simp)).trans (heap_alloc_new w _))
  have h3 : r.In w1 (w.heap.size + 1) := by
    rw [← hw1]
    refine (Below.heap_alloc _ _ _ (by simp)).trans ?_
    have := heap_alloc_new (w.alloc (.cells q.cells 35)) (.cells r.cells 40)
    simpa using this
  have h4 : LIn w1 RL.zero (w.heap.size + 2) := by
    rw [← hw1]
    have h0 := heap_alloc_new ((w.alloc (.cells q.cells 35)).alloc (.cells r.cells 40)) (.cells #[.int .i64 0, .int .i64 0, .int .i64 0, .int .i64 0, .int .i64 0, .slice none 0 0] 35)
    rw [show ((w.alloc (.cells q.cells 35)).alloc (.cells r.cells 40)).heap.size = w.heap.size + 2 by simp] at h0
    exact h0
  have hmay := rmay_ok w1 r
  rw [hmb] at hmay
  have Hmay := Lib.hid hmay
  have Hw1 := Lib.hid hw1
  have Hm1 := Lib.hid hm1
  have Hsz := Lib.hid hsz
  have H2 := Lib.hid h2
  have H3 := Lib.hid h3
  have H4 := Lib.hid h4
  have Hk := Lib.hid hk
  have Hq := Lib.hid hq
  have Hr := Lib.hid hr
  have Hmb := Lib.hid hmb
  have y0 := h3.kind
  have y1 := h3.num (i := 1) (by omega) (by omega)
  have y2 := h3.num (i := 2) (by omega) (by omega)
  have y3 := h3.num (i := 3) (by omega) (by omega)
  have y4 := h3.num (i := 4) (by omega) (by omega)
  have y5 := h3.num (i := 5) (by omega) (by omega)
  have y6 := h3.num (i := 6) (by omega) (by omega)
  have y7 := h3.num (i := 7) (by omega) (by omega)
  have y8 := h3.num (i := 8) (by omega) (by omega)
  have y9 := h3.num (i := 9) (by omega) (by omega)
  have y10 := h3.c10
  have y11 := h3.c11
  have y12 := h3.c12
  have y13 := h3.c13
  clear hmay hw1 hm1 hsz h2 h3 h4 hk hq hr hmb
  go_enter Try.func14, Try.ntmps14
  go_wp2_with fail
  rw [Hw1.out]
  clear Hw1
  refine Hmay.out.mono ?_
  rintro e w2 ⟨rfl, hm2⟩
  have h22 := H2.out.keep hm2
  have h42 := H4.out.keep hm2
  have H22 := Lib.hid h22
  have H32 := Lib.hid (H3.out.keep hm2)
  have H42 := Lib.hid h42
  have Hm2 := Lib.hid (Hm1.out.trans hm2 (fun _ _ h => h))
  have Hs2 : Hid (w.heap.size + 3 ≤ w2.heap.size) := by rw [← Hsz.out]; exact hm2.size
  clear hm2 Hmay H2 H3 H4 Hm1 Hsz y0 y1 y2 y3 y4 y5 y6 y7 y8 y9 y10 y11 y12 y13
  obtain ⟨n0, n1, s0, sn, nm, room, lm, few, some_⟩ := Hk.out
  have a0 := h22.c0
  have a1 := h22.c1
  have a2 := h22.c2
  have a3 := h22.c3
  have a4 := h22.c4
  have a5 := h22.c5
  have FB : Hid (∀ z : Int, z = q.n - (q.nx - q.st) → True) := fun _ _ => trivial
  clear h22 h42 FB
  go_wp2_with fail
  refine wp_region_held (by kernel_rfl) (ra_region (W := w2.drew) (by kernel_rfl) (by kernel_rfl) (by kernel_rfl) ?panic w.heap.size (w.heap.size + 1) q.A q.m q.c q.l r _ _ _ _ _ _ _ _ _ _ _ _ _ _ _ _ _ _ _ _ _ _ _ _ _ _ _ _ _ _ _ _ _ _ _ _ _ _ _ _ _ _ _ _ _ _ _ _ _ _ _ _ _ _ _ _ _ _ _ _ _ _ _ _ _ _ _ _ _ _ _ _ _ _ _ _ _ H22.out.c5 H32.out ((Hq.out.keep Hm2.out).keep ((Mod.refl _ w2).drew)) (by omega) ?fin)
  case panic =>
    intro c a t u w' hq
    cases t <;> exact hq
  intro A4 c4 gl A3 c3 w3 ho3 hm3
  have Hm3 := Lib.hid (Hm2.out.drew.trans hm3 (fun _ _ h => h))
  have h23 := LIn.keep (w := w2.drew) H22.out hm3
  have h43 := LIn.keep (w := w2.drew) H42.out hm3
  have H23 := Lib.hid h23
  have H43 := Lib.hid h43
  have H33 := Lib.hid (RcD.In.keep (w := w2.drew) H32.out hm3)
  have Hs3 : Hid (w.heap.size + 3 ≤ w3.heap.size) := Nat.le_trans Hs2.out hm3.size
  have Hnew : Hid (∀ k, blkOf A3 = some k → w.heap.size + 3 ≤ k) := fun k e => Nat.le_trans Hs2.out (ho3.lt k e).1
  have hrs3 : Rs w3 A3 (q.m + 1) c3 (q.l ++ [r]) := ho3.recs (fun y hy => by
    rcases List.mem_append.1 hy with hy | hy
    · exact (Hq.out.keep Hm3.out).ats y hy
    · rw [List.mem_singleton] at hy; subst hy; exact Hr.out.keep Hm3.out)
  have Hrs3 := Lib.hid hrs3
  have hfi := rfits_ok w3 A3 (q.m + 1) c3 (q.l ++ [r]) hrs3 (by omega)
  have hfi : Calls Try.prog 41 #[.slice A3 (q.m + 1) c3] w3 fun e w' => e = .returned (.bool (fitsB (q.l ++ [r]))) ∧ Mod (fun _ => False) w3 w' := hfi
  have Hfi := Lib.hid hfi
  clear a0 a1 a2 a3 a4 a5 H22 H32 H42 Hm2 Hs2 ho3 hm3 hrs3 hfi
  have a0 := h23.c0
  have a1 := h23.c1
  have a2 := h23.c2
  have a3 := h23.c3
  have a4 := h23.c4
  have a5 := h23.c5
  have z0 := h43.c0
  have z1 := h43.c1
  have z2 := h43.c2
  have z3 := h43.c3
  have z4 := h43.c4
  have z5 := h43.c5
  have fz := h43.fz
  have fy := h23.fz
  clear h23 h43
  have k0 : ((q.m : Int) == 0) = false := by have := Hm0.out; rw [beq_eq_false_iff_ne]; omega
  rw [HF.out] at Hfi
  go_wp2_with fail
  refine Hfi.out.mono ?_
  rintro e w4 ⟨rfl, hm4⟩
  have Hm4 := Lib.hid (Hm3.out.trans hm4 (fun _ _ h => h))
  have h24 := H23.out.keep hm4
  have h44 := H43.out.keep hm4
  have H24 := Lib.hid h24
  have H44 := Lib.hid h44
  have h34 := H33.out.keep hm4
  have H34 := Lib.hid h34
  have Hs4 : Hid (w.heap.size + 3 ≤ w4.heap.size) := Nat.le_trans Hs3.out hm4.size
  have Hrs4 := Lib.hid (Hrs3.out.keep hm4)
  clear hm4 Hfi a0 a1 a2 a3 a4 a5 z0 z1 z2 z3 z4 z5 fz fy H23 H43 Hm3 Hs3 Hrs3 H33
  have a0 := h24.c0
  have a1 := h24.c1
  have a2 := h24.c2
  have a3 := h24.c3
  have a4 := h24.c4
  have a5 := h24.c5
  have fy := h24.fz
  have k1 : decide (q.n - (q.nx - q.st) < 2) = false := by simpa using HG.out.1
  have k2 : decide (16777215 < q.nx + 2) = true := by simpa using HG.out.2
  have z0 := h44.c0
  have z1 := h44.c1
  have z2 := h44.c2
  have z3 := h44.c3
  have z4 := h44.c4
  have z5 := h44.c5
  have fz := h44.fz
  clear h24 h44 h34
  go_wp2
  refine bodyPost_ret (v := .tuple #[q.val, .int .i64 0, .int .i64 4, .bool false]) (by simp [results, Try.results14, go_sem, z0, z1, z2, z3, z4, z5]) rfl ?_
  have hst : Mod (fun k => k = w.heap.size + 2) w4 (stLog w4 (w.heap.size + 2) q) := stLog_mod _ _ _
  have hmm := Hm4.out.trans hst (fun k hk e => by omega)
  exact ⟨⟨q, 0, 4, false, rfl, .full Hmb.out (.inr ⟨HL.out, HF.out, by have := HG.out; unfold growR; rw [decide_eq_false (p := q.nx + 2 ≤ 16777215) (by omega), Bool.and_false]⟩), Hq.out.keep hmm, fun _ h => .inl h⟩, hmm⟩

set_option maxRecDepth 100000 in
set_option maxHeartbeats 4000000 in
theorem ra_next (w : World) (q : RL) (hk : q.Ok) (hq : Rs w q.A q.m q.c q.l) (r : RcD) (hr : r.At w) (hmb : mayB r = true) (hl : q.l ≠ []) (hf : fitsB (q.l ++ [r]) = false) (hg : growR q 2 = true) : Calls Try.prog 14 #[q.val, r.val] w (RAns w q r) := by
  have hm0 : 0 < q.m := by rw [← hk.lm]; exact List.length_pos_iff.2 hl
  have HL := Lib.hid hl
  have Hm0 := Lib.hid hm0
  have HF := Lib.hid hf
  clear hl hm0 hf
  have HG := Lib.hid hg
  clear hg
  obtain ⟨w1, hw1⟩ : ∃ w1, ((w.alloc (.cells q.cells 35)).alloc (.cells r.cells 40)).alloc (.cells #[.int .i64 0, .int .i64 0, .int .i64 0, .int .i64 0, .int .i64 0, .slice none 0 0] 35) = w1 := ⟨_, rfl⟩
  have hm1 : Mod (fun _ => False) w w1 := by rw [← hw1]; exact (((Mod.refl _ w).alloc _).alloc _).alloc _
  have hsz : w1.heap.size = w.heap.size + 3 := by rw [← hw1]; simp
  have h2 : LIn w1 q w.heap.size := by
    rw [← hw1]
    exact (Below.heap_alloc _ _ _ (by simp; omega)).trans ((Below.heap_alloc _ _ _ (by simp)).trans (heap_alloc_new w _))
  have h3 : r.In w1 (w.heap.size + 1) := by
    rw [← hw1]
    refine (Below.heap_alloc _ _ _ (by simp)).trans ?_
    have := heap_alloc_new (w.alloc (.cells q.cells 35)) (.cells r.cells 40)
    simpa using this
  have h4 : LIn w1 RL.zero (w.heap.size + 2) := by
    rw [← hw1]
    have h0 := heap_alloc_new ((w.alloc (.cells q.cells 35)).alloc (.cells r.cells 40)) (.cells #[.int .i64 0, .int .i64 0, .int .i64 0, .int .i64 0, .int .i64 0, .slice none 0 0] 35)
    rw [show ((w.alloc (.cells q.cells 35)).alloc (.cells r.cells 40)).heap.size = w.heap.size + 2 by simp] at h0
    exact h0
  have hmay := rmay_ok w1 r
  rw [hmb] at hmay
  have Hmay := Lib.hid hmay
  have Hw1 := Lib.hid hw1
  have Hm1 := Lib.hid hm1
  have Hsz := Lib.hid hsz
  have H2 := Lib.hid h2
  have H3 := Lib.hid h3
  have H4 := Lib.hid h4
  have Hk := Lib.hid hk
  have Hq := Lib.hid hq
  have Hr := Lib.hid hr
  have Hmb := Lib.hid hmb
  have y0 := h3.kind
  have y1 := h3.num (i := 1) (by omega) (by omega)
  have y2 := h3.num (i := 2) (by omega) (by omega)
  have y3 := h3.num (i := 3) (by omega) (by omega)
  have y4 := h3.num (i := 4) (by omega) (by omega)
  have y5 := h3.num (i := 5) (by omega) (by omega)
  have y6 := h3.num (i := 6) (by omega) (by omega)
  have y7 := h3.num (i := 7) (by omega) (by omega)
  have y8 := h3.num (i := 8) (by omega) (by omega)
  have y9 := h3.num (i := 9) (by omega) (by omega)
  have y10 := h3.c10
  have y11 := h3.c11
  have y12 := h3.c12
  have y13 := h3.c13
  clear hmay hw1 hm1 hsz h2 h3 h4 hk hq hr hmb
  go_enter Try.func14, Try.ntmps14
  go_wp2_with fail
  rw [Hw1.out]
  clear Hw1
  refine Hmay.out.mono ?_
  rintro e w2 ⟨rfl, hm2⟩
  have h22 := H2.out.keep hm2
  have h42 := H4.out.keep hm2
  have H22 := Lib.hid h22
  have H32 := Lib.hid (H3.out.keep hm2)
  have H42 := Lib.hid h42
  have Hm2 := Lib.hid (Hm1.out.trans hm2 (fun _ _ h => h))
  have Hs2 : Hid (w.heap.size + 3 ≤ w2.heap.size) := by rw [← Hsz.out]; exact hm2.size
  clear hm2 Hmay H2 H3 H4 Hm1 Hsz y0 y1 y2 y3 y4 y5 y6 y7 y8 y9 y10 y11 y12 y13
  obtain ⟨n0, n1, s0, sn, nm, room, lm, few, some_⟩ := Hk.out
  have a0 := h22.c0
  have a1 := h22.c1
  have a2 := h22.c2
  have a3 := h22.c3
  have a4 := h22.c4
  have a5 := h22.c5
  have FB : Hid (∀ z : Int, z = q.n - (q.nx - q.st) → True) := fun _ _ => trivial
  clear h22 h42 FB
  go_wp2_with fail
  refine wp_region_held (by kernel_rfl) (ra_region (W := w2.drew) (by kernel_rfl) (by kernel_rfl) (by kernel_rfl) ?panic w.heap.size (w.heap.size + 1) q.A q.m q.c q.l r _ _ _ _ _ _ _ _ _ _ _ _ _ _ _ _ _ _ _ _ _ _ _ _ _ _ _ _ _ _ _ _ _ _ _ _ _ _ _ _ _ _ _ _ _ _ _ _ _ _ _ _ _ _ _ _ _ _ _ _ _ _ _ _ _ _ _ _ _ _ _ _ _ _ _ _ _ H22.out.c5 H32.out ((Hq.out.keep Hm2.out).keep ((Mod.refl _ w2).drew)) (by omega) ?fin)
  case panic =>
    intro c a t u w' hq
    cases t <;> exact hq
  intro A4 c4 gl A3 c3 w3 ho3 hm3
  have Hm3 := Lib.hid (Hm2.out.drew.trans hm3 (fun _ _ h => h))
  have h23 := LIn.keep (w := w2.drew) H22.out hm3
  have h43 := LIn.keep (w := w2.drew) H42.out hm3
  have H23 := Lib.hid h23
  have H43 := Lib.hid h43
  have H33 := Lib.hid (RcD.In.keep (w := w2.drew) H32.out hm3)
  have Hs3 : Hid (w.heap.size + 3 ≤ w3.heap.size) := Nat.le_trans Hs2.out hm3.size
  have Hnew : Hid (∀ k, blkOf A3 = some k → w.heap.size + 3 ≤ k) := fun k e => Nat.le_trans Hs2.out (ho3.lt k e).1
  have hrs3 : Rs w3 A3 (q.m + 1) c3 (q.l ++ [r]) := ho3.recs (fun y hy => by
    rcases List.mem_append.1 hy with hy | hy
    · exact (Hq.out.keep Hm3.out).ats y hy
    · rw [List.mem_singleton] at hy; subst hy; exact Hr.out.keep Hm3.out)
  have Hrs3 := Lib.hid hrs3
  have hfi := rfits_ok w3 A3 (q.m + 1) c3 (q.l ++ [r]) hrs3 (by omega)
  have hfi : Calls Try.prog 41 #[.slice A3 (q.m + 1) c3] w3 fun e w' => e = .returned (.bool (fitsB (q.l ++ [r]))) ∧ Mod (fun _ => False) w3 w' := hfi
  have Hfi := Lib.hid hfi
  clear a0 a1 a2 a3 a4 a5 H22 H32 H42 Hm2 Hs2 ho3 hm3 hrs3 hfi
  have a0 := h23.c0
  have a1 := h23.c1
  have a2 := h23.c2
  have a3 := h23.c3
  have a4 := h23.c4
  have a5 := h23.c5
  have z0 := h43.c0
  have z1 := h43.c1
  have z2 := h43.c2
  have z3 := h43.c3
  have z4 := h43.c4
  have z5 := h43.c5
  have fz := h43.fz
  have fy := h23.fz
  clear h23 h43
  have k0 : ((q.m : Int) == 0) = false := by have := Hm0.out; rw [beq_eq_false_iff_ne]; omega
  rw [HF.out] at Hfi
  go_wp2_with fail
  refine Hfi.out.mono ?_
  rintro e w4 ⟨rfl, hm4⟩
  have Hm4 := Lib.hid (Hm3.out.trans hm4 (fun _ _ h => h))
  have h24 := H23.out.keep hm4
  have h44 := H43.out.keep hm4
  have H24 := Lib.hid h24
  have H44 := Lib.hid h44
  have h34 := H33.out.keep hm4
  have H34 := Lib.hid h34
  have Hs4 : Hid (w.heap.size + 3 ≤ w4.heap.size) := Nat.le_trans Hs3.out hm4.size
  have Hrs4 := Lib.hid (Hrs3.out.keep hm4)
  clear hm4 Hfi a0 a1 a2 a3 a4 a5 z0 z1 z2 z3 z4 z5 fz fy H23 H43 Hm3 Hs3 Hrs3 H33
  have a0 := h24.c0
  have a1 := h24.c1
  have a2 := h24.c2
  have a3 := h24.c3
  have a4 := h24.c4
  have a5 := h24.c5
  have fy := h24.fz
  have k1 : decide (q.n - (q.nx - q.st) < 2) = false := by have := growR_iff.1 HG.out; simpa using this.1
  have k2 : decide (16777215 < q.nx + 2) = false := by have := growR_iff.1 HG.out; simpa using this.2
  have y0 := h34.kind
  have y1 := h34.num (i := 1) (by omega) (by omega)
  have y2 := h34.num (i := 2) (by omega) (by omega)
  have y3 := h34.num (i := 3) (by omega) (by omega)
  have y4 := h34.num (i := 4) (by omega) (by omega)
  have y5 := h34.num (i := 5) (by omega) (by omega)
  have y6 := h34.num (i := 6) (by omega) (by omega)
  have y7 := h34.num (i := 7) (by omega) (by omega)
  have y8 := h34.num (i := 8) (by omega) (by omega)
  have y9 := h34.num (i := 9) (by omega) (by omega)
  have y10 := h34.c10
  have y11 := h34.c11
  have y12 := h34.c12
  have y13 := h34.c13
  clear h24 h44 h34
  have mx : q.nx + 2 ≤ 16777215 := (growR_iff.1 HG.out).2
  obtain ⟨w5, hw5⟩ : ∃ w5, ((w4.setCell ⟨w.heap.size, 3, none⟩ (.int .i64 (q.nx + 1))).alloc (.cells r.cells 40)).setCell ⟨w.heap.size, 5, none⟩ (.slice (some ⟨w4.heap.size, 0, none⟩) 1 1) = w5 := ⟨_, rfl⟩
  have hm5 : Mod (fun k => k = w.heap.size) w4 w5 := by rw [← hw5]; exact (((Mod.refl _ w4).one 3 _).alloc _).one 5 _
  have h25 : LIn w5 { q with nx := q.nx + 1, A := some ⟨w4.heap.size, 0, none⟩, m := 1, c := 1, l := [r] } w.heap.size := by
    rw [← hw5]
    show _ = _
    have h0 := heap_set H24.out 3 (.int .i64 (q.nx + 1))
    have h1 := (Below.heap_alloc (w4.setCell ⟨w.heap.size, 3, none⟩ (.int .i64 (q.nx + 1))) (.cells r.cells 40) _ (Array.getElem?_eq_some_iff.1 h0).1).trans h0
    rw [heap_set h1]
    rfl
  have hb1 : ((w4.setCell ⟨w.heap.size, 3, none⟩ (.int .i64 (q.nx + 1))).alloc (.cells r.cells 40)).heap[w.heap.size]? = some (.cells ({ q with nx := q.nx + 1 } : RL).cells 35 (0, 0)) := by
    have h0 := heap_set H24.out 3 (.int .i64 (q.nx + 1))
    exact (Below.heap_alloc (w4.setCell ⟨w.heap.size, 3, none⟩ (.int .i64 (q.nx + 1))) (.cells r.cells 40) _ (Array.getElem?_eq_some_iff.1 h0).1).trans h0
  have fb1 := frozen_of_block hb1 5
  have cb1 : ((w4.setCell ⟨w.heap.size, 3, none⟩ (.int .i64 (q.nx + 1))).alloc (.cells r.cells 40)).cell? ⟨w.heap.size, 5, none⟩ = some (.slice q.A q.m q.c) := by rw [cell_of_row _ _ _ _ _ _ hb1]; rfl
  clear hb1
  have h45 : LIn w5 RL.zero (w.heap.size + 2) := (hm5.block _ H44.out.lt (by omega)).trans H44.out
  have hrow5 : w5.heap[w4.heap.size]? = some (.cells r.cells 40 (0, 0)) := by
    rw [← hw5]
    have h0 := heap_alloc_new (w4.setCell ⟨w.heap.size, 3, none⟩ (.int .i64 (q.nx + 1))) (.cells r.cells 40)
    have hsz : (w4.setCell ⟨w.heap.size, 3, none⟩ (.int .i64 (q.nx + 1))).heap.size = w4.heap.size := by simp [World.setCell]
    rw [hsz] at h0
    refine (Below.heap_setCell _ _ _ _ (fun e => ?_)).trans h0
    have := Hs4.out
    simp only at e
    omega
  have Hrow5 := Lib.hid hrow5
  have Hm5 := Lib.hid hm5
  have Hw5 := Lib.hid hw5
  have H25 := Lib.hid h25
  have H45 := Lib.hid h45
  have hsz4 : (w4.setCell ⟨w.heap.size, 3, none⟩ (.int .i64 (q.nx + 1))).heap.size = w4.heap.size := by simp [World.setCell]
  clear hm5 h25 h45 hw5 hrow5
  go_wp2_with fail
  first | rw [hsz4, Hw5.out] | rw [Hw5.out]
  clear fb1 cb1 hsz4
  clear Hw5 a0 a1 a2 a3 a4 a5 fy y0 y1 y2 y3 y4 y5 y6 y7 y8 y9 y10 y11 y12 y13
  refine wp_region_held (by kernel_rfl) (ra16_region (W := w5.drew) (by kernel_rfl) (by kernel_rfl) (by kernel_rfl) ?panic2 w.heap.size (w.heap.size + 2) (by omega) { q with nx := q.nx + 1, A := some ⟨w4.heap.size, 0, none⟩, m := 1, c := 1, l := [r] } _ _ _ _ _ _ _ _ _ _ _ _ _ _ _ _ _ _ _ _ _ _ _ _ _ _ _ _ _ _ _ _ _ _ _ _ _ _ _ _ _ _ _ _ _ _ _ _ _ _ _ _ _ _ _ _ _ _ _ _ _ _ _ _ _ _ _ _ _ _ _ _ _ _ _ _ _ H25.out H45.out ?fin2)
  case panic2 =>
    intro c a t u w' hq
    cases t <;> exact hq
  obtain ⟨w6, hw6⟩ : ∃ w6, stLog w5.drew (w.heap.size + 2) { q with nx := q.nx + 1, A := some ⟨w4.heap.size, 0, none⟩, m := 1, c := 1, l := [r] } = w6 := ⟨_, rfl⟩
  have hm6 : Mod (fun k => k = w.heap.size + 2) w5.drew w6 := by rw [← hw6]; exact stLog_mod _ _ _
  have h46 : LIn w6 { q with nx := q.nx + 1, A := some ⟨w4.heap.size, 0, none⟩, m := 1, c := 1, l := [r] } (w.heap.size + 2) := by rw [← hw6]; exact stLog_in (W := w5.drew) H45.out _
  rw [hw6]
  have e0 : w6.cell? ⟨w.heap.size + 2, 0, none⟩ = some (.int .i64 q.n) := h46.c0
  have e1 : w6.cell? ⟨w.heap.size + 2, 1, none⟩ = some (.int .i64 q.ep) := h46.c1
  have e2 : w6.cell? ⟨w.heap.size + 2, 2, none⟩ = some (.int .i64 q.st) := h46.c2
  have e3 : w6.cell? ⟨w.heap.size + 2, 3, none⟩ = some (.int .i64 (q.nx + 1)) := h46.c3
  have e4 : w6.cell? ⟨w.heap.size + 2, 4, none⟩ = some (.int .i64 q.du) := h46.c4
  have e5 : w6.cell? ⟨w.heap.size + 2, 5, none⟩ = some (.slice (some ⟨w4.heap.size, 0, none⟩) 1 1) := h46.c5
  have hev : IntKind.i64.wrap ((q.nx + 1) * 256) = 256 * (q.nx + 1) := by
    rw [IntKind.wrap_i64] <;> omega
  have Hev := Lib.hid hev
  have Hm6 := Lib.hid hm6
  clear hw6 hm6 h46 hev
  go_wp2
  refine bodyPost_ret (v := .tuple #[.agg #[.int .i64 q.n, .int .i64 q.ep, .int .i64 q.st, .int .i64 (q.nx + 1), .int .i64 q.du, .slice (some ⟨w4.heap.size, 0, none⟩) 1 1], .int .i64 (256 * (q.nx + 1)), .int .i64 0, .bool true]) (by rw [← Hev.out]; simp [results, Try.results14, go_sem, e0, e1, e2, e3, e4, e5]) rfl ?_
  have hmm : Mod (fun _ => False) w w6 := ((Hm4.out.trans Hm5.out (fun k hk e => by omega)).drew).trans Hm6.out (fun k hk e => by omega)
  refine ⟨⟨{ q with nx := q.nx + 1, A := some ⟨w4.heap.size, 0, none⟩, m := 1, c := 1, l := [r] }, _, 0, true, rfl, .next _ 1 Hmb.out HL.out HF.out HG.out, ?_, fun k hk => .inr (by injection hk with hk; have := Hs4.out; have hk : w4.heap.size = k := hk; omega)⟩, hmm⟩
  have hrow6 : w6.heap[w4.heap.size]? = some (.cells r.cells 40 (0, 0)) := (Hm6.out.block _ (Array.getElem?_eq_some_iff.1 Hrow5.out).1 (by have := Hs4.out; omega)).trans Hrow5.out
  refine ⟨rfl, Nat.le_refl _, fun _ => ⟨w4.heap.size, 0, rfl, fun i x hx => ?_⟩, fun x hx => by rw [List.mem_singleton] at hx; subst hx; exact Hr.out.keep hmm⟩
  obtain rfl : i = 0 := by have := (List.getElem?_eq_some_iff.1 hx).1; simp at this; omega
  injection hx with hx
  subst hx
  refine .of fun j u hu => ?_
  rw [cell_of_row _ _ _ _ _ _ hrow6, Nat.zero_add]
  simpa using hu

theorem rapp_ok (w : World) (q : RL) (hk : q.Ok) (hq : Rs w q.A q.m q.c q.l) (r : RcD) (hr : r.At w) : Calls Try.prog 14 #[q.val, r.val] w (RAns w q r) := by
  cases hmb : mayB r with
  | false => exact ra_arg w q hk hq r hr hmb
  | true =>
    by_cases hl : q.l = []
    · cases hg : growR q 1 with
      | true => exact ra_fit0 w q hk hq r hr hmb hl (by rw [hl]; exact fits_one hr hmb) hg
      | false =>
        by_cases h1 : q.n - (q.nx - q.st) < 1
        · exact ra_full0a w q hk hq r hr hmb hl h1
        · refine ra_full0b w q hk hq r hr hmb hl ⟨h1, ?_⟩
          have h2 : ¬ (1 ≤ q.n - (q.nx - q.st) ∧ q.nx + 1 ≤ 16777215) := fun h => by rw [growR_iff.2 h] at hg; cases hg
          omega
    · cases hf : fitsB (q.l ++ [r]) with
      | true => exact ra_fit1 w q hk hq r hr hmb hl hf
      | false =>
        cases hg : growR q 2 with
        | true => exact ra_next w q hk hq r hr hmb hl hf hg
        | false =>
          by_cases h1 : q.n - (q.nx - q.st) < 2
          · exact ra_full1a w q hk hq r hr hmb hl hf h1
          · refine ra_full1b w q hk hq r hr hmb hl hf ⟨h1, ?_⟩
            have h2 : ¬ (2 ≤ q.n - (q.nx - q.st) ∧ q.nx + 2 ≤ 16777215) := fun h => by rw [growR_iff.2 h] at hg; cases hg
            omega
end Go.Proofs.Ytidligegmhlikaa
