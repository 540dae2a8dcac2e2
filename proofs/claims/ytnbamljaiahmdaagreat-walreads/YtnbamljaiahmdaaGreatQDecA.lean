/-
  rec.Decode, a part of its ways.
-/
import Derived.Test.YtnbamljaiahmdaaGreatQDec
namespace Go.Proofs.YtnbamljaiahmdaaGreat
open Go Go.RowKit Go.Shelf

set_option linter.unusedVariables false in
set_option maxRecDepth 100000 in
set_option maxHeartbeats 4000000 in
theorem decode_nil (w : World) (A : Option Addr) (n c : Nat) (h : Sl w A n c []) (hn : n ≤ 1000000) :
    Calls Tryz.prog 91 #[.slice A n c] w fun e w' => DecAns w w' e (decode []) ∧ Mod (fun _ => False) w w' := by
  obtain ⟨w1, hw1⟩ : ∃ w1, w.alloc (.cells #[.int .i64 0, .int .i64 0, .int .i64 0, .int .i64 0, .int .i64 0, .int .i64 0, .int .i64 0, .int .i64 0, .int .i64 0, .int .i64 0, .bool false, .slice none 0 0, .bool false, .slice none 0 0] 47) = w1 := ⟨_, rfl⟩
  have hm1 : Mod (fun _ => False) w w1 := by rw [← hw1]; exact (Mod.refl _ w).alloc _
  have hz1 : RcD.zero.In w1 w.heap.size := by rw [← hw1]; exact RcD.In.new w RcD.zero
  have hs1 : w1.heap.size = w.heap.size + 1 := by rw [← hw1, World.size_alloc]
  have Hnr := Lib.hid (newReader_ok w1 A n c [] (h.mod hm1 (fun _ _ _ => id)) (by omega))
  have Hm1 := Lib.hid hm1
  have Hz1 := Lib.hid hz1
  have Hs1 := Lib.hid hs1
  clear hm1 hz1 hs1 h
  go_enter Tryz.func91, Tryz.ntmps91
  go_wp2_with fail
  refine Hnr.out.mono ?_
  rintro e w2 ⟨rfl, hrd2, hs2, hm2⟩
  obtain ⟨w3, hw3⟩ : ∃ w3, w2.alloc (.cells #[.pointer (some ⟨w1.heap.size + 1, 0, none⟩)] 140) = w3 := ⟨_, rfl⟩
  have hm3 : Mod (fun _ => False) w2 w3 := by rw [← hw3]; exact (Mod.refl _ w2).alloc _
  have hrd3 : Rd w3 (w1.heap.size + 1) (some ⟨w1.heap.size, 0, none⟩) n n [] := hrd2.mod hm3 id (fun _ _ _ => id)
  have hib3 : Bx w3 w2.heap.size 140 (.pointer (some ⟨w1.heap.size + 1, 0, none⟩)) := by rw [← hw3]; exact Bx.new w2 _ _
  have hs3 : w3.heap.size = w2.heap.size + 1 := by rw [← hw3, World.size_alloc]
  have hm13 := hm2.trans hm3 (fun _ _ h => h)
  have Hold3 := Lib.hid (Hm1.out.trans hm13 (fun _ _ h => h))
  have H13 := Lib.hid hm13
  have HZ1 := Lib.hid Hz1.out
  have HM1 := Lib.hid Hm1.out
  have Hz3 := Lib.hid (Hz1.out.keep hm13)
  have Hrd3 := Lib.hid hrd3
  have Hib3 := Lib.hid hib3
  have Hsz : Hid (w1.heap.size = w.heap.size + 1 ∧ w2.heap.size = w.heap.size + 3 ∧ w3.heap.size = w.heap.size + 4) := by have := Hs1.out; exact ⟨this, by omega, by omega⟩
  have ci := hib3.cell
  clear hrd2 hs2 hm2 hm3 hib3 hs3 hm13 Hnr Hm1 Hz1 Hs1 hw1 hrd3
  have Hg := Lib.hid (get1_none Hrd3.out)
  go_wp2_with fail
  clear hw3
  refine Hg.out.mono ?_
  rintro e w4 ⟨rfl, rfl⟩
  clear Hg ci
  obtain ⟨w5, hw5⟩ : ∃ w5, (w3.alloc (.cells #[.int .i64 6] 25)).alloc (.cells #[.int .i64 0, .int .i64 0, .int .i64 0, .int .i64 0, .int .i64 0, .int .i64 0, .int .i64 0, .int .i64 0, .int .i64 0, .int .i64 0, .bool false, .slice none 0 0, .bool false, .slice none 0 0] 47) = w5 := ⟨_, rfl⟩
  have hm5 : Mod (fun _ => False) w3 w5 := by rw [← hw5]; exact ((Mod.refl _ w3).alloc _).alloc _
  have hr5 : RcD.zero.In w5 (w3.heap.size + 1) := by
    rw [← hw5]
    have := RcD.In.new (w3.alloc (.cells #[.int .i64 6] 25)) RcD.zero
    rw [World.size_alloc] at this
    exact this
  have he5 : Bx w5 w3.heap.size 25 (.int .i64 6) := by rw [← hw5]; exact (Bx.new w3 _ _).keep ((Mod.refl _ _).alloc _)
  have Hf := Lib.hid (fields_no w5 (w3.heap.size + 1) 0 hr5.kind rfl 100 101 #[.pointer (some ⟨w3.heap.size, 0, none⟩), .pointer (some ⟨w2.heap.size, 0, none⟩)] #[.pointer (some ⟨w3.heap.size, 0, none⟩), .pointer (some ⟨w2.heap.size, 0, none⟩)])
  have hz5 := Hz3.out.keep hm5
  have ce := he5.cell
  have p0 := hz5.kind
  have p1 := hz5.num (i := 1) (by omega) (by omega)
  have p2 := hz5.num (i := 2) (by omega) (by omega)
  have p3 := hz5.num (i := 3) (by omega) (by omega)
  have p4 := hz5.num (i := 4) (by omega) (by omega)
  have p5 := hz5.num (i := 5) (by omega) (by omega)
  have p6 := hz5.num (i := 6) (by omega) (by omega)
  have p7 := hz5.num (i := 7) (by omega) (by omega)
  have p8 := hz5.num (i := 8) (by omega) (by omega)
  have p9 := hz5.num (i := 9) (by omega) (by omega)
  have p10 := hz5.c10
  have p11 := hz5.c11
  have p12 := hz5.c12
  have p13 := hz5.c13
  have q0 := hz5.fz 0
  have q1 := hz5.fz 1
  have q2 := hz5.fz 2
  have q3 := hz5.fz 3
  have q4 := hz5.fz 4
  have q5 := hz5.fz 5
  have q6 := hz5.fz 6
  have q7 := hz5.fz 7
  have q8 := hz5.fz 8
  have q9 := hz5.fz 9
  have q10 := hz5.fz 10
  have q11 := hz5.fz 11
  have q12 := hz5.fz 12
  have q13 := hz5.fz 13
  have hne : w.heap.size < w3.heap.size := by have := Hsz.out; omega
  have Hold5 := Lib.hid (Hold3.out.trans hm5 (fun _ _ h => h))
  have Hz5 := Lib.hid hz5
  have Hw5 := Lib.hid hw5
  clear hm5 hr5 he5 hz5 hw5
  go_wp2_with fail
  rw [Hw5.out]
  clear Hw5
  refine Hf.out.mono ?_
  rintro e w6 ⟨rfl, rfl⟩
  clear Hf
  have Hd : Hid (decode [] = (6, Rc.zero)) := rfl
  have HzT := Lib.hid Hz5.out
  have HoldT := Lib.hid Hold5.out
  go_wp2
  go_region
  change Exit.then _ _ _ _ (stRec w5 w.heap.size RcD.zero).drew
  obtain ⟨w7, hw7⟩ : ∃ w7, (stRec w5 w.heap.size RcD.zero).drew = w7 := ⟨_, rfl⟩
  have h7 : RcD.zero.In w7 w.heap.size := by rw [← hw7]; exact (stRec_in HzT.out RcD.zero).keep (Mod.refl _ _).drew
  have H7 : Hid (Mod (fun _ => False) w w7) := by rw [← hw7]; exact (HoldT.out.trans (stRec_mod w5 w.heap.size RcD.zero) (fun k hk e => by omega)).drew
  rw [hw7]
  have r0 := h7.kind
  have r1 := h7.num (i := 1) (by omega) (by omega)
  have r2 := h7.num (i := 2) (by omega) (by omega)
  have r3 := h7.num (i := 3) (by omega) (by omega)
  have r4 := h7.num (i := 4) (by omega) (by omega)
  have r5 := h7.num (i := 5) (by omega) (by omega)
  have r6 := h7.num (i := 6) (by omega) (by omega)
  have r7 := h7.num (i := 7) (by omega) (by omega)
  have r8 := h7.num (i := 8) (by omega) (by omega)
  have r9 := h7.num (i := 9) (by omega) (by omega)
  have r10 := h7.c10
  have r11 := h7.c11
  have r12 := h7.c12
  have r13 := h7.c13
  clear hw7 h7 p0 p1 p2 p3 p4 p5 p6 p7 p8 p9 p10 p11 p12 p13 q0 q1 q2 q3 q4 q5 q6 q7 q8 q9 q10 q11 q12 q13
  go_wp2
  refine bodyPost_ret (v := .tuple #[.agg RcD.zero.cells, .int .i64 6]) (by simp [results, Tryz.results91, go_sem, r0, r1, r2, r3, r4, r5, r6, r7, r8, r9, r10, r11, r12, r13]) rfl ?_
  exact ⟨⟨RcD.zero, by rw [Hd.out], by rw [Hd.out]; rfl, VlD.none_own _ _, VlD.none_own _ _⟩, H7.out⟩

set_option linter.unusedVariables false in
set_option maxRecDepth 100000 in
set_option maxHeartbeats 4000000 in
theorem decode_none (w : World) (A : Option Addr) (n c : Nat) (b : UInt8) (ys : List UInt8) (hfl : fieldsOf b.toNat = none) (h : Sl w A n c (b :: ys)) (hn : n ≤ 1000000) :
    Calls Tryz.prog 91 #[.slice A n c] w fun e w' => DecAns w w' e (decode (b :: ys)) ∧ Mod (fun _ => False) w w' := by
  obtain ⟨w1, hw1⟩ : ∃ w1, w.alloc (.cells #[.int .i64 0, .int .i64 0, .int .i64 0, .int .i64 0, .int .i64 0, .int .i64 0, .int .i64 0, .int .i64 0, .int .i64 0, .int .i64 0, .bool false, .slice none 0 0, .bool false, .slice none 0 0] 47) = w1 := ⟨_, rfl⟩
  have hm1 : Mod (fun _ => False) w w1 := by rw [← hw1]; exact (Mod.refl _ w).alloc _
  have hz1 : RcD.zero.In w1 w.heap.size := by rw [← hw1]; exact RcD.In.new w RcD.zero
  have hs1 : w1.heap.size = w.heap.size + 1 := by rw [← hw1, World.size_alloc]
  have Hnr := Lib.hid (newReader_ok w1 A n c (b :: ys) (h.mod hm1 (fun _ _ _ => id)) (by omega))
  have Hm1 := Lib.hid hm1
  have Hz1 := Lib.hid hz1
  have Hs1 := Lib.hid hs1
  clear hm1 hz1 hs1 h
  go_enter Tryz.func91, Tryz.ntmps91
  go_wp2_with fail
  refine Hnr.out.mono ?_
  rintro e w2 ⟨rfl, hrd2, hs2, hm2⟩
  obtain ⟨w3, hw3⟩ : ∃ w3, w2.alloc (.cells #[.pointer (some ⟨w1.heap.size + 1, 0, none⟩)] 140) = w3 := ⟨_, rfl⟩
  have hm3 : Mod (fun _ => False) w2 w3 := by rw [← hw3]; exact (Mod.refl _ w2).alloc _
  have hrd3 : Rd w3 (w1.heap.size + 1) (some ⟨w1.heap.size, 0, none⟩) n n (b :: ys) := hrd2.mod hm3 id (fun _ _ _ => id)
  have hib3 : Bx w3 w2.heap.size 140 (.pointer (some ⟨w1.heap.size + 1, 0, none⟩)) := by rw [← hw3]; exact Bx.new w2 _ _
  have hs3 : w3.heap.size = w2.heap.size + 1 := by rw [← hw3, World.size_alloc]
  have hm13 := hm2.trans hm3 (fun _ _ h => h)
  have Hold3 := Lib.hid (Hm1.out.trans hm13 (fun _ _ h => h))
  have H13 := Lib.hid hm13
  have HZ1 := Lib.hid Hz1.out
  have HM1 := Lib.hid Hm1.out
  have Hz3 := Lib.hid (Hz1.out.keep hm13)
  have Hrd3 := Lib.hid hrd3
  have Hib3 := Lib.hid hib3
  have Hsz : Hid (w1.heap.size = w.heap.size + 1 ∧ w2.heap.size = w.heap.size + 3 ∧ w3.heap.size = w.heap.size + 4) := by have := Hs1.out; exact ⟨this, by omega, by omega⟩
  have ci := hib3.cell
  clear hrd2 hs2 hm2 hm3 hib3 hs3 hm13 Hnr Hm1 Hz1 Hs1 hw1 hrd3
  have Hg := Lib.hid (get1_some Hrd3.out (by unfold maxLen; omega))
  go_wp2_with fail
  clear hw3
  refine Hg.out.mono ?_
  rintro e w4 ⟨rfl, A4, hrd4, hA4, hm4, hs4⟩
  clear Hg ci
  obtain ⟨w5, hw5⟩ : ∃ w5, (w4.alloc (.cells #[.int .i64 0] 25)).alloc (.cells #[.int .i64 b.toNat, .int .i64 0, .int .i64 0, .int .i64 0, .int .i64 0, .int .i64 0, .int .i64 0, .int .i64 0, .int .i64 0, .int .i64 0, .bool false, .slice none 0 0, .bool false, .slice none 0 0] 47) = w5 := ⟨_, rfl⟩
  have hm5 : Mod (fun _ => False) w4 w5 := by rw [← hw5]; exact ((Mod.refl _ w4).alloc _).alloc _
  have hr5 : (⟨b.toNat, fun _ => 0, VlD.none, VlD.none⟩ : RcD).In w5 (w4.heap.size + 1) := by
    rw [← hw5]
    have := RcD.In.new (w4.alloc (.cells #[.int .i64 0] 25)) ⟨b.toNat, fun _ => 0, VlD.none, VlD.none⟩
    rw [World.size_alloc] at this
    exact this
  have he5 : Bx w5 w4.heap.size 25 (.int .i64 0) := by rw [← hw5]; exact (Bx.new w4 _ _).keep ((Mod.refl _ _).alloc _)
  have hsz := Hsz.out
  have hz5 := (Hz3.out.mod hm4 (by omega)).keep hm5
  have hi5 := (Hib3.out.mod hm4 (by omega)).keep hm5
  have hold4 : Mod (fun _ => False) w w4 := Hold3.out.trans hm4 (fun k hk e => by omega)
  have hold5 := hold4.trans hm5 (fun _ _ h => h)
  have H15 : Hid (Mod (fun _ => False) w1 w5) := (H13.out.trans hm4 (fun k hk e => by omega)).trans hm5 (fun _ _ h => h)
  have hrd5 : Rd w5 (w1.heap.size + 1) A4 (n - 1) (n - 1) ys := hrd4.mod hm5 id (fun _ _ _ => id)
  have Hw5 := Lib.hid hw5
  have hsz5 : w5.heap.size = w4.heap.size + 2 := by rw [← hw5, World.size_alloc, World.size_alloc]
  have hs4' : w4.heap.size = w.heap.size + 4 := by omega
  have Hz5 := Lib.hid hz5
  have Hold5 := Lib.hid hold5
  have He5 := Lib.hid he5
  have Hr5 := Lib.hid hr5
  have Hi5 := Lib.hid hi5
  have Hrd5 := Lib.hid hrd5
  have HA4 : Hid (blkOf A4 = some w1.heap.size) := hA4
  have Hsz5 : Hid (w1.heap.size = w.heap.size + 1 ∧ w2.heap.size = w.heap.size + 3 ∧ w4.heap.size = w.heap.size + 4 ∧ w5.heap.size = w.heap.size + 6) := ⟨by omega, by omega, by omega, by omega⟩
  clear hm5 hr5 he5 hi5 hold4 hold5 hrd5 hw5 hrd4 hA4 hm4 hs4 hsz hsz5 hs4' Hrd3 Hib3 Hz3 Hold3 Hsz
  have Hf := Lib.hid (fields_no w5 (w4.heap.size + 1) b.toNat Hr5.out.kind hfl 100 101 #[.pointer (some ⟨w4.heap.size, 0, none⟩), .pointer (some ⟨w2.heap.size, 0, none⟩)] #[.pointer (some ⟨w4.heap.size, 0, none⟩), .pointer (some ⟨w2.heap.size, 0, none⟩)])
  have Hd : Hid (decode (b :: ys) = (7, Rc.zero)) := by show _ = _; simp only [decode, hfl]
  have ce := He5.out.cell
  have fe := He5.out.fz
  obtain ⟨w6, hw6⟩ : ∃ w6, w5.setCell ⟨w4.heap.size, 0, none⟩ (.int .i64 7) = w6 := ⟨_, rfl⟩
  have hm6 : Mod (fun k => k = w4.heap.size) w5 w6 := by rw [← hw6]; exact (Mod.refl (fun k => k = w4.heap.size) w5).setCell (p := ⟨w4.heap.size, 0, none⟩) (fun _ => rfl) _
  have he6 : Bx w6 w4.heap.size 25 (.int .i64 7) := by rw [← hw6]; exact He5.out.set _
  have hne : w.heap.size < w4.heap.size := by have := Hsz5.out; omega
  have hz6 := hz5.mod hm6 (by omega)
  have ce6 := he6.cell
  have HzT := Lib.hid hz6
  have HoldT := Lib.hid (Hold5.out.trans hm6 (fun k hk e => by omega))
  have p0 := hz6.kind
  have p1 := hz6.num (i := 1) (by omega) (by omega)
  have p2 := hz6.num (i := 2) (by omega) (by omega)
  have p3 := hz6.num (i := 3) (by omega) (by omega)
  have p4 := hz6.num (i := 4) (by omega) (by omega)
  have p5 := hz6.num (i := 5) (by omega) (by omega)
  have p6 := hz6.num (i := 6) (by omega) (by omega)
  have p7 := hz6.num (i := 7) (by omega) (by omega)
  have p8 := hz6.num (i := 8) (by omega) (by omega)
  have p9 := hz6.num (i := 9) (by omega) (by omega)
  have p10 := hz6.c10
  have p11 := hz6.c11
  have p12 := hz6.c12
  have p13 := hz6.c13
  have q0 := hz6.fz 0
  have q1 := hz6.fz 1
  have q2 := hz6.fz 2
  have q3 := hz6.fz 3
  have q4 := hz6.fz 4
  have q5 := hz6.fz 5
  have q6 := hz6.fz 6
  have q7 := hz6.fz 7
  have q8 := hz6.fz 8
  have q9 := hz6.fz 9
  have q10 := hz6.fz 10
  have q11 := hz6.fz 11
  have q12 := hz6.fz 12
  have q13 := hz6.fz 13
  clear hz5 hfl hz6 he6 hm6
  go_wp2_with fail
  rw [Hw5.out]
  clear Hw5
  refine Hf.out.mono ?_
  rintro e w6' ⟨rfl, rfl⟩
  clear Hf
  go_wp2
  go_region
  change Exit.then _ _ _ _ (stRec w6 w.heap.size RcD.zero).drew
  obtain ⟨w7, hw7⟩ : ∃ w7, (stRec w6 w.heap.size RcD.zero).drew = w7 := ⟨_, rfl⟩
  have h7 : RcD.zero.In w7 w.heap.size := by rw [← hw7]; exact (stRec_in HzT.out RcD.zero).keep (Mod.refl _ _).drew
  have H7 : Hid (Mod (fun _ => False) w w7) := by rw [← hw7]; exact (HoldT.out.trans (stRec_mod w6 w.heap.size RcD.zero) (fun k hk e => by omega)).drew
  rw [hw7]
  have r0 := h7.kind
  have r1 := h7.num (i := 1) (by omega) (by omega)
  have r2 := h7.num (i := 2) (by omega) (by omega)
  have r3 := h7.num (i := 3) (by omega) (by omega)
  have r4 := h7.num (i := 4) (by omega) (by omega)
  have r5 := h7.num (i := 5) (by omega) (by omega)
  have r6 := h7.num (i := 6) (by omega) (by omega)
  have r7 := h7.num (i := 7) (by omega) (by omega)
  have r8 := h7.num (i := 8) (by omega) (by omega)
  have r9 := h7.num (i := 9) (by omega) (by omega)
  have r10 := h7.c10
  have r11 := h7.c11
  have r12 := h7.c12
  have r13 := h7.c13
  clear hw7 h7 p0 p1 p2 p3 p4 p5 p6 p7 p8 p9 p10 p11 p12 p13 q0 q1 q2 q3 q4 q5 q6 q7 q8 q9 q10 q11 q12 q13
  go_wp2
  refine bodyPost_ret (v := .tuple #[.agg RcD.zero.cells, .int .i64 7]) (by simp [results, Tryz.results91, go_sem, r0, r1, r2, r3, r4, r5, r6, r7, r8, r9, r10, r11, r12, r13]) rfl ?_
  exact ⟨⟨RcD.zero, by rw [Hd.out], by rw [Hd.out]; rfl, VlD.none_own _ _, VlD.none_own _ _⟩, H7.out⟩

end Go.Proofs.YtnbamljaiahmdaaGreat
