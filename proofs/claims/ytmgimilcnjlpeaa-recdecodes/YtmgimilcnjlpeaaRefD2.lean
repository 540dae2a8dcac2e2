/-
  bobbinref06.Decode: its walk.
-/
import Derived.Test.YtmgimilcnjlpeaaRefD
import Derived.StillTailTactics
namespace Go.Proofs.Ytmgimilcnjlpeaa
open Go Go.RowKit

theorem letters_none {k : Int} (h : fieldsOf k = none) : lettersOf k = #[63] := by
  obtain ⟨k1, k2, k3, k4, k5, k6, k7, k8, k9, k10, k11⟩ := noKind h
  simp only [beq_eq_false_iff_ne] at k1 k2 k3 k4 k5 k6 k7 k8 k9 k10 k11
  simp [lettersOf, k1, k2, k3, k4, k5, k6, k7, k8, k9, k10, k11]

set_option maxRecDepth 100000 in
set_option maxHeartbeats 400000 in
theorem rdecode_none (w : World) (A : Option Addr) (n c : Nat) (b : UInt8) (ys : List UInt8) (h : Sl w A n c (b :: ys)) (hfl : fieldsOf b.toNat = none) (hn : n ≤ 1000000) :
    Calls Try.prog 17 #[.slice A n c] w fun e w' => RAns w' e (decode (b :: ys)) ∧ Mod (fun _ => False) w w' := by
  have hl := h.len
  have hp : 0 < n := by rw [← hl]; simp
  obtain ⟨B, o, rfl, hcell⟩ := h.2.2 hp
  have Hd : Hid (decode (b :: ys) = (7, Rc.zero)) := by show _ = _; simp only [decode, hfl]
  have he := letters_none hfl
  obtain ⟨w1, hw1⟩ : ∃ w1, w.alloc (.cells #[.int .i64 0, .int .i64 0, .int .i64 0, .int .i64 0, .int .i64 0, .int .i64 0, .int .i64 0, .int .i64 0, .int .i64 0, .int .i64 0, .bool false, .slice none 0 0, .bool false, .slice none 0 0] 26) = w1 := ⟨_, rfl⟩
  have hm1 : Mod (fun _ => False) w w1 := by rw [← hw1]; exact (Mod.refl _ w).alloc _
  have hc0 : w1.cell? ⟨B, o, none⟩ = some (.int .u8 b.toNat) := (World.cell?_of_block (hm1.block B (World.block_lt_of_cell? w _ (hcell 0 hp)) id)).trans (hcell 0 hp)
  have hz1 : RcD.zero.In w1 w.heap.size := by rw [← hw1]; exact RcD.In.new w RcD.zero
  obtain ⟨w2, hw2⟩ : ∃ w2, w1.alloc (.cells #[.int .i64 b.toNat, .int .i64 0, .int .i64 0, .int .i64 0, .int .i64 0, .int .i64 0, .int .i64 0, .int .i64 0, .int .i64 0, .int .i64 0, .bool false, .slice none 0 0, .bool false, .slice none 0 0] 26) = w2 := ⟨_, rfl⟩
  have hm2 : Mod (fun _ => False) w1 w2 := by rw [← hw2]; exact (Mod.refl _ w1).alloc _
  have hz2 := hz1.keep hm2
  have hf := rfields_ok w2 b.toNat
  rw [he] at hf
  have Hf := Lib.hid hf
  have HZT := Lib.hid hz2
  have HoldT := Lib.hid (hm1.trans hm2 (fun _ _ h => h))
  have hbz : ((n : Int) == 0) = false := by rw [beq_eq_false_iff_ne]; omega
  have p0 := hz2.kind
  have p1 := hz2.num (i := 1) (by omega) (by omega)
  have p2 := hz2.num (i := 2) (by omega) (by omega)
  have p3 := hz2.num (i := 3) (by omega) (by omega)
  have p4 := hz2.num (i := 4) (by omega) (by omega)
  have p5 := hz2.num (i := 5) (by omega) (by omega)
  have p6 := hz2.num (i := 6) (by omega) (by omega)
  have p7 := hz2.num (i := 7) (by omega) (by omega)
  have p8 := hz2.num (i := 8) (by omega) (by omega)
  have p9 := hz2.num (i := 9) (by omega) (by omega)
  have p10 := hz2.c10
  have p11 := hz2.c11
  have p12 := hz2.c12
  have p13 := hz2.c13
  have q0 := hz2.fz 0
  have q1 := hz2.fz 1
  have q2 := hz2.fz 2
  have q3 := hz2.fz 3
  have q4 := hz2.fz 4
  have q5 := hz2.fz 5
  have q6 := hz2.fz 6
  have q7 := hz2.fz 7
  have q8 := hz2.fz 8
  have q9 := hz2.fz 9
  have q10 := hz2.fz 10
  have q11 := hz2.fz 11
  have q12 := hz2.fz 12
  have q13 := hz2.fz 13
  have hnI : (n : Int) ≤ 1000000 := by omega
  have hb256 : ((b.toNat : Nat) : Int) < 256 := by have := b.toNat_lt; omega
  have hp1 : (1 : Int) ≤ n := by omega
  have Hw2 := Lib.hid hw2
  clear h hl hcell hfl he hf hm1 hz1 hm2 hz2 hn hp hw2
  go_enter Try.func17, Try.ntmps17
  go_wp2_with fail
  rw [Hw2.out]
  clear hw1 Hw2
  refine Hf.out.mono ?_
  rintro e w3 ⟨rfl, rfl⟩
  clear Hf hc0
  go_wp2
  change bodyPost _ _ _ _ _ (stRec w2 w.heap.size RcD.zero)
  obtain ⟨w7, hw7⟩ : ∃ w7, stRec w2 w.heap.size RcD.zero = w7 := ⟨_, rfl⟩
  have h7 : RcD.zero.In w7 w.heap.size := by rw [← hw7]; exact stRec_in HZT.out RcD.zero
  have H7 : Hid (Mod (fun _ => False) w w7) := by rw [← hw7]; exact HoldT.out.trans (stRec_mod w2 w.heap.size RcD.zero) (fun k hk e => by omega)
  rw [hw7]
  have r0 := h7.kind
  have r1 := h7.num (i := 1) (by omega) (by omega)
  have r2 := h7.num (i := 2) (by omega) (by omega)
  have r3 := h7.num (i := 3) (by omega) (by omega)
  have r4 := h7.num (i := 4) (by omega) (by omega)
  have r5 := h7.num (i := 5) (by omega) (by omega)
  have r6 := h7.num (i := 6) (by omega) (by omega)
  have r7 := h7.num (i := 7) (by omega) (by omega)
  have r8 := h7.num (i := 8) (by omega) (by omega)
  have r9 := h7.num (i := 9) (by omega) (by omega)
  have r10 := h7.c10
  have r11 := h7.c11
  have r12 := h7.c12
  have r13 := h7.c13
  clear hw7 h7 p0 p1 p2 p3 p4 p5 p6 p7 p8 p9 p10 p11 p12 p13 q0 q1 q2 q3 q4 q5 q6 q7 q8 q9 q10 q11 q12 q13
  refine bodyPost_ret (v := .tuple #[.agg RcD.zero.cells, .int .i64 7]) (by simp [results, Try.results17, go_sem, r0, r1, r2, r3, r4, r5, r6, r7, r8, r9, r10, r11, r12, r13]) rfl ?_
  exact ⟨⟨RcD.zero, by rw [Hd.out], by rw [Hd.out]; rfl, VlD.none_at _, VlD.none_at _⟩, H7.out⟩
end Go.Proofs.Ytmgimilcnjlpeaa
