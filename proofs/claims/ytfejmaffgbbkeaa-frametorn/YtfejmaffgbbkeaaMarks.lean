/-
  The contracts of package frame's small functions: a stamp's four bytes.
-/
import Derived.Test.YtfejmaffgbbkeaaSame
import Derived.Test.YtfejmaffgbbkeaaCopy
import Derived.Laws.ResultCell
namespace Go.Proofs.Ytfejmaffgbbkeaa
open Go Go.RowKit

/-- Four bytes as an array's value. -/
abbrev ag4 (b0 b1 b2 b3 : UInt8) : Value := .agg #[bv b0, bv b1, bv b2, bv b3]

theorem le4 (n : Int) (h0 : 0 ≤ n) (h1 : n < 4294967296) : ∃ b0 b1 b2 b3 : UInt8, le 4 n.toNat = [b0, b1, b2, b3] ∧ n % 256 = (b0.toNat : Int) ∧ n / 256 % 256 = (b1.toNat : Int) ∧ n / 65536 % 256 = (b2.toNat : Int) ∧ n / 16777216 = (b3.toNat : Int) := by
  obtain ⟨m, rfl⟩ := Int.eq_ofNat_of_zero_le h0
  refine ⟨_, _, _, _, rfl, ?_, ?_, ?_, ?_⟩ <;> simp only [Int.toNat_natCast, UInt8.toNat_ofNat'] <;> omega

set_option maxRecDepth 100000 in
set_option maxHeartbeats 800000 in
theorem markOf_ok (w : World) (n : Int) (h0 : 0 ≤ n) (h1 : n < 4294967296) :
    Calls Try.prog 18 #[.int .i64 n] w fun e w' => ∃ b0 b1 b2 b3, le 4 n.toNat = [b0, b1, b2, b3] ∧ e = .returned (ag4 b0 b1 b2 b3) ∧ Mod (fun _ => False) w w' := by
  obtain ⟨b0, b1, b2, b3, hle, e0, e1, e2, e3⟩ := le4 n h0 h1
  have Hle := Lib.hid hle
  have E0 := Lib.hid e0
  have E1 := Lib.hid e1
  have E2 := Lib.hid e2
  have E3 := Lib.hid e3
  clear hle e0 e1 e2 e3
  go_enter Try.func18, Try.ntmps18
  go_wp2
  refine wp_loop_rounds 5 ?_
  rw [rounds_succ]
  go_wp2
  rw [rounds_succ]
  go_wp2
  rw [rounds_succ]
  go_wp2
  rw [rounds_succ]
  go_wp2
  rw [rounds_succ]
  go_wp2
  rw [E0.out, E1.out, E2.out, E3.out]
  refine bodyPost_ret (v := ag4 b0 b1 b2 b3) (by simp [results, Try.results18, go_sem]) rfl ⟨b0, b1, b2, b3, Hle.out, rfl, ?_⟩
  exact ((Mod.refl _ w).alloc _).alloc _

theorem stamp_sum (b0 b1 b2 b3 : UInt8) : bits .or .i64 (bits .or .i64 (bits .or .i64 (bits .or .i64 0 (b0.toNat : Int)) ((b1.toNat : Int) * 256)) ((b2.toNat : Int) * 65536)) ((b3.toNat : Int) * 16777216) = (unle [b0, b1, b2, b3] : Int) := by
  have g0 := b0.toNat_lt
  have g1 := b1.toNat_lt
  have g2 := b2.toNat_lt
  have g3 := b3.toNat_lt
  have c1 : ((b1.toNat : Int) * 256) = ((b1.toNat * 2 ^ 8 : Nat) : Int) := by omega
  have c2 : ((b2.toNat : Int) * 65536) = ((b2.toNat * 2 ^ 16 : Nat) : Int) := by omega
  have c3 : ((b3.toNat : Int) * 16777216) = ((b3.toNat * 2 ^ 24 : Nat) : Int) := by omega
  have c0 : bits .or .i64 0 (b0.toNat : Int) = (b0.toNat : Int) := by
    have := bits_or_i64 0 b0.toNat (by omega) (by omega)
    simpa using this
  rw [c0, c1, c2, c3, bits_or_i64 _ _ (by omega) (by omega), or_disjoint _ _ _ (by omega), bits_or_i64 _ _ (by omega) (by omega), or_disjoint _ _ _ (by omega), bits_or_i64 _ _ (by omega) (by omega), or_disjoint _ _ _ (by omega)]
  simp only [unle]
  omega

set_option maxRecDepth 100000 in
set_option maxHeartbeats 800000 in
theorem stamp_ok (w : World) (b0 b1 b2 b3 : UInt8) :
    Calls Try.prog 21 #[ag4 b0 b1 b2 b3] w fun e w' => e = .returned (.int .i64 (unle [b0, b1, b2, b3] : Int)) ∧ Mod (fun _ => False) w w' := by
  have g0 : (b0.toNat : Int) < 256 := by have := b0.toNat_lt; omega
  have g1 : (b1.toNat : Int) < 256 := by have := b1.toNat_lt; omega
  have g2 : (b2.toNat : Int) < 256 := by have := b2.toNat_lt; omega
  have g3 : (b3.toNat : Int) < 256 := by have := b3.toNat_lt; omega
  have Hs := Lib.hid (stamp_sum b0 b1 b2 b3)
  generalize unle [b0, b1, b2, b3] = u at *
  have i0 : ∀ w : World, (Instr.index 38 (.agg #[bv b0, bv b1, bv b2, bv b3]) (.int .i64 0)).run Try.prog w = .ok (bv b0) w := fun _ => by kernel_rfl
  have i1 : ∀ w : World, (Instr.index 38 (.agg #[bv b0, bv b1, bv b2, bv b3]) (.int .i64 1)).run Try.prog w = .ok (bv b1) w := fun _ => by kernel_rfl
  have i2 : ∀ w : World, (Instr.index 38 (.agg #[bv b0, bv b1, bv b2, bv b3]) (.int .i64 2)).run Try.prog w = .ok (bv b2) w := fun _ => by kernel_rfl
  have i3 : ∀ w : World, (Instr.index 38 (.agg #[bv b0, bv b1, bv b2, bv b3]) (.int .i64 3)).run Try.prog w = .ok (bv b3) w := fun _ => by kernel_rfl
  go_enter Try.func21, Try.ntmps21
  go_wp2
  refine wp_loop_rounds 5 ?_
  rw [rounds_succ]
  go_wp2
  rw [rounds_succ]
  go_wp2
  rw [rounds_succ]
  go_wp2
  rw [rounds_succ]
  go_wp2
  rw [rounds_succ]
  go_wp2
  go_ret
  exact ⟨by rw [← Hs.out]; rfl, (Mod.refl _ w).alloc _⟩

theorem four (xs : List UInt8) (k : Nat) (h : k + 4 ≤ xs.length) : ∃ x0 x1 x2 x3, (xs.drop k).take 4 = [x0, x1, x2, x3] := by
  have hl : ((xs.drop k).take 4).length = 4 := by simp; omega
  match hq : (xs.drop k).take 4 with
  | [x0, x1, x2, x3] => exact ⟨x0, x1, x2, x3, rfl⟩
  | [] => simp [hq] at hl
  | [_] => simp [hq] at hl
  | [_, _] => simp [hq] at hl
  | [_, _, _] => simp [hq] at hl
  | _ :: _ :: _ :: _ :: _ :: _ => simp [hq] at hl

/-- A slice's part from k on, m bytes of it, as a source. -/
theorem Sl.srcAt {w : World} {b o n c : Nat} {xs : List UInt8} (h : Sl w (some ⟨b, o, none⟩) n c xs) (k m : Nat) (hk : k + m ≤ n) :
    ∀ j v, (((xs.drop k).take m).map bv)[j]? = some v → w.cell? ((⟨b, o + k, none⟩ : Addr).add j) = some v := by
  intro j v hv
  have hj : j < m := by
    have := (List.getElem?_eq_some_iff.1 hv).1
    simp at this; omega
  obtain ⟨b', o', e, hc⟩ := h.2.2 (by omega)
  injection e with e
  injection e with e1 e2
  subst e1; subst e2
  have hadd : (⟨b, o + k, none⟩ : Addr).add j = ⟨b, o + (k + j), none⟩ := by unfold Addr.add; split <;> simp_all [Nat.add_assoc]
  rw [hadd, hc (k + j) (by omega), ← hv]
  have hl := h.len
  simp [hj, List.getElem?_eq_getElem (show k + j < xs.length by omega)]

set_option maxRecDepth 100000 in
set_option maxHeartbeats 800000 in
theorem markAt_ok (w : World) (A : Option Addr) (n c : Nat) (xs : List UInt8) (h : Sl w A n c xs) (k : Nat) (hk : k + 4 ≤ n) (hn : n ≤ 1000) :
    Calls Try.prog 20 #[.slice A n c, .int .i64 k] w fun e w' => ∃ x0 x1 x2 x3, (xs.drop k).take 4 = [x0, x1, x2, x3] ∧ e = .returned (ag4 x0 x1 x2 x3) ∧ Mod (fun _ => False) w w' := by
  obtain ⟨b, o, rfl, _⟩ := h.2.2 (by omega)
  obtain ⟨x0, x1, x2, x3, hx⟩ := four xs k (by rw [h.len]; exact hk)
  have Hx := Lib.hid hx
  clear hx
  have hcap := h.cap
  have hck : ¬ c = k := by omega
  go_enter Try.func20, Try.ntmps20
  go_wp2_with fail
  obtain ⟨w1, hw1⟩ : ∃ w1, w1 = (w.alloc (.cells #[.int .u8 0, .int .u8 0, .int .u8 0, .int .u8 0] 38)).alloc (.cells #[.int .u8 0, .int .u8 0, .int .u8 0, .int .u8 0] 38) := ⟨_, rfl⟩
  rw [← hw1]
  have h1 : Sl w1 (some ⟨b, o, none⟩) n c xs := by rw [hw1]; exact (h.alloc _).alloc _
  have hm1 : Mod (fun _ => False) w w1 := by rw [hw1]; exact ((Mod.refl _ w).alloc _).alloc _
  have hs1 : w1.heap.size = w.heap.size + 2 := by rw [hw1]; simp
  have hg1 : w1.drew.heap[w.heap.size + 1]? = some (.cells [Value.int .u8 0, .int .u8 0, .int .u8 0, .int .u8 0].toArray 38 (0, 0)) := by
    show w1.heap[w.heap.size + 1]? = _
    rw [hw1]
    have := heap_alloc_new (w.alloc (.cells #[.int .u8 0, .int .u8 0, .int .u8 0, .int .u8 0] 38)) (.cells #[.int .u8 0, .int .u8 0, .int .u8 0, .int .u8 0] 38)
    simpa using this
  have hg0 : w1.heap[w.heap.size]? = some (.cells [Value.int .u8 0, .int .u8 0, .int .u8 0, .int .u8 0].toArray 38 (0, 0)) := by
    rw [hw1, Below.heap_alloc _ _ _ (by simp)]
    exact heap_alloc_new w _
  have hsrc := (Sl.drew h1).srcAt k 4 hk
  rw [Hx.out] at hsrc
  have hcn : [bv x0, bv x1, bv x2, bv x3].length = Nat.min (n - k) 4 := by
    show 4 = min (n - k) 4
    omega
  have hfit : 0 + [bv x0, bv x1, bv x2, bv x3].length ≤ [Value.int .u8 0, .int .u8 0, .int .u8 0, .int .u8 0].length := by simp
  have hone : ∀ v ∈ [bv x0, bv x1, bv x2, bv x3], v.oneCell' = true := bv_one [x0, x1, x2, x3]
  have hpos : 0 < [bv x0, bv x1, bv x2, bv x3].length → some (⟨w.heap.size + 1, 0, none⟩ : Addr) = some ⟨w.heap.size + 1, 0, none⟩ ∧ ∃ ad, some (⟨b, o + k, none⟩ : Addr) = some ad ∧ ∀ j v, [bv x0, bv x1, bv x2, bv x3][j]? = some v → w1.drew.cell? (ad.add j) = some v :=
    fun _ => ⟨rfl, _, rfl, hsrc⟩
  have Hw1 := Lib.hid hw1
  have Hs1 := Lib.hid hs1
  have Hg0 := Lib.hid hg0
  have Hg1 := Lib.hid hg1
  have Hcn := Lib.hid hcn
  have Hpos := Lib.hid hpos
  clear hw1 hs1 hg0 hg1 hsrc hcn hpos
  have hk2 : (k : Int) ≤ n := by omega
  have hk3 : (n : Int) ≤ c := by omega
  have hk4 : (k : Int) ≤ c := by omega
  go_region_law ((rw [if_pos (by simp [Region.wanted])]); refine wp_copyTo (dp := some ⟨w.heap.size + 1, 0, none⟩) (dLen := 4) (dCap := 4) (sp := some ⟨b, o + k, none⟩) (sLen := n - k) (sCap := c - k) (off := 0) (.tmp 6) (.tmp 9) byteElem rfl (by go_simp) (by go_simp) Hg1.out Hcn.out Hpos.out hfit hone ?_; intro w2 hg2 hm2 hs2)
  all_goals
    have hg2' : w2.heap[w.heap.size + 1]? = some (.cells #[bv x0, bv x1, bv x2, bv x3] 38 (0, 0)) := hg2
    have hg3 : w2.heap[w.heap.size]? = some (.cells #[.int .u8 0, .int .u8 0, .int .u8 0, .int .u8 0] 38 (0, 0)) := (hm2.block _ (by show _ < w1.heap.size; rw [Hs1.out]; omega) (by omega)).trans Hg0.out
    have c0 : w2.cell? ⟨w.heap.size + 1, 0, none⟩ = some (bv x0) := by rw [cell_of_row _ _ _ _ _ _ hg2']; rfl
    have c1 : w2.cell? ⟨w.heap.size + 1, 1, none⟩ = some (bv x1) := by rw [cell_of_row _ _ _ _ _ _ hg2']; rfl
    have c2 : w2.cell? ⟨w.heap.size + 1, 2, none⟩ = some (bv x2) := by rw [cell_of_row _ _ _ _ _ _ hg2']; rfl
    have c3 : w2.cell? ⟨w.heap.size + 1, 3, none⟩ = some (bv x3) := by rw [cell_of_row _ _ _ _ _ _ hg2']; rfl
    have d0 : w2.cell? ⟨w.heap.size, 0, none⟩ = some (bv 0) := by rw [cell_of_row _ _ _ _ _ _ hg3]; rfl
    have d1 : w2.cell? ⟨w.heap.size, 1, none⟩ = some (bv 0) := by rw [cell_of_row _ _ _ _ _ _ hg3]; rfl
    have d2 : w2.cell? ⟨w.heap.size, 2, none⟩ = some (bv 0) := by rw [cell_of_row _ _ _ _ _ _ hg3]; rfl
    have d3 : w2.cell? ⟨w.heap.size, 3, none⟩ = some (bv 0) := by rw [cell_of_row _ _ _ _ _ _ hg3]; rfl
    have fz : ∀ i, w2.frozen? ⟨w.heap.size, i, none⟩ = false := fun i => frozen_of_block hg3 i
    have hM : Mod (fun _ => False) w w2 := (hm1.drew.trans hm2 (fun i hi e => by omega))
    clear hg2 hg2' hg3 hm2 hs2
    go_wp2
    refine bodyPost_ret (v := ag4 x0 x1 x2 x3) (by simp [results, Try.results20, go_sem, d0, d1, d2, d3]) rfl ⟨x0, x1, x2, x3, Hx.out, rfl, ?_⟩
    have no : w.heap.size < w.heap.size → False := fun h => absurd h (Nat.lt_irrefl _)
    exact (((hM.setCell no _).setCell no _).setCell no _).setCell no _
end Go.Proofs.Ytfejmaffgbbkeaa
