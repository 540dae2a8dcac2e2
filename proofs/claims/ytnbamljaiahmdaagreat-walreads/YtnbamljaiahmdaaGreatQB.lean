/-
  The contracts of package frame's small functions: a stamp's four bytes.
  The contract of frame.Seal.
  The contract of frame.Part.
  Two arrays of four bytes, compared.
  The contract of frame.Open.
  Parts of sectors: their mathematics.
  Plain mathematics on sectors and their parts.
-/
import Derived.Test.YtnbamljaiahmdaaGreatQA
import Derived.Laws.ResultCell
import Derived.ChangeKeysEq
import Derived.Laws.StructEq
namespace Go.Proofs.YtnbamljaiahmdaaGreat
open Go Go.RowKit

/-- Four bytes as an array's value. -/
abbrev ag4 (b0 b1 b2 b3 : UInt8) : Value := .agg #[bv b0, bv b1, bv b2, bv b3]

theorem le4 (n : Int) (h0 : 0 ≤ n) (h1 : n < 4294967296) : ∃ b0 b1 b2 b3 : UInt8, le 4 n.toNat = [b0, b1, b2, b3] ∧ n % 256 = (b0.toNat : Int) ∧ n / 256 % 256 = (b1.toNat : Int) ∧ n / 65536 % 256 = (b2.toNat : Int) ∧ n / 16777216 = (b3.toNat : Int) := by
  obtain ⟨m, rfl⟩ := Int.eq_ofNat_of_zero_le h0
  refine ⟨_, _, _, _, rfl, ?_, ?_, ?_, ?_⟩ <;> simp only [Int.toNat_natCast, UInt8.toNat_ofNat'] <;> omega

set_option maxRecDepth 100000 in
set_option maxHeartbeats 800000 in
theorem markOf_ok (w : World) (n : Int) (h0 : 0 ≤ n) (h1 : n < 4294967296) :
    Calls Tryz.prog 76 #[.int .i64 n] w fun e w' => ∃ b0 b1 b2 b3, le 4 n.toNat = [b0, b1, b2, b3] ∧ e = .returned (ag4 b0 b1 b2 b3) ∧ Mod (fun _ => False) w w' := by
  obtain ⟨b0, b1, b2, b3, hle, e0, e1, e2, e3⟩ := le4 n h0 h1
  have Hle := Lib.hid hle
  have E0 := Lib.hid e0
  have E1 := Lib.hid e1
  have E2 := Lib.hid e2
  have E3 := Lib.hid e3
  clear hle e0 e1 e2 e3
  go_enter Tryz.func76, Tryz.ntmps76
  go_wp2
  refine wp_loop_rounds 5 ?_
  rw [rounds_succ]
  go_wp2
  rw [rounds_succ]
  go_wp2
  rw [rounds_succ]
  go_wp2
  rw [rounds_succ]
  go_wp2
  rw [rounds_succ]
  go_wp2
  rw [E0.out, E1.out, E2.out, E3.out]
  refine bodyPost_ret (v := ag4 b0 b1 b2 b3) (by simp [results, Tryz.results76, go_sem]) rfl ⟨b0, b1, b2, b3, Hle.out, rfl, ?_⟩
  exact ((Mod.refl _ w).alloc _).alloc _

theorem stamp_sum (b0 b1 b2 b3 : UInt8) : bits .or .i64 (bits .or .i64 (bits .or .i64 (bits .or .i64 0 (b0.toNat : Int)) ((b1.toNat : Int) * 256)) ((b2.toNat : Int) * 65536)) ((b3.toNat : Int) * 16777216) = (unle [b0, b1, b2, b3] : Int) := by
  have g0 := b0.toNat_lt
  have g1 := b1.toNat_lt
  have g2 := b2.toNat_lt
  have g3 := b3.toNat_lt
  have c1 : ((b1.toNat : Int) * 256) = ((b1.toNat * 2 ^ 8 : Nat) : Int) := by omega
  have c2 : ((b2.toNat : Int) * 65536) = ((b2.toNat * 2 ^ 16 : Nat) : Int) := by omega
  have c3 : ((b3.toNat : Int) * 16777216) = ((b3.toNat * 2 ^ 24 : Nat) : Int) := by omega
  have c0 : bits .or .i64 0 (b0.toNat : Int) = (b0.toNat : Int) := by
    have := bits_or_i64 0 b0.toNat (by omega) (by omega)
    simpa using this
  rw [c0, c1, c2, c3, bits_or_i64 _ _ (by omega) (by omega), or_disjoint _ _ _ (by omega), bits_or_i64 _ _ (by omega) (by omega), or_disjoint _ _ _ (by omega), bits_or_i64 _ _ (by omega) (by omega), or_disjoint _ _ _ (by omega)]
  simp only [unle]
  omega

set_option maxRecDepth 100000 in
set_option maxHeartbeats 800000 in
theorem stamp_ok (w : World) (b0 b1 b2 b3 : UInt8) :
    Calls Tryz.prog 78 #[ag4 b0 b1 b2 b3] w fun e w' => e = .returned (.int .i64 (unle [b0, b1, b2, b3] : Int)) ∧ Mod (fun _ => False) w w' := by
  have g0 : (b0.toNat : Int) < 256 := by have := b0.toNat_lt; omega
  have g1 : (b1.toNat : Int) < 256 := by have := b1.toNat_lt; omega
  have g2 : (b2.toNat : Int) < 256 := by have := b2.toNat_lt; omega
  have g3 : (b3.toNat : Int) < 256 := by have := b3.toNat_lt; omega
  have Hs := Lib.hid (stamp_sum b0 b1 b2 b3)
  generalize unle [b0, b1, b2, b3] = u at *
  have i0 : ∀ w : World, (Instr.index 134 (.agg #[bv b0, bv b1, bv b2, bv b3]) (.int .i64 0)).run Tryz.prog w = .ok (bv b0) w := fun _ => by kernel_rfl
  have i1 : ∀ w : World, (Instr.index 134 (.agg #[bv b0, bv b1, bv b2, bv b3]) (.int .i64 1)).run Tryz.prog w = .ok (bv b1) w := fun _ => by kernel_rfl
  have i2 : ∀ w : World, (Instr.index 134 (.agg #[bv b0, bv b1, bv b2, bv b3]) (.int .i64 2)).run Tryz.prog w = .ok (bv b2) w := fun _ => by kernel_rfl
  have i3 : ∀ w : World, (Instr.index 134 (.agg #[bv b0, bv b1, bv b2, bv b3]) (.int .i64 3)).run Tryz.prog w = .ok (bv b3) w := fun _ => by kernel_rfl
  go_enter Tryz.func78, Tryz.ntmps78
  go_wp2
  refine wp_loop_rounds 5 ?_
  rw [rounds_succ]
  go_wp2
  rw [rounds_succ]
  go_wp2
  rw [rounds_succ]
  go_wp2
  rw [rounds_succ]
  go_wp2
  rw [rounds_succ]
  go_wp2
  go_ret
  exact ⟨by rw [← Hs.out]; rfl, (Mod.refl _ w).alloc _⟩

theorem four (xs : List UInt8) (k : Nat) (h : k + 4 ≤ xs.length) : ∃ x0 x1 x2 x3, (xs.drop k).take 4 = [x0, x1, x2, x3] := by
  have hl : ((xs.drop k).take 4).length = 4 := by simp; omega
  match hq : (xs.drop k).take 4 with
  | [x0, x1, x2, x3] => exact ⟨x0, x1, x2, x3, rfl⟩
  | [] => simp [hq] at hl
  | [_] => simp [hq] at hl
  | [_, _] => simp [hq] at hl
  | [_, _, _] => simp [hq] at hl
  | _ :: _ :: _ :: _ :: _ :: _ => simp [hq] at hl

/-- A slice's part from k on, m bytes of it, as a source. -/
theorem Sl.srcAt {w : World} {b o n c : Nat} {xs : List UInt8} (h : Sl w (some ⟨b, o, none⟩) n c xs) (k m : Nat) (hk : k + m ≤ n) :
    ∀ j v, (((xs.drop k).take m).map bv)[j]? = some v → w.cell? ((⟨b, o + k, none⟩ : Addr).add j) = some v := by
  intro j v hv
  have hj : j < m := by
    have := (List.getElem?_eq_some_iff.1 hv).1
    simp at this; omega
  obtain ⟨b', o', e, hc⟩ := h.2.2 (by omega)
  injection e with e
  injection e with e1 e2
  subst e1; subst e2
  have hadd : (⟨b, o + k, none⟩ : Addr).add j = ⟨b, o + (k + j), none⟩ := by unfold Addr.add; split <;> simp_all [Nat.add_assoc]
  rw [hadd, hc (k + j) (by omega), ← hv]
  have hl := h.len
  simp [hj, List.getElem?_eq_getElem (show k + j < xs.length by omega)]

set_option maxRecDepth 100000 in
set_option maxHeartbeats 800000 in
theorem markAt_ok (w : World) (A : Option Addr) (n c : Nat) (xs : List UInt8) (h : Sl w A n c xs) (k : Nat) (hk : k + 4 ≤ n) (hn : n ≤ 1000) :
    Calls Tryz.prog 77 #[.slice A n c, .int .i64 k] w fun e w' => ∃ x0 x1 x2 x3, (xs.drop k).take 4 = [x0, x1, x2, x3] ∧ e = .returned (ag4 x0 x1 x2 x3) ∧ Mod (fun _ => False) w w' := by
  obtain ⟨b, o, rfl, _⟩ := h.2.2 (by omega)
  obtain ⟨x0, x1, x2, x3, hx⟩ := four xs k (by rw [h.len]; exact hk)
  have Hx := Lib.hid hx
  clear hx
  have hcap := h.cap
  have hck : ¬ c = k := by omega
  go_enter Tryz.func77, Tryz.ntmps77
  go_wp2_with fail
  obtain ⟨w1, hw1⟩ : ∃ w1, w1 = (w.alloc (.cells #[.int .u8 0, .int .u8 0, .int .u8 0, .int .u8 0] 134)).alloc (.cells #[.int .u8 0, .int .u8 0, .int .u8 0, .int .u8 0] 134) := ⟨_, rfl⟩
  rw [← hw1]
  have h1 : Sl w1 (some ⟨b, o, none⟩) n c xs := by rw [hw1]; exact (h.alloc _).alloc _
  have hm1 : Mod (fun _ => False) w w1 := by rw [hw1]; exact ((Mod.refl _ w).alloc _).alloc _
  have hs1 : w1.heap.size = w.heap.size + 2 := by rw [hw1]; simp
  have hg1 : w1.drew.heap[w.heap.size + 1]? = some (.cells [Value.int .u8 0, .int .u8 0, .int .u8 0, .int .u8 0].toArray 134 (0, 0)) := by
    show w1.heap[w.heap.size + 1]? = _
    rw [hw1]
    have := heap_alloc_new (w.alloc (.cells #[.int .u8 0, .int .u8 0, .int .u8 0, .int .u8 0] 134)) (.cells #[.int .u8 0, .int .u8 0, .int .u8 0, .int .u8 0] 134)
    simpa using this
  have hg0 : w1.heap[w.heap.size]? = some (.cells [Value.int .u8 0, .int .u8 0, .int .u8 0, .int .u8 0].toArray 134 (0, 0)) := by
    rw [hw1, Below.heap_alloc _ _ _ (by simp)]
    exact heap_alloc_new w _
  have hsrc := (Sl.drew h1).srcAt k 4 hk
  rw [Hx.out] at hsrc
  have hcn : [bv x0, bv x1, bv x2, bv x3].length = Nat.min (n - k) 4 := by
    show 4 = min (n - k) 4
    omega
  have hfit : 0 + [bv x0, bv x1, bv x2, bv x3].length ≤ [Value.int .u8 0, .int .u8 0, .int .u8 0, .int .u8 0].length := by simp
  have hone : ∀ v ∈ [bv x0, bv x1, bv x2, bv x3], v.oneCell' = true := bv_one [x0, x1, x2, x3]
  have hpos : 0 < [bv x0, bv x1, bv x2, bv x3].length → some (⟨w.heap.size + 1, 0, none⟩ : Addr) = some ⟨w.heap.size + 1, 0, none⟩ ∧ ∃ ad, some (⟨b, o + k, none⟩ : Addr) = some ad ∧ ∀ j v, [bv x0, bv x1, bv x2, bv x3][j]? = some v → w1.drew.cell? (ad.add j) = some v :=
    fun _ => ⟨rfl, _, rfl, hsrc⟩
  have Hw1 := Lib.hid hw1
  have Hs1 := Lib.hid hs1
  have Hg0 := Lib.hid hg0
  have Hg1 := Lib.hid hg1
  have Hcn := Lib.hid hcn
  have Hpos := Lib.hid hpos
  clear hw1 hs1 hg0 hg1 hsrc hcn hpos
  have hk2 : (k : Int) ≤ n := by omega
  have hk3 : (n : Int) ≤ c := by omega
  have hk4 : (k : Int) ≤ c := by omega
  go_region_law ((rw [if_pos (by simp [Region.wanted])]); refine wp_copyTo (dp := some ⟨w.heap.size + 1, 0, none⟩) (dLen := 4) (dCap := 4) (sp := some ⟨b, o + k, none⟩) (sLen := n - k) (sCap := c - k) (off := 0) (.tmp 6) (.tmp 9) byteElem rfl (by go_simp) (by go_simp) Hg1.out Hcn.out Hpos.out hfit hone ?_; intro w2 hg2 hm2 hs2)
  all_goals
    have hg2' : w2.heap[w.heap.size + 1]? = some (.cells #[bv x0, bv x1, bv x2, bv x3] 134 (0, 0)) := hg2
    have hg3 : w2.heap[w.heap.size]? = some (.cells #[.int .u8 0, .int .u8 0, .int .u8 0, .int .u8 0] 134 (0, 0)) := (hm2.block _ (by show _ < w1.heap.size; rw [Hs1.out]; omega) (by omega)).trans Hg0.out
    have c0 : w2.cell? ⟨w.heap.size + 1, 0, none⟩ = some (bv x0) := by rw [cell_of_row _ _ _ _ _ _ hg2']; rfl
    have c1 : w2.cell? ⟨w.heap.size + 1, 1, none⟩ = some (bv x1) := by rw [cell_of_row _ _ _ _ _ _ hg2']; rfl
    have c2 : w2.cell? ⟨w.heap.size + 1, 2, none⟩ = some (bv x2) := by rw [cell_of_row _ _ _ _ _ _ hg2']; rfl
    have c3 : w2.cell? ⟨w.heap.size + 1, 3, none⟩ = some (bv x3) := by rw [cell_of_row _ _ _ _ _ _ hg2']; rfl
    have d0 : w2.cell? ⟨w.heap.size, 0, none⟩ = some (bv 0) := by rw [cell_of_row _ _ _ _ _ _ hg3]; rfl
    have d1 : w2.cell? ⟨w.heap.size, 1, none⟩ = some (bv 0) := by rw [cell_of_row _ _ _ _ _ _ hg3]; rfl
    have d2 : w2.cell? ⟨w.heap.size, 2, none⟩ = some (bv 0) := by rw [cell_of_row _ _ _ _ _ _ hg3]; rfl
    have d3 : w2.cell? ⟨w.heap.size, 3, none⟩ = some (bv 0) := by rw [cell_of_row _ _ _ _ _ _ hg3]; rfl
    have fz : ∀ i, w2.frozen? ⟨w.heap.size, i, none⟩ = false := fun i => frozen_of_block hg3 i
    have hM : Mod (fun _ => False) w w2 := (hm1.drew.trans hm2 (fun i hi e => by omega))
    clear hg2 hg2' hg3 hm2 hs2
    go_wp2
    refine bodyPost_ret (v := ag4 x0 x1 x2 x3) (by simp [results, Tryz.results77, go_sem, d0, d1, d2, d3]) rfl ⟨x0, x1, x2, x3, Hx.out, rfl, ?_⟩
    have no : w.heap.size < w.heap.size → False := fun h => absurd h (Nat.lt_irrefl _)
    exact (((hM.setCell no _).setCell no _).setCell no _).setCell no _
end Go.Proofs.YtnbamljaiahmdaaGreat

namespace Go.Proofs.YtnbamljaiahmdaaGreat
open Go Go.RowKit

/-- A sector, as the document has it. -/
def secOf (n : Int) (xs : List UInt8) : List UInt8 := le 4 n.toNat ++ (xs ++ zeros (248 - xs.length)) ++ le 4 n.toNat
theorem secOf_len (n : Int) (xs : List UInt8) (h : xs.length ≤ 248) : (secOf n xs).length = 256 := by
  simp only [secOf, List.length_append, le_length, zeros_len]; omega

/-- A sector in memory of the call's own. -/
def Sec (w w' : World) (g : Nat) (ys : List UInt8) : Prop :=
  w.heap.size ≤ g ∧ w'.heap[g]? = some (.cells (ys.map bv).toArray 137 (0, 0)) ∧ Mod (fun _ => False) w w'
theorem Sec.sl {w w' : World} {g : Nat} {ys : List UInt8} (h : Sec w w' g ys) (hl : ys.length = 256) : Sl w' (some ⟨g, 0, none⟩) 256 256 ys := by
  have := Sl.lit ys h.2.1
  rw [hl] at this
  exact this

theorem zero41 : ∀ w, (zeroValue 137).run Tryz.prog w = .ok (.agg (zrow 256)) w := (zero_of_info (P := Tryz.prog) (n := 256) (by kernel_rfl)).1

theorem splice_at {α : Type} (L R : List α) (k : Nat) (hk : L.length = k) (cs : List α) : splice (L ++ R) k cs = L ++ (cs ++ R.drop cs.length) := by
  subst hk
  simp [splice, List.drop_append]
theorem zeros_drop (n k : Nat) : (zeros n).drop k = zeros (n - k) := by simp [zeros]
theorem zeros_split (n k : Nat) (h : k ≤ n) : zeros n = zeros k ++ zeros (n - k) := by
  unfold zeros
  rw [List.replicate_append_replicate]
  congr 1
  omega
theorem sec_splices (B xs : List UInt8) (hB : B.length = 4) (hx : xs.length ≤ 248) :
    splice (splice (splice (zeros 256) 0 B) 4 xs) 252 B = B ++ (xs ++ zeros (248 - xs.length)) ++ B := by
  have e1 : splice (zeros 256) 0 B = B ++ zeros 252 := by
    have := splice_at [] (zeros 256) 0 rfl B
    rw [zeros_drop, hB] at this
    simpa using this
  have e2 : splice (B ++ zeros 252) 4 xs = (B ++ (xs ++ zeros (248 - xs.length))) ++ zeros 4 := by
    rw [splice_at B (zeros 252) 4 hB, zeros_drop, zeros_split (252 - xs.length) (248 - xs.length) (by omega), show 252 - xs.length - (248 - xs.length) = 4 by omega]
    simp only [List.append_assoc]
  have hl : (B ++ (xs ++ zeros (248 - xs.length))).length = 252 := by simp only [List.length_append, zeros_len]; omega
  rw [e1, e2, splice_at _ _ 252 hl, zeros_drop, hB]
  simp [zeros]

set_option maxRecDepth 100000 in
theorem seal_arg (w : World) (n : Int) (A : Option Addr) (m c : Nat) (h : n < 0 ∨ 4294967295 < n) :
    Calls Tryz.prog 58 #[.int .i64 n, .slice A m c] w fun e w' => e = .returned (.tuple #[.slice none 0 0, .int .i64 1]) ∧ w = w' := by
  by_cases hn : n < 0
  · have hd : decide (n < 0) = true := by simpa using hn
    clear h hn
    go_enter Tryz.func58, Tryz.ntmps58
    go_wp2_with fail
    go_ret2
    exact ⟨rfl, rfl⟩
  · have hd : decide (n < 0) = false := by simpa using hn
    have h2 := h.resolve_left hn
    have hd2 : decide (4294967295 < n) = true := by simpa using h2
    clear h hn h2
    go_enter Tryz.func58, Tryz.ntmps58
    go_wp2_with fail
    go_ret2
    exact ⟨rfl, rfl⟩

set_option maxRecDepth 100000 in
theorem seal_long (w : World) (n : Int) (A : Option Addr) (m c : Nat) (h0 : 0 ≤ n) (h1 : n ≤ 4294967295) (hm : 248 < m) :
    Calls Tryz.prog 58 #[.int .i64 n, .slice A m c] w fun e w' => e = .returned (.tuple #[.slice none 0 0, .int .i64 2]) ∧ w = w' := by
  have hd : decide (n < 0) = false := by simpa using h0
  have hd2 : decide (4294967295 < n) = false := by simpa using h1
  have hm' : (248 : Int) < m := by omega
  go_enter Tryz.func58, Tryz.ntmps58
  go_wp2_with fail
  go_ret2
  exact ⟨rfl, rfl⟩

set_option maxRecDepth 100000 in
set_option maxHeartbeats 1600000 in
theorem seal_ok (w : World) (n : Int) (A : Option Addr) (m c : Nat) (xs : List UInt8) (h : Sl w A m c xs) (h0 : 0 ≤ n) (h1 : n ≤ 4294967295) (hm : m ≤ 248) :
    Calls Tryz.prog 58 #[.int .i64 n, .slice A m c] w fun e w' => ∃ g, e = .returned (.tuple #[.slice (some ⟨g, 0, none⟩) 256 256, .int .i64 0]) ∧ Sec w w' g (secOf n xs) := by
  have hd : decide (n < 0) = false := by simpa using h0
  have hd2 : decide (4294967295 < n) = false := by simpa using h1
  have hz41 := zero41
  have hm' : ¬ (248 : Int) < m := by omega
  have hAlt : ∀ k, blkOf A = some k → 0 < m → k < w.heap.size := fun k e hp => by
    obtain ⟨b, o, rfl, hb⟩ := h.lt hp
    simp [blkOf] at e; omega
  have HAlt := Lib.hid hAlt
  clear hAlt
  go_enter Tryz.func58, Tryz.ntmps58
  go_wp2_with fail
  refine (markOf_ok _ n h0 (by omega)).mono ?_
  rintro e w1 ⟨b0, b1, b2, b3, hle, rfl, hm1⟩
  have Hle := Lib.hid hle
  clear hle
  go_wp2_with fail
  obtain ⟨w2, hw2⟩ : ∃ w2, w2 = (w1.alloc (.cells #[.int .u8 (b0.toNat : Int), .int .u8 (b1.toNat : Int), .int .u8 (b2.toNat : Int), .int .u8 (b3.toNat : Int)] 134)).alloc (.cells (zrow 256) 137) := ⟨_, rfl⟩
  rw [← hw2]
  have hs1 := hm1.size
  have h2 : Sl w2 A m c xs := by rw [hw2]; exact ((h.mod hm1 (fun _ _ _ => id)).alloc _).alloc _
  have hM2 : Mod (fun _ => False) w w2 := by rw [hw2]; exact (hm1.alloc _).alloc _
  have hs2 : w2.heap.size = w1.heap.size + 2 := by rw [hw2]; simp
  have hk2 : w2.heap[w1.heap.size]? = some (.cells ([b0, b1, b2, b3].map bv).toArray 134 (0, 0)) := by
    rw [hw2, Below.heap_alloc _ _ _ (by simp)]
    exact heap_alloc_new w1 _
  have hg2 : w2.drew.heap[w1.heap.size + 1]? = some (.cells ((zeros 256).map bv).toArray 137 (0, 0)) := by
    show w2.heap[w1.heap.size + 1]? = _
    rw [hw2]
    have := heap_alloc_new (w1.alloc (.cells #[.int .u8 (b0.toNat : Int), .int .u8 (b1.toNat : Int), .int .u8 (b2.toNat : Int), .int .u8 (b3.toNat : Int)] 134)) (.cells (zrow 256) 137)
    simpa [zrow] using this
  clear hw2 hm1 h
  have HB : Hid ([b0, b1, b2, b3].length = 4) := rfl
  generalize hB : [b0, b1, b2, b3] = B at *
  have HBe := Lib.hid hB
  clear hB
  obtain ⟨Z, hZ⟩ : ∃ Z, Z = zeros 256 := ⟨_, rfl⟩
  rw [← hZ] at hg2
  have HZ := Lib.hid hZ
  have HZl : Hid (Z.length = 256) := by show _ = _; rw [hZ, zeros_len]
  clear hZ
  obtain ⟨CB, hCB⟩ : ∃ CB, CB = B.map bv := ⟨_, rfl⟩
  have HCB := Lib.hid hCB
  have HCl : Hid (CB.length = 4) := by show _ = _; rw [hCB, List.length_map, HB.out]
  clear hCB
  have Hk2 := Lib.hid hk2
  have Hg2 := Lib.hid hg2
  have Hs2 := Lib.hid hs2
  clear hk2 hg2 hs2
  have HCone : Hid (∀ v ∈ CB, v.oneCell' = true) := by show ∀ v ∈ CB, v.oneCell' = true; rw [HCB.out]; exact bv_one B
  have Hsrc : ∀ w' : World, w'.heap[w1.heap.size]? = some (.cells (B.map bv).toArray 134 (0, 0)) → ∃ ad, some (⟨w1.heap.size, 0, none⟩ : Addr) = some ad ∧ ∀ j v, CB[j]? = some v → w'.cell? (ad.add j) = some v := by
    intro w' hk
    have hs := (Sl.lit B hk).src
    refine ⟨_, rfl, fun j v hv => ?_⟩
    rw [HCB.out] at hv
    obtain ⟨ad, e, hc⟩ := hs.2.2 (by rw [HB.out]; omega)
    injection e with e
    subst e
    exact hc j v hv
  -- the first stamp
  have Hn1 : Hid (CB.length = Nat.min 4 256) := by show _ = _; rw [HCl.out]; rfl
  have Hf1 : Hid (0 + CB.length ≤ (Z.map bv).length) := by show _ ≤ _; rw [HCl.out, List.length_map, HZl.out]; omega
  have Hp1 : Hid (0 < CB.length → some (⟨w1.heap.size + 1, 0, none⟩ : Addr) = some ⟨w1.heap.size + 1, 0, none⟩ ∧ ∃ ad, some (⟨w1.heap.size, 0, none⟩ : Addr) = some ad ∧ ∀ j v, CB[j]? = some v → w2.drew.cell? (ad.add j) = some v) :=
    fun _ => ⟨rfl, Hsrc w2.drew Hk2.out⟩
  go_region_law ((rw [if_pos (by simp [Region.wanted])]); refine wp_copyTo (dp := some ⟨w1.heap.size + 1, 0, none⟩) (dLen := 256) (dCap := 256) (sp := some ⟨w1.heap.size, 0, none⟩) (sLen := 4) (sCap := 4) (off := 0) (.tmp 19) (.tmp 20) byteElem rfl (by go_simp) (by go_simp) Hg2.out Hn1.out Hp1.out Hf1.out HCone.out ?_; intro w3 hg3 hm3 hs3)
  all_goals
    have h3 : Sl w3 A m c xs := (Sl.drew h2).mod hm3 (fun k e hp e2 => by have := HAlt.out k e hp; omega)
    have hM3 : Mod (fun _ => False) w w3 := hM2.drew.trans hm3 (fun i hi e => by omega)
    have hk3 : w3.heap[w1.heap.size]? = some (.cells (B.map bv).toArray 134 (0, 0)) := (hm3.block _ (by show _ < w2.heap.size; rw [Hs2.out]; omega) (by omega)).trans Hk2.out
    obtain ⟨Z1, hZ1⟩ : ∃ Z1, Z1 = splice Z 0 B := ⟨_, rfl⟩
    have HZ1l : Hid (Z1.length = 256) := by show _ = _; rw [hZ1, length_splice _ _ _ (by rw [HB.out, HZl.out]; omega), HZl.out]
    have hg3' : w3.heap[w1.heap.size + 1]? = some (.cells (Z1.map bv).toArray 137 (0, 0)) := by rw [hg3, HCB.out, splice_map, hZ1]
    have hs3' : w3.heap.size = w1.heap.size + 2 := hs3.trans Hs2.out
    have HZ1 := Lib.hid hZ1
    have Hk3 := Lib.hid hk3
    have Hg3 := Lib.hid hg3'
    have Hs3 := Lib.hid hs3'
    clear hZ1 hk3 hg3 hg3' hs3 hs3' h2 hM2 hm3 Hg2 Hk2 Hs2 Hp1 Hf1 Hn1
    -- the bytes
    have Hm := Lib.hid hm
    have Hxl := Lib.hid h3.len
    obtain ⟨CX, hCX⟩ : ∃ CX, CX = xs.map bv := ⟨_, rfl⟩
    have HCX := Lib.hid hCX
    have HCXl : Hid (CX.length = m) := by show _ = _; rw [hCX, List.length_map, Hxl.out]
    have HXone : Hid (∀ v ∈ CX, v.oneCell' = true) := by show ∀ v ∈ CX, v.oneCell' = true; rw [hCX]; exact bv_one xs
    have Hn2 : Hid (CX.length = Nat.min m 252) := by
      show _ = min m 252
      rw [HCXl.out]; omega
    have Hf2 : Hid (4 + CX.length ≤ (Z1.map bv).length) := by show _ ≤ _; rw [HCXl.out, List.length_map, HZ1l.out]; omega
    have Hp2 : Hid (0 < CX.length → ∃ ad, A = some ad ∧ ∀ j v, CX[j]? = some v → w3.cell? (ad.add j) = some v) := by
      intro hp
      rw [HCXl.out] at hp
      obtain ⟨ad, e, hc⟩ := h3.src.2.2 hp
      exact ⟨ad, e, fun j v hv => hc j v (by rw [← hCX]; exact hv)⟩
    clear hCX hm
    have hg3 := Hg3.out
    have hn2 := Hn2.out
    have hp2 := Hp2.out
    have hf2 := Hf2.out
    have hxone := HXone.out
    go_wp2_with (with_reducible refine wpList_copyAt (.tmp 22) (.tmp 23) byteElem rfl rfl rfl rfl hg3 hn2 hp2 hf2 hxone ?_)
    intro w4 hg4 hm4 hs4
    have hM4 : Mod (fun _ => False) w w4 := hM3.trans hm4 (fun i hi e => by omega)
    have hk4 : w4.heap[w1.heap.size]? = some (.cells (B.map bv).toArray 134 (0, 0)) := (hm4.block _ (by rw [Hs3.out]; omega) (by omega)).trans Hk3.out
    obtain ⟨Z2, hZ2⟩ : ∃ Z2, Z2 = splice Z1 4 xs := ⟨_, rfl⟩
    have HZ2l : Hid (Z2.length = 256) := by show _ = _; rw [hZ2, length_splice _ _ _ (by rw [Hxl.out, HZ1l.out]; have := Hm.out; omega), HZ1l.out]
    have hg4' : w4.drew.heap[w1.heap.size + 1]? = some (.cells (Z2.map bv).toArray 137 (0, 0)) := by
      show w4.heap[w1.heap.size + 1]? = _
      rw [hg4, HCX.out, splice_map, hZ2]
    have HZ2 := Lib.hid hZ2
    have Hk4 := Lib.hid hk4
    have Hg4 := Lib.hid hg4'
    clear hZ2 hk4 hg4 hg4' hs4 hM3 hm4 h3 hg3 hn2 hp2 hf2 hxone Hg3 Hk3 Hp2 Hf2 Hn2
    go_wp2_with fail
    -- the last stamp
    have Hn3 : Hid (CB.length = Nat.min 4 4) := by show _ = _; rw [HCl.out]; rfl
    have Hf3 : Hid (252 + CB.length ≤ (Z2.map bv).length) := by show _ ≤ _; rw [HCl.out, List.length_map, HZ2l.out]; omega
    have Hp3 : Hid (0 < CB.length → some (⟨w1.heap.size + 1, 252, none⟩ : Addr) = some ⟨w1.heap.size + 1, 252, none⟩ ∧ ∃ ad, some (⟨w1.heap.size, 0, none⟩ : Addr) = some ad ∧ ∀ j v, CB[j]? = some v → w4.drew.cell? (ad.add j) = some v) :=
      fun _ => ⟨rfl, Hsrc w4.drew Hk4.out⟩
    go_region_law ((rw [if_pos (by simp [Region.wanted])]); refine wp_copyTo (dp := some ⟨w1.heap.size + 1, 252, none⟩) (dLen := 4) (dCap := 4) (sp := some ⟨w1.heap.size, 0, none⟩) (sLen := 4) (sCap := 4) (off := 252) (.tmp 25) (.tmp 26) byteElem rfl (by go_simp) (by go_simp) Hg4.out Hn3.out Hp3.out Hf3.out HCone.out ?_; intro w5 hg5 hm5 hs5)
    all_goals
      have hM5 : Mod (fun _ => False) w w5 := hM4.drew.trans hm5 (fun i hi e => by omega)
      have hg5' : w5.heap[w1.heap.size + 1]? = some (.cells ((secOf n xs).map bv).toArray 137 (0, 0)) := by
        have hx : xs.length ≤ 248 := by rw [Hxl.out]; exact Hm.out
        rw [hg5, HCB.out, splice_map, HZ2.out, HZ1.out, HZ.out, sec_splices B xs HB.out hx, secOf, Hle.out]
      have Hg5 := Lib.hid hg5'
      clear hg5 hg5' hm5 hs5 Hp3 Hf3 Hn3 Hg4 Hsrc
      go_wp2
      go_ret2
      exact ⟨_, rfl, by omega, Hg5.out, hM5⟩
end Go.Proofs.YtnbamljaiahmdaaGreat

namespace Go.Proofs.YtnbamljaiahmdaaGreat
open Go Go.RowKit

/-- The first k bytes of ys, and then those of xs. -/
def partOf (xs ys : List UInt8) (k : Nat) : List UInt8 := ys.take k ++ xs.drop k
theorem partOf_len (xs ys : List UInt8) (k : Nat) (hx : xs.length = 256) (hy : ys.length = 256) (hk : k ≤ 256) : (partOf xs ys k).length = 256 := by
  simp only [partOf, List.length_append, List.length_take, List.length_drop]; omega
theorem part_splices (xs ys : List UInt8) (k : Nat) (hx : xs.length = 256) (hy : ys.length = 256) (hk : k ≤ 256) : splice (splice (zeros 256) 0 xs) 0 (ys.take k) = partOf xs ys k := by
  have e1 : splice (zeros 256) 0 xs = xs := by
    have := splice_at [] (zeros 256) 0 rfl xs
    rw [zeros_drop, hx] at this
    rw [show zeros (256 - 256) = [] from rfl, List.append_nil] at this
    exact this
  rw [e1]
  have := splice_at [] xs 0 rfl (ys.take k)
  rw [List.length_take, hy, Nat.min_eq_left hk] at this
  simpa [partOf] using this

def partB (n m : Nat) (k : Int) : Bool := decide (n = 256) && decide (m = 256) && decide (0 ≤ k) && decide (k ≤ 256)

end Go.Proofs.YtnbamljaiahmdaaGreat

namespace Go.Proofs.YtnbamljaiahmdaaGreat
open Go Go.RowKit

theorem byte_ne {x y : UInt8} (h : x ≠ y) : ((x.toNat : Int) == (y.toNat : Int)) = false := by
  rw [beq_eq_false_iff_ne]
  intro e
  exact h (UInt8.toNat_inj.1 (by omega))

set_option maxRecDepth 100000 in
theorem eq_ag4 (x0 x1 x2 x3 y0 y1 y2 y3 : UInt8) (w : World) :
    (Op.equalIn 10000 134 (ag4 x0 x1 x2 x3) (ag4 y0 y1 y2 y3)).run Tryz.prog w = .ok (decide ([x0, x1, x2, x3] = [y0, y1, y2, y3])) w := by
  obtain ⟨i, hi⟩ : ∃ i, Tryz.prog.info? 5 = some i := Option.isSome_iff_exists.1 (by kernel_rfl)
  have hc : Tryz.prog.cellsOf 5 = 1 := by kernel_rfl
  have p : ∀ (a b c d : UInt8) (w : World), (part 5 #[bv a, bv b, bv c, bv d] 0).run Tryz.prog w = .ok (bv a) w ∧ (part 5 #[bv a, bv b, bv c, bv d] 1).run Tryz.prog w = .ok (bv b) w ∧ (part 5 #[bv a, bv b, bv c, bv d] 2).run Tryz.prog w = .ok (bv c) w ∧ (part 5 #[bv a, bv b, bv c, bv d] 3).run Tryz.prog w = .ok (bv d) w :=
    fun a b c d w => ⟨by kernel_rfl, by kernel_rfl, by kernel_rfl, by kernel_rfl⟩
  have q : ∀ (a b : UInt8) (w : World), (Op.equalIn 9999 5 (bv a) (bv b)).run Tryz.prog w = .ok ((a.toNat : Int) == (b.toNat : Int)) w := fun a b w => run_equalIn_int w 9998 _ _ _ _ _ Tryz.underlying5
  have e := run_equalIn_array w 9999 #[bv x0, bv x1, bv x2, bv x3] #[bv y0, bv y1, bv y2, bv y3] Tryz.underlying134 hi
  rw [hc] at e
  refine e.trans ?_
  show (Op.eqItems 9999 5 1 _ _ [0, 1, 2, 3]).run Tryz.prog w = _
  obtain ⟨a0, a1, a2, a3⟩ := p x0 x1 x2 x3 w
  obtain ⟨b0, b1, b2, b3⟩ := p y0 y1 y2 y3 w
  by_cases h0 : x0 = y0
  · by_cases h1 : x1 = y1
    · by_cases h2 : x2 = y2
      · by_cases h3 : x3 = y3
        · subst h0; subst h1; subst h2; subst h3
          simp [Op.eqItems, Sem.run_bind, a0, a1, a2, a3, q]
        · have g3 := byte_ne h3
          subst h0; subst h1; subst h2
          simp [Op.eqItems, Sem.run_bind, a0, a1, a2, a3, b0, b1, b2, b3, q, g3, h3]
      · have g2 := byte_ne h2
        subst h0; subst h1
        simp [Op.eqItems, Sem.run_bind, a0, a1, a2, b0, b1, b2, q, g2, h2]
    · have g1 := byte_ne h1
      subst h0
      simp [Op.eqItems, Sem.run_bind, a0, a1, b0, b1, q, g1, h1]
  · have g0 := byte_ne h0
    simp [Op.eqItems, Sem.run_bind, a0, b0, q, g0, h0]
theorem eq_no {x0 x1 x2 x3 y0 y1 y2 y3 : UInt8} (h : [x0, x1, x2, x3] ≠ [y0, y1, y2, y3]) (w : World) :
    (Op.equalIn 10000 134 (ag4 x0 x1 x2 x3) (ag4 y0 y1 y2 y3)).run Tryz.prog w = .ok false w := by
  rw [eq_ag4, decide_eq_false h]
theorem eq_yes (x0 x1 x2 x3 : UInt8) (w : World) :
    (Op.equalIn 10000 134 (ag4 x0 x1 x2 x3) (ag4 x0 x1 x2 x3)).run Tryz.prog w = .ok true w := by
  rw [eq_ag4, decide_eq_true rfl]
end Go.Proofs.YtnbamljaiahmdaaGreat

namespace Go.Proofs.YtnbamljaiahmdaaGreat
open Go Go.RowKit

theorem zero44 : ∀ w, (zeroValue 139).run Tryz.prog w = .ok (.agg (zrow 248)) w := (zero_of_info (P := Tryz.prog) (n := 248) (by kernel_rfl)).1

set_option maxRecDepth 100000 in
theorem open_arg (w : World) (A : Option Addr) (n c : Nat) (h : ¬ n = 256) :
    Calls Tryz.prog 63 #[.slice A n c] w fun e w' => e = .returned (.tuple #[.slice none 0 0, .int .i64 0, .int .i64 1]) ∧ w = w' := by
  have hne : ((n : Int) != 256) = true := by rw [bne_iff_ne]; omega
  clear h
  go_enter Tryz.func63, Tryz.ntmps63
  go_wp2_with fail
  go_ret3
  exact ⟨rfl, rfl⟩

/-- The four cells of a stamp's array. -/
def Four (w : World) (g : Nat) (x0 x1 x2 x3 : UInt8) : Prop :=
  w.cell? ⟨g, 0, none⟩ = some (bv x0) ∧ w.cell? ⟨g, 1, none⟩ = some (bv x1) ∧ w.cell? ⟨g, 2, none⟩ = some (bv x2) ∧ w.cell? ⟨g, 3, none⟩ = some (bv x3)
theorem Four.of_block {w : World} {g : Nat} {x0 x1 x2 x3 : UInt8} {t : TypeId} {fr : Nat × Nat} (h : w.heap[g]? = some (.cells #[bv x0, bv x1, bv x2, bv x3] t fr)) : Four w g x0 x1 x2 x3 := by
  refine ⟨?_, ?_, ?_, ?_⟩ <;> (rw [cell_of_row _ _ _ _ _ _ h]; rfl)
theorem Four.mod {F : Nat → Prop} {w w' : World} {g : Nat} {x0 x1 x2 x3 : UInt8} (h : Four w g x0 x1 x2 x3) (hm : Mod F w w') (hF : ¬ F g) : Four w' g x0 x1 x2 x3 := by
  have hb := hm.block g (World.block_lt_of_cell? w _ h.1) hF
  exact ⟨(World.cell?_of_block hb).trans h.1, (World.cell?_of_block hb).trans h.2.1, (World.cell?_of_block hb).trans h.2.2.1, (World.cell?_of_block hb).trans h.2.2.2⟩

theorem drop252 {xs : List UInt8} (h : xs.length = 256) : (xs.drop 252).take 4 = xs.drop 252 := List.take_of_length_le (by simp [h])

theorem marks_eq {xs : List UInt8} {x0 x1 x2 x3 y0 y1 y2 y3 : UInt8} (hx : (xs.drop 0).take 4 = [x0, x1, x2, x3]) (hy : (xs.drop 252).take 4 = [y0, y1, y2, y3]) (hl : xs.length = 256) (h : xs.take 4 = xs.drop 252) :
    x0 = y0 ∧ x1 = y1 ∧ x2 = y2 ∧ x3 = y3 := by
  rw [List.drop_zero] at hx
  rw [drop252 hl, ← h, hx] at hy
  simpa using hy

set_option maxRecDepth 100000 in
set_option maxHeartbeats 1600000 in
theorem open_torn (w : World) (A : Option Addr) (c : Nat) (xs : List UInt8) (h : Sl w A 256 c xs) (hne : xs.take 4 ≠ xs.drop 252) :
    Calls Tryz.prog 63 #[.slice A 256 c] w fun e w' => e = .returned (.tuple #[.slice none 0 0, .int .i64 0, .int .i64 20]) ∧ Mod (fun _ => False) w w' := by
  have Hne := Lib.hid hne
  have Hxl := Lib.hid h.len
  clear hne
  go_enter Tryz.func63, Tryz.ntmps63
  go_wp2_with fail
  refine (markAt_ok _ _ _ _ _ h 0 (by omega) (by omega)).mono ?_
  rintro e w1 ⟨x0, x1, x2, x3, hx, rfl, hm1⟩
  have Hx := Lib.hid hx
  have h1 := h.mod hm1 (fun _ _ _ => id)
  clear hx h
  go_wp2_with fail
  have f2 : Four (w1.alloc (.cells #[bv x0, bv x1, bv x2, bv x3] 134)) w1.heap.size x0 x1 x2 x3 := Four.of_block (heap_alloc_new w1 _)
  have h2 := h1.alloc (.cells #[bv x0, bv x1, bv x2, bv x3] 134)
  have hm2 := hm1.alloc (.cells #[bv x0, bv x1, bv x2, bv x3] 134)
  generalize hg : w1.heap.size = g at *
  generalize hw2 : w1.alloc (.cells #[bv x0, bv x1, bv x2, bv x3] 134) = w2 at *
  have Hg := Lib.hid hg
  clear hg hw2 h1 hm1
  have F2 := Lib.hid f2
  obtain ⟨c0, c1, c2, c3⟩ := f2
  have F2d : Hid (Four w2.drew g x0 x1 x2 x3) := F2.out
  have Hcall := Lib.hid (markAt_ok w2.drew A 256 c xs h2 252 (by omega) (by omega))
  go_region_with (go_at_call 77; refine Hcall.out.mono ?_; rintro e w3 ⟨y0, y1, y2, y3, hy, rfl, hm3⟩; have Hy := Lib.hid hy; clear hy; obtain ⟨d0, d1, d2, d3⟩ := Four.mod F2d.out hm3 id; have he := eq_no (x0 := x0) (x1 := x1) (x2 := x2) (x3 := x3) (y0 := y0) (y1 := y1) (y2 := y2) (y3 := y3) (fun e => Hne.out (by rw [← drop252 Hxl.out, Hy.out, ← e, ← Hx.out]; rfl)))
  all_goals
    have hM3 : Mod (fun _ => False) w w3 := hm2.drew.trans hm3 (fun _ _ h => h)
    clear Hcall he
    go_wp2
    go_ret3
    exact ⟨rfl, hM3⟩

/-- What lies between a sector's stamps, in memory of the call's own. -/
def Room (w w' : World) (g : Nat) (ys : List UInt8) : Prop :=
  w.heap.size ≤ g ∧ w'.heap[g]? = some (.cells (ys.map bv).toArray 139 (0, 0)) ∧ Mod (fun _ => False) w w'
theorem Room.sl {w w' : World} {g : Nat} {ys : List UInt8} (h : Room w w' g ys) (hl : ys.length = 248) : Sl w' (some ⟨g, 0, none⟩) 248 248 ys := by
  have := Sl.lit ys h.2.1
  rw [hl] at this
  exact this

set_option maxRecDepth 100000 in
set_option maxHeartbeats 1600000 in
theorem open_ok (w : World) (A : Option Addr) (c : Nat) (xs : List UInt8) (h : Sl w A 256 c xs) (hne : xs.take 4 = xs.drop 252) :
    Calls Tryz.prog 63 #[.slice A 256 c] w fun e w' => ∃ g, e = .returned (.tuple #[.slice (some ⟨g, 0, none⟩) 248 248, .int .i64 (unle (xs.take 4) : Int), .int .i64 0]) ∧ Room w w' g ((xs.drop 4).take 248) := by
  obtain ⟨b, o, rfl, hb⟩ := h.lt (by omega)
  have hz44 := zero44
  have hcap := h.cap
  have hc4 : ¬ c = 4 := by omega
  have hcap' : (256 : Int) ≤ c := by omega
  have Hne := Lib.hid hne
  have Hxl := Lib.hid h.len
  clear hne
  go_enter Tryz.func63, Tryz.ntmps63
  go_wp2_with fail
  refine (markAt_ok _ _ _ _ _ h 0 (by omega) (by omega)).mono ?_
  rintro e w1 ⟨x0, x1, x2, x3, hx, rfl, hm1⟩
  have Hx := Lib.hid hx
  have h1 := h.mod hm1 (fun _ _ _ => id)
  clear hx h
  go_wp2_with fail
  have f2 : Four (w1.alloc (.cells #[bv x0, bv x1, bv x2, bv x3] 134)) w1.heap.size x0 x1 x2 x3 := Four.of_block (heap_alloc_new w1 _)
  have h2 := h1.alloc (.cells #[bv x0, bv x1, bv x2, bv x3] 134)
  have hm2 := hm1.alloc (.cells #[bv x0, bv x1, bv x2, bv x3] 134)
  generalize hg : w1.heap.size = g at *
  generalize hw2 : w1.alloc (.cells #[bv x0, bv x1, bv x2, bv x3] 134) = w2 at *
  have Hg := Lib.hid hg
  clear hg hw2 h1 hm1
  have F2 := Lib.hid f2
  obtain ⟨c0, c1, c2, c3⟩ := f2
  have F2d : Hid (Four w2.drew g x0 x1 x2 x3) := F2.out
  have Hcall := Lib.hid (markAt_ok w2.drew (some ⟨b, o, none⟩) 256 c xs h2 252 (by omega) (by omega))
  go_region_with (go_at_call 77; refine Hcall.out.mono ?_; rintro e w3 ⟨y0, y1, y2, y3, hy, rfl, hm3⟩; have Hy := Lib.hid hy; clear hy; obtain ⟨d0, d1, d2, d3⟩ := Four.mod F2d.out hm3 id; obtain ⟨rfl, rfl, rfl, rfl⟩ := marks_eq Hx.out Hy.out Hxl.out Hne.out; have he := eq_yes x0 x1 x2 x3)
  all_goals
    have hM3 : Mod (fun _ => False) w w3 := hm2.drew.trans hm3 (fun _ _ h => h)
    have h3 : Sl w3 (some ⟨b, o, none⟩) 256 c xs := h2.drew.mod hm3 (fun _ _ _ => id)
    have F3 : Hid (Four w3 g x0 x1 x2 x3) := Four.mod F2d.out hm3 id
    clear Hcall he c0 c1 c2 c3 d0 d1 d2 d3 F2 F2d hm3 h2 hm2
    go_wp2_with fail
    obtain ⟨w4, hw4⟩ : ∃ w4, w4 = w3.alloc (.cells (zrow 248) 139) := ⟨_, rfl⟩
    rw [← hw4]
    have hs3 := hM3.size
    have h4 : Sl w4 (some ⟨b, o, none⟩) 256 c xs := by rw [hw4]; exact h3.alloc _
    have hM4 : Mod (fun _ => False) w w4 := by rw [hw4]; exact hM3.alloc _
    have hgl : g < w3.heap.size := World.block_lt_of_cell? w3 _ F3.out.1
    have F4 : Hid (Four w4 g x0 x1 x2 x3) := by
      show Four w4 g x0 x1 x2 x3
      rw [hw4]; exact F3.out.mod ((Mod.refl (fun _ => False) w3).alloc _) id
    obtain ⟨Z, hZ⟩ : ∃ Z, Z = zeros 248 := ⟨_, rfl⟩
    have HZ := Lib.hid hZ
    have HZl : Hid (Z.length = 248) := by show _ = _; rw [hZ, zeros_len]
    have Hg4 : Hid (w4.drew.heap[w3.heap.size]? = some (.cells (Z.map bv).toArray 139 (0, 0))) := by
      show w4.heap[w3.heap.size]? = _
      rw [hw4, hZ]; exact heap_alloc_new w3 _
    have hsrc := (Sl.drew h4).srcAt 4 248 (by omega)
    have Hxl4 : Hid (((xs.drop 4).take 248).length = 248) := by show _ = _; rw [List.length_take, List.length_drop, Hxl.out]; rfl
    obtain ⟨R, hR⟩ : ∃ R, R = (xs.drop 4).take 248 := ⟨_, rfl⟩
    rw [← hR] at hsrc
    have HRl : Hid (R.length = 248) := by show _ = _; rw [hR]; exact Hxl4.out
    have HR := Lib.hid hR
    obtain ⟨CR, hCR⟩ : ∃ CR, CR = R.map bv := ⟨_, rfl⟩
    rw [← hCR] at hsrc
    have HCR := Lib.hid hCR
    have HCl : Hid (CR.length = 248) := by show _ = _; rw [hCR, List.length_map, HRl.out]
    have HCone : Hid (∀ v ∈ CR, v.oneCell' = true) := by show ∀ v ∈ CR, v.oneCell' = true; rw [hCR]; exact bv_one R
    have Hn1 : Hid (CR.length = Nat.min 252 248) := by show _ = _; rw [HCl.out]; rfl
    have Hf1 : Hid (0 + CR.length ≤ (Z.map bv).length) := by show _ ≤ _; rw [HCl.out, List.length_map, HZl.out]; omega
    have Hp1 : Hid (0 < CR.length → some (⟨w3.heap.size, 0, none⟩ : Addr) = some ⟨w3.heap.size, 0, none⟩ ∧ ∃ ad, some (⟨b, o + 4, none⟩ : Addr) = some ad ∧ ∀ j v, CR[j]? = some v → w4.drew.cell? (ad.add j) = some v) :=
      fun _ => ⟨rfl, _, rfl, hsrc⟩
    clear hZ hR hCR hsrc hw4 h3 hM3
    go_region_law ((rw [if_pos (by simp [Region.wanted])]); refine wp_copyTo (dp := some ⟨w3.heap.size, 0, none⟩) (dLen := 248) (dCap := 248) (sp := some ⟨b, o + 4, none⟩) (sLen := 252) (sCap := c - 4) (off := 0) (.tmp 16) (.tmp 18) byteElem rfl (by go_simp) (by go_simp) Hg4.out Hn1.out Hp1.out Hf1.out HCone.out ?_; intro w5 hg5 hm5 hs5)
    all_goals
      have hM5 : Mod (fun _ => False) w w5 := hM4.drew.trans hm5 (fun i hi e => by omega)
      have F5 : Hid (Four w5 g x0 x1 x2 x3) := by
        have F4d : Four w4.drew g x0 x1 x2 x3 := F4.out
        exact F4d.mod hm5 (by omega)
      have Hg5 : Hid (w5.heap[w3.heap.size]? = some (.cells (R.map bv).toArray 139 (0, 0))) := by
        show _ = _
        have e1 : splice Z 0 R = R := by
          rw [HZ.out]
          have := splice_at [] (zeros 248) 0 rfl R
          rw [zeros_drop, HRl.out, show zeros (248 - 248) = [] from rfl, List.append_nil] at this
          exact this
        rw [hg5, HCR.out, splice_map, e1]
      clear hg5 hm5 hs5 Hp1 Hf1 Hn1 Hg4 F4 h4 hM4
      go_wp2_with fail
      obtain ⟨c0, c1, c2, c3⟩ := F5.out
      have Hst := Lib.hid (stamp_ok w5.drew x0 x1 x2 x3)
      have F5d : Hid (Four w5.drew g x0 x1 x2 x3) := F5.out
      go_region_with (go_at_call 78; refine Hst.out.mono ?_; rintro e w6 ⟨rfl, hm6⟩)
      all_goals
        have hM6 : Mod (fun _ => False) w w6 := hM5.drew.trans hm6 (fun _ _ h => h)
        have hl5 : w3.heap.size < w5.heap.size := (Array.getElem?_eq_some_iff.1 Hg5.out).1
        have Hg6 : Hid (w6.heap[w3.heap.size]? = some (.cells (R.map bv).toArray 139 (0, 0))) := (hm6.block _ hl5 id).trans Hg5.out
        clear Hst F5 F5d c0 c1 c2 c3 hm6 hM5 Hg5
        go_wp2
        go_ret3
        have ex : xs.take 4 = [x0, x1, x2, x3] := Hx.out
        rw [ex, ← HR.out]
        exact ⟨w3.heap.size, rfl, hs3, Hg6.out, hM6⟩
end Go.Proofs.YtnbamljaiahmdaaGreat

namespace Go.Proofs.YtnbamljaiahmdaaGreat
open Go Go.RowKit

theorem partOf_at (xs ys : List UInt8) (k j : Nat) (hy : ys.length = 256) (hj : j < 256) : (partOf xs ys k).getD j 0 = if j < k then ys.getD j 0 else xs.getD j 0 := by
  unfold partOf
  by_cases h : j < k
  · rw [if_pos h, List.getD_eq_getElem?_getD, List.getElem?_append_left (by rw [List.length_take]; omega), List.getElem?_take, if_pos h, List.getD_eq_getElem?_getD]
  · rw [if_neg h, List.getD_eq_getElem?_getD]
    by_cases hk : k ≤ 256
    · rw [List.getElem?_append_right (by rw [List.length_take]; omega), List.length_take, Nat.min_eq_left (by omega), List.getElem?_drop, show k + (j - k) = j by omega, List.getD_eq_getElem?_getD]
    · omega

theorem take_getD (l : List UInt8) (j : Nat) (h : j < l.length) : l.take (j + 1) = l.take j ++ [l.getD j 0] := by
  rw [List.take_succ_eq_append_getElem h]
  simp [h]
theorem part_zero (xs ys : List UInt8) : partOf xs ys 0 = xs := by simp [partOf]
theorem part_all (xs ys : List UInt8) (hx : xs.length = 256) (hy : ys.length = 256) : partOf xs ys 256 = ys := by
  unfold partOf
  rw [List.take_of_length_le (by omega), List.drop_of_length_le (by omega), List.append_nil]
end Go.Proofs.YtnbamljaiahmdaaGreat

namespace Go.Proofs.YtnbamljaiahmdaaGreat
open Go Go.RowKit

theorem room_len {xs : List UInt8} (h : xs.length = 256) : ((xs.drop 4).take 248).length = 248 := by rw [List.length_take, List.length_drop, h]; rfl
theorem le_unle : ∀ (l : List UInt8), le l.length (unle l) = l
  | [] => rfl
  | b :: r => by
    have hb := b.toNat_lt
    have e1 : UInt8.ofNat (b.toNat + 256 * unle r) = b := by
      apply UInt8.toNat_inj.1
      rw [UInt8.toNat_ofNat']
      omega
    have e2 : (b.toNat + 256 * unle r) / 256 = unle r := by omega
    simp only [List.length_cons, unle, le, e1, e2, le_unle r]
theorem unle_len4 (l : List UInt8) (h : l.length = 4) : unle l < 4294967296 := by have := unle_lt l; rw [h] at this; exact this
theorem le4_unle (l : List UInt8) (h : l.length = 4) : le 4 (unle l) = l := by have := le_unle l; rw [h] at this; exact this
theorem unle_le4 (n : Int) (h0 : 0 ≤ n) (h1 : n ≤ 4294967295) : (unle (le 4 n.toNat) : Int) = n := by
  rw [unle_le 4 n.toNat (by omega)]
  omega
theorem le4_inj {a b : Int} (a0 : 0 ≤ a) (a1 : a ≤ 4294967295) (b0 : 0 ≤ b) (b1 : b ≤ 4294967295) (h : le 4 a.toNat = le 4 b.toNat) : a = b := by
  rw [← unle_le4 a a0 a1, ← unle_le4 b b0 b1, h]

theorem sec_take (n : Int) (xs : List UInt8) : (secOf n xs).take 4 = le 4 n.toNat := by
  rw [secOf, List.append_assoc, List.take_append_of_le_length (by rw [le_length]; omega), List.take_of_length_le (by rw [le_length]; omega)]
theorem sec_drop (n : Int) (xs : List UInt8) (h : xs.length ≤ 248) : (secOf n xs).drop 252 = le 4 n.toNat := by
  have hl : (le 4 n.toNat ++ (xs ++ zeros (248 - xs.length))).length = 252 := by simp only [List.length_append, zeros_len, le_length]; omega
  rw [secOf, List.drop_append, hl, List.drop_of_length_le (by omega)]
  rfl
theorem sec_mid (n : Int) (xs : List UInt8) (h : xs.length ≤ 248) : ((secOf n xs).drop 4).take 248 = xs ++ zeros (248 - xs.length) := by
  have hl : (xs ++ zeros (248 - xs.length)).length = 248 := by simp only [List.length_append, zeros_len]; omega
  have e4 : (le 4 n.toNat).length = 4 := le_length 4 _
  rw [secOf, List.append_assoc, List.drop_append, List.drop_of_length_le (by omega), e4, List.nil_append, Nat.sub_self, List.drop_zero, List.take_append_of_le_length (by omega), List.take_of_length_le (by omega)]
theorem parts3 (xs : List UInt8) : xs = xs.take 4 ++ (xs.drop 4).take 248 ++ xs.drop 252 := by
  have e1 : xs = xs.take 4 ++ xs.drop 4 := (List.take_append_drop 4 xs).symm
  have e2 : xs.drop 4 = (xs.drop 4).take 248 ++ (xs.drop 4).drop 248 := (List.take_append_drop 248 _).symm
  have e3 : (xs.drop 4).drop 248 = xs.drop 252 := by rw [List.drop_drop]
  rw [e3] at e2
  rw [List.append_assoc, ← e2, ← e1]
/-- What opens is what Seal makes of what it opens to. -/
theorem sec_only (xs : List UInt8) (h : xs.length = 256) (he : xs.take 4 = xs.drop 252) : secOf (unle (xs.take 4) : Int) ((xs.drop 4).take 248) = xs := by
  have hl : ((xs.drop 4).take 248).length = 248 := room_len h
  have h4 : (xs.take 4).length = 4 := by rw [List.length_take]; omega
  rw [secOf, hl, Int.toNat_natCast, le4_unle _ h4]
  conv => rhs; rw [parts3 xs, ← he]
  rw [show zeros (248 - 248) = [] from rfl, List.append_nil]

theorem ext_getD {xs ys : List UInt8} (hl : xs.length = ys.length) (h : ∀ j, j < xs.length → xs.getD j 0 = ys.getD j 0) : xs = ys := by
  apply List.ext_getElem hl
  intro j h1 h2
  have := h j h1
  simpa [h1, h2] using this
theorem part_at (xs ys : List UInt8) (k j : Nat) (hy : ys.length = 256) (hj : j < 256) : (partOf xs ys k).getD j 0 = if j < k then ys.getD j 0 else xs.getD j 0 := by
  unfold partOf
  by_cases h : j < k
  · rw [if_pos h, List.getD_eq_getElem?_getD, List.getElem?_append_left (by rw [List.length_take]; omega), List.getElem?_take, if_pos h, List.getD_eq_getElem?_getD]
  · rw [if_neg h, List.getD_eq_getElem?_getD]
    by_cases hk : k ≤ 256
    · rw [List.getElem?_append_right (by rw [List.length_take]; omega), List.length_take, Nat.min_eq_left (by omega), List.getElem?_drop, show k + (j - k) = j by omega, List.getD_eq_getElem?_getD]
    · omega
theorem part_part (xs ys : List UInt8) (a b m : Nat) (hx : xs.length = 256) (hy : ys.length = 256) (ha : a ≤ 256) (hb : b ≤ 256) (hm : m = max a b) : partOf (partOf xs ys a) ys b = partOf xs ys m := by
  have l1 := partOf_len xs ys a hx hy ha
  have l2 := partOf_len (partOf xs ys a) ys b l1 hy hb
  have l3 := partOf_len xs ys m hx hy (by omega)
  refine ext_getD (by omega) fun j hj => ?_
  rw [part_at _ _ _ _ hy (by omega), part_at _ _ _ _ hy (by omega), part_at _ _ _ _ hy (by omega)]
  subst hm
  by_cases h1 : j < b
  · rw [if_pos h1, if_pos (by omega)]
  · rw [if_neg h1]
    by_cases h2 : j < a
    · rw [if_pos h2, if_pos (by omega)]
    · rw [if_neg h2, if_neg (by omega)]

/-- A part of one sector over another one: torn, or one of the two. -/
theorem torn_or (a c : Int) (xs ys : List UInt8) (k : Nat) (hx : xs.length ≤ 248) (hy : ys.length ≤ 248) (hk : k ≤ 256) (hne : le 4 a.toNat ≠ le 4 c.toNat)
    (h : (partOf (secOf a xs) (secOf c ys) k).take 4 = (partOf (secOf a xs) (secOf c ys) k).drop 252) :
    partOf (secOf a xs) (secOf c ys) k = secOf a xs ∨ partOf (secOf a xs) (secOf c ys) k = secOf c ys := by
  have lo := secOf_len a xs hx
  have ln := secOf_len c ys hy
  have t0 := sec_take a xs
  have tn := sec_take c ys
  have dr := sec_drop a xs hx
  have dn := sec_drop c ys hy
  generalize secOf a xs = O at *
  generalize secOf c ys = N at *
  have lp := partOf_len O N k lo ln hk
  have at_ := fun j hj => part_at O N k j ln hj
  generalize partOf O N k = P at *
  have hends : ∀ j, j < 4 → P.getD j 0 = P.getD (252 + j) 0 := by
    intro j hj
    have e1 : (P.take 4).getD j 0 = P.getD j 0 := by simp [List.getD_eq_getElem?_getD, hj]
    have e2 : (P.drop 252).getD j 0 = P.getD (252 + j) 0 := by simp [List.getD_eq_getElem?_getD]
    rw [← e1, ← e2, h]
  have oends : ∀ j, j < 4 → O.getD j 0 = O.getD (252 + j) 0 := by
    intro j hj
    have e1 : (O.take 4).getD j 0 = O.getD j 0 := by simp [List.getD_eq_getElem?_getD, hj]
    have e2 : (O.drop 252).getD j 0 = O.getD (252 + j) 0 := by simp [List.getD_eq_getElem?_getD]
    rw [← e1, ← e2, t0, dr]
  have nends : ∀ j, j < 4 → N.getD j 0 = N.getD (252 + j) 0 := by
    intro j hj
    have e1 : (N.take 4).getD j 0 = N.getD j 0 := by simp [List.getD_eq_getElem?_getD, hj]
    have e2 : (N.drop 252).getD j 0 = N.getD (252 + j) 0 := by simp [List.getD_eq_getElem?_getD]
    rw [← e1, ← e2, tn, dn]
  by_cases h1 : k ≤ 252
  · -- the last stamp is the old one
    have same : ∀ j, j < 4 → j < k → N.getD j 0 = O.getD j 0 := by
      intro j hj hjk
      have a1 := at_ j (by omega)
      have a2 := at_ (252 + j) (by omega)
      rw [if_pos hjk] at a1
      rw [if_neg (by omega)] at a2
      rw [← a1, hends j hj, a2, oends j hj]
    by_cases h2 : 4 ≤ k
    · exfalso
      apply hne
      rw [← t0, ← tn]
      refine ext_getD (by simp [lo, ln]) fun j hj => ?_
      have hj4 : j < 4 := by simp [lo] at hj; omega
      have e1 : (O.take 4).getD j 0 = O.getD j 0 := by simp [List.getD_eq_getElem?_getD, hj4]
      have e2 : (N.take 4).getD j 0 = N.getD j 0 := by simp [List.getD_eq_getElem?_getD, hj4]
      rw [e1, e2, same j hj4 (by omega)]
    · left
      refine ext_getD (by omega) fun j hj => ?_
      rw [at_ j (by omega)]
      by_cases hjk : j < k
      · rw [if_pos hjk, same j (by omega) hjk]
      · rw [if_neg hjk]
  · right
    refine ext_getD (by omega) fun j hj => ?_
    rw [at_ j (by omega)]
    by_cases hjk : j < k
    · rw [if_pos hjk]
    · rw [if_neg hjk]
      obtain ⟨i, rfl⟩ : ∃ i, j = 252 + i := ⟨j - 252, by omega⟩
      have a1 := at_ i (by omega)
      have a2 := at_ (252 + i) (by omega)
      rw [if_pos (by omega)] at a1
      rw [if_neg hjk] at a2
      rw [← a2, ← hends i (by omega), a1, nends i (by omega)]
end Go.Proofs.YtnbamljaiahmdaaGreat
