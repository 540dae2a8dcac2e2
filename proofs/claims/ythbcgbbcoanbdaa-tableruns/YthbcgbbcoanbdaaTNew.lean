/-
  Package table: New (slices.Repeat, bits.Mul).
-/
import Derived.Test.YthbcgbbcoanbdaaTPut
import Derived.Test.YthbcgbbcoanbdaaTCpy
import Derived.Laws.Bits64b
import Derived.Laws.OwnMore
namespace Go.Proofs.Ythbcgbbcoanbdaa
open Go Go.RowKit

theorem and_mask (a : Nat) (ha : a ≤ 32) : bits .and .u64 (a : Int) 4294967295 = (a : Int) := by
  have h := bits_and_u64_nat a 4294967295 (by omega) (by omega)
  have e : a &&& 4294967295 = a := by
    have h1 : a &&& 4294967295 = a % 4294967296 := Nat.and_two_pow_sub_one_eq_mod a 32
    omega
  rw [e] at h
  exact h
set_option maxRecDepth 100000 in
set_option maxHeartbeats 1600000 in
theorem mul64_ok (w : World) (y : Nat) (hy : y ≤ 32) :
    Calls Try.prog 66 #[.int .u64 1, .int .u64 (y : Int)] w fun e w' => e = .returned (.tuple #[.int .u64 0, .int .u64 (y : Int)]) ∧ w = w' := by
  have h1 : bits .and .u64 1 4294967295 = 1 := and_mask 1 (by omega)
  have h2 := and_mask y hy
  have h3 : (y : Int) / 4294967296 = 0 := by omega
  have h0 : (0 : Int) ≤ (y : Int) := by omega
  have hyy : (y : Int) ≤ 32 := by omega
  go_enter Try.func66, Try.ntmps66
  go_wp2
  go_ret2
  exact ⟨rfl, rfl⟩

set_option maxRecDepth 100000 in
theorem mul_ok (w : World) (y : Nat) (hy : y ≤ 32) :
    Calls Try.prog 50 #[.int .u64 1, .int .u64 (y : Int)] w fun e w' => e = .returned (.tuple #[.int .u64 0, .int .u64 (y : Int)]) ∧ w = w' := by
  have H := Lib.hid (mul64_ok w y hy)
  go_enter Try.func50, Try.ntmps50
  go_wp2_with fail
  refine H.out.mono ?_
  rintro e w' ⟨rfl, rfl⟩
  go_wp2
  go_ret2
  exact ⟨rfl, rfl⟩

/-- The row behind some rounds: the first q elements laid. -/
def rep (v : Tr) (q : Nat) (Z : List Value) : List Value := trs (List.replicate q v) ++ Z.drop (q * 3)
theorem rep_len {v : Tr} {q k : Nat} {Z : List Value} (hZ : Z.length = k * 3) (h : q ≤ k) : (rep v q Z).length = k * 3 := by
  rw [rep, List.length_append, trs_len, List.length_replicate, List.length_drop, hZ]; omega
theorem rep_splice (v : Tr) (q m : Nat) (Z : List Value) : splice (rep v q Z) (q * 3) (trs (List.replicate m v)) = rep v (q + m) Z := by
  have hl : (trs (List.replicate q v)).length = q * 3 := by rw [trs_len, List.length_replicate]
  have hm : (trs (List.replicate m v)).length = m * 3 := by rw [trs_len, List.length_replicate]
  unfold splice rep
  rw [List.take_append_of_le_length (by omega), List.take_of_length_le (by omega), List.drop_append, hl, hm, List.drop_drop]
  rw [List.drop_eq_nil_of_le (by rw [hl]; omega), List.nil_append, ← List.append_assoc, ← trs_append, List.replicate_append_replicate]
  congr 2
  omega
theorem rep_zero (v : Tr) (Z : List Value) : rep v 0 Z = Z := by simp [rep, trs]
theorem rep_all {v : Tr} {k : Nat} {Z : List Value} (hZ : Z.length = k * 3) : rep v k Z = trs (List.replicate k v) := by
  rw [rep, List.drop_eq_nil_of_le (by omega), List.append_nil]
theorem rep_take {v : Tr} {q m : Nat} {Z : List Value} (h : m ≤ q) {j : Nat} {u : Value} (hj : (trs (List.replicate m v))[j]? = some u) : (rep v q Z)[j]? = some u := by
  have hlt := (List.getElem?_eq_some_iff.1 hj).1
  rw [trs_len, List.length_replicate] at hlt
  rw [rep, List.getElem?_append_left (by rw [trs_len, List.length_replicate]; omega)]
  have e : List.replicate q v = List.replicate m v ++ List.replicate (q - m) v := by rw [List.replicate_append_replicate]; congr 1; omega
  rw [e, trs_append, List.getElem?_append_left (by rw [trs_len, List.length_replicate]; omega)]
  exact hj
/-- What lies ahead of a round of slices.Repeat. -/
structure Rpt (w1 wr : World) (T : TypeId) (g k : Nat) (Z : List Value) (v : Tr) (q : Nat) : Prop where
  blk : wr.heap[g]? = some (.cells (rep v q Z).toArray T (0, 0))
  old : Mod (fun i => i = g) w1 wr

set_option maxRecDepth 100000 in
set_option maxHeartbeats 3200000 in
theorem repeat_plElem (w : World) (b : Nat) (v : Tr) (hv : RBx w b 34 v) (k : Nat) (hk1 : 1 ≤ k) (hk2 : k ≤ 32) :
    Calls Try.prog 26 #[.slice (some ⟨b, 0, none⟩) 1 1, .int .i64 (k : Int)] w fun e w' => ∃ g, e = .returned (.slice (some ⟨g, 0, none⟩) k k) ∧ Ow3 w' w.heap.size 34 (some ⟨g, 0, none⟩) k k (List.replicate k v) ∧ Mod (fun _ => False) w w' := by
  have HMU := Lib.hid (mul_ok w k hk2)
  obtain ⟨ht, _, _, i, hi, hz, hsz, hby⟩ := plElem
  have hmk0 := fun V : World => run_make (P := Try.prog) V 24 34 i (.agg #[.int .i64 0, .int .i64 0, .int .i64 0]) ht hi hz .i64 .i64 (k : Int) (k : Int) (by omega) (by omega) (by rw [hby]; omega) (by omega)
  obtain ⟨Z, hZ0, hZl⟩ : ∃ Z : List Value, madeCells (.agg #[.int .i64 0, .int .i64 0, .int .i64 0] : Value).cells (k * 3) = Z.toArray ∧ Z.length = k * 3 := ⟨(madeCells (.agg #[.int .i64 0, .int .i64 0, .int .i64 0] : Value).cells (k * 3)).toList, by simp, by simp [madeCells]⟩
  have hmk : ∀ V : World, (Instr.makeSlice 24 (.int .i64 (k : Int)) (.int .i64 (k : Int))).run Try.prog V = .ok (.slice (some ⟨V.heap.size, 0, none⟩) k k) (V.alloc (.cells Z.toArray 34)) := fun V => by
    have := hmk0 V
    rw [hsz, Int.toNat_natCast, hZ0] at this
    exact this
  clear hmk0 ht hi hz hsz hby hZ0
  have hb := hv.cells
  have hbl := hv.lt
  have Hv := Lib.hid hv
  have HZl := Lib.hid hZl
  clear hv hZl hb
  have hkk : (k : Int) ≤ 32 := by omega
  have hk0 : (0 : Int) ≤ (k : Int) := by omega
  go_enter Try.func26, Try.ntmps26
  go_wp2_with fail
  refine HMU.out.mono ?_
  rintro e w1 ⟨rfl, rfl⟩
  obtain ⟨w2, hw2⟩ : ∃ w2, w.alloc (.cells Z.toArray 34) = w2 := ⟨_, rfl⟩
  have hm2 : Mod (fun _ => False) w w2 := by rw [← hw2]; exact (Mod.refl _ w).alloc _
  have hblk : w2.heap[w.heap.size]? = some (.cells (rep v 0 Z).toArray 34 (0, 0)) := by rw [← hw2, rep_zero]; exact heap_alloc_new w _
  have hsrc : ∀ j u, (trs (List.replicate 1 v))[j]? = some u → w2.cell? ((⟨b, 0, none⟩ : Addr).add j) = some u := fun j u hj => by
    obtain ⟨a0, a1, a2⟩ := (Hv.out.keep hm2).cells
    have hlt := (List.getElem?_eq_some_iff.1 hj).1
    rw [trs_len, List.length_replicate] at hlt
    have hadd : (⟨b, 0, none⟩ : Addr).add j = ⟨b, 0 + j, none⟩ := by unfold Addr.add; split <;> simp_all
    rw [hadd, Nat.zero_add]
    have e : trs (List.replicate 1 v) = [.int .i64 v.a, .int .i64 v.b, .int .i64 v.c] := rfl
    rw [e] at hj
    have hr : j = 0 ∨ j = 1 ∨ j = 2 := by omega
    rcases hr with rfl | rfl | rfl
    · rw [a0]; exact hj
    · rw [a1]; exact hj
    · rw [a2]; exact hj
  have Hblk := Lib.hid hblk
  have Hsrc := Lib.hid hsrc
  have Hm2 := Lib.hid hm2
  have hkp : Nat.min 1 k = 1 := Nat.min_eq_left hk1
  have Hkp := Lib.hid hkp
  clear hblk hsrc hm2 hkp
  go_wp2_with ((with_reducible refine wpList_copyN (.tmp 31) (.tmp 32) plElem rfl rfl rfl rfl Hblk.out Hkp.out (off := 0) (cs := trs (List.replicate 1 v)) rfl (fun _ => ⟨rfl, _, rfl, Hsrc.out⟩) (by rw [rep_len HZl.out (Nat.zero_le _)]; simp [trs_len]; omega) (trs_one _) ?_); intro w3 h31 h32 h33)
  clear hw2
  have HR : Hid (Rpt w2 w3 34 w.heap.size k Z v 1) := by
    refine ⟨?_, h32⟩
    have e := rep_splice v 0 1 Z
    rw [Nat.zero_mul, Nat.zero_add] at e
    rw [← e]
    exact h31
  clear h31 h32 h33 Hblk Hsrc Hkp
  go_wp2
  go_loopw [8] (fun nn wr => ∃ q : Nat, 1 ≤ q ∧ q ≤ k ∧ nn = .int .i64 (q : Int) ∧ Rpt w2 wr 34 w.heap.size k Z v q) (fun nn _ => k - (intOf nn).toNat)
  case atStart => exact ⟨1, Nat.le_refl _, hk1, rfl, HR.out⟩
  clear HR
  case round =>
    obtain ⟨q, hq1, hqk, rfl, hr⟩ := hrel
    have Hr := Lib.hid hr
    clear hr
    by_cases hlt : q < k
    · have hqi : (q : Int) ≤ (k : Int) := by omega
      have hq0 : (0 : Int) ≤ (q : Int) := by omega
      have hqkn : ¬ q = k := by omega
      obtain ⟨m, hm⟩ : ∃ m, Nat.min q (k - q) = m := ⟨_, rfl⟩
      have hm1 : 1 ≤ m := by rw [← hm]; exact Nat.le_min.2 ⟨hq1, by omega⟩
      have hm2 : m ≤ q := by rw [← hm]; exact Nat.min_le_left _ _
      have hm3 : q + m ≤ k := by have : m ≤ k - q := by rw [← hm]; exact Nat.min_le_right _ _
                                 omega
      have Hmn := Lib.hid hm
      clear hm
      have Hlen : Hid (q * 3 + (trs (List.replicate m v)).length ≤ (rep v q Z).length) := by
        rw [rep_len HZl.out hqk, trs_len, List.length_replicate]
        exact Lib.hid (by omega)
      have Hsrc : Hid (∀ (W : World), W.heap[w.heap.size]? = some (.cells (rep v q Z).toArray 34 (0, 0)) → ∀ j u, (trs (List.replicate m v))[j]? = some u → W.cell? ((⟨w.heap.size, 0, none⟩ : Addr).add j) = some u) := fun W hW j u hj => by
        have hadd : (⟨w.heap.size, 0, none⟩ : Addr).add j = ⟨w.heap.size, 0 + j, none⟩ := by unfold Addr.add; split <;> simp_all
        rw [hadd, Nat.zero_add, cell_of_row _ _ _ _ _ _ hW, ← Array.getElem?_toList]
        exact rep_take hm2 hj
      have Hcl : Hid ((trs (List.replicate m v)).length = m * 3) := by rw [trs_len, List.length_replicate]; exact Lib.hid rfl
      have hkq : ¬ k = q := by omega
      have hwr : IntKind.i64.wrap ((q : Int) + (m : Int)) = (q : Int) + (m : Int) := by rw [IntKind.wrap_i64]; omega
      have Hb : Hid (wr.drew.heap[w.heap.size]? = some (.cells (rep v q Z).toArray 34 (0, 0))) := Hr.out.blk
      obtain ⟨w5, hrun, h51, h52, _⟩ := run_copyN (P := Try.prog) (w := wr.drew) plElem 3 (dp := some ⟨w.heap.size, q * 3, none⟩) (sp := some ⟨w.heap.size, 0, none⟩) (dLen := k - q) (dCap := k - q) (sLen := q) (sCap := k) Hb.out Hmn.out (off := q * 3) (cs := trs (List.replicate m v)) Hcl.out (fun _ => ⟨rfl, _, rfl, Hsrc.out _ Hb.out⟩) Hlen.out (trs_one _)
      have h51 := Lib.hid h51
      have h52 := Lib.hid h52
      have Hold : Hid (Mod (fun i => i = w.heap.size) w2 wr.drew) := Hr.out.old.drew
      go_wp2_with fail
      refine wp_region_held (S := (fun _ : World => True)) (by kernel_rfl) ?_
      have hI := (trivial : (fun _ : World => True) wr.drew)
      refine rg_take (n := 9) (v := ?_) 0 (some 38) rfl rfl (by kernel_rfl) (by kernel_rfl) (by kernel_rfl) (fun _ _ _ h => h) (by rfl) hI ?_ ?_
      rotate_left
      · ((intro w hSw; (try dsimp only at hSw); go_simp); (try with_reducible rfl))
      try simp only [Act.put, List.setIfInBounds_toArray, List.set_cons_zero, List.set_cons_succ]
      refine rg_take (n := 8) (v := ?_) 1 (some 39) rfl rfl (by kernel_rfl) (by kernel_rfl) (by kernel_rfl) (fun _ _ _ h => h) (by rfl) hI ?_ ?_
      rotate_left
      · ((intro w hSw; (try dsimp only at hSw); go_simp); (try with_reducible rfl))
      try simp only [Act.put, List.setIfInBounds_toArray, List.set_cons_zero, List.set_cons_succ]
      refine rg_take (n := 7) (v := ?_) 2 (some 40) rfl rfl (by kernel_rfl) (by kernel_rfl) (by kernel_rfl) (fun _ _ _ h => h) (by rfl) hI ?_ ?_
      rotate_left
      · ((intro w hSw; (try dsimp only at hSw); go_simp); (try with_reducible rfl))
      try simp only [Act.put, List.setIfInBounds_toArray, List.set_cons_zero, List.set_cons_succ]
      refine rg_take (n := 6) (v := ?_) 3 (some 41) rfl rfl (by kernel_rfl) (by kernel_rfl) (by kernel_rfl) (fun _ _ _ h => h) (by rfl) hI ?_ ?_
      rotate_left
      · ((intro w hSw; (try dsimp only at hSw); go_simp); (try with_reducible rfl))
      try simp only [Act.put, List.setIfInBounds_toArray, List.set_cons_zero, List.set_cons_succ]
      refine rg_take (n := 5) (v := ?_) 4 (some 42) rfl rfl (by kernel_rfl) (by kernel_rfl) (by kernel_rfl) (fun _ _ _ h => h) (by rfl) hI ?_ ?_
      rotate_left
      · ((intro w hSw; (try dsimp only at hSw); go_simp); (try with_reducible rfl))
      try simp only [Act.put, List.setIfInBounds_toArray, List.set_cons_zero, List.set_cons_succ]
      refine rg_take (n := 4) (v := ?_) 5 (some 43) rfl rfl (by kernel_rfl) (by kernel_rfl) (by kernel_rfl) (fun _ _ _ h => h) (by rfl) hI ?_ ?_
      rotate_left
      · ((intro w hSw; (try dsimp only at hSw); go_simp); (try with_reducible rfl))
      try simp only [Act.put, List.setIfInBounds_toArray, List.set_cons_zero, List.set_cons_succ]
      refine rg_take (n := 3) (v := ?_) 6 (some 44) rfl rfl (by kernel_rfl) (by kernel_rfl) (by kernel_rfl) (fun _ _ _ h => h) (by rfl) hI ?_ ?_
      rotate_left
      · ((intro w hSw; (try dsimp only at hSw); go_simp); (try with_reducible rfl))
      try simp only [Act.put, List.setIfInBounds_toArray, List.set_cons_zero, List.set_cons_succ]
      refine rg_run (n := 2) (v := .int .i64 (m : Int)) (w2 := w5) 7 (some 45) rfl rfl (by kernel_rfl) (by rfl) trivial ?_ ?_
      · (go_simp; (try with_reducible rfl))
      try simp only [Act.put, List.setIfInBounds_toArray, List.set_cons_zero, List.set_cons_succ]
      refine rg_take (n := 1) (v := ?_) 8 (some 46) rfl rfl (by kernel_rfl) (by kernel_rfl) (by kernel_rfl) (fun _ _ _ h => h) (by rfl) hI ?_ ?_
      rotate_left
      · ((intro w hSw; (try dsimp only at hSw); go_simp); (try with_reducible rfl))
      try simp only [Act.put, List.setIfInBounds_toArray, List.set_cons_zero, List.set_cons_succ]
      refine rg_take (n := 0) (v := ?_) 9 (some 8) rfl rfl (by kernel_rfl) (by kernel_rfl) (by kernel_rfl) (fun _ _ _ h => h) (by rfl) hI ?_ ?_
      rotate_left
      · ((intro w hSw; (try dsimp only at hSw); go_simp); (try with_reducible rfl))
      try simp only [Act.put, List.setIfInBounds_toArray, List.set_cons_zero, List.set_cons_succ]
      refine wpAnyH_done (by kernel_rfl) ?_ _
      clear hI
      clear hrun hwr
      go_wp2
      have HR5 : Hid (Rpt w2 w5 34 w.heap.size k Z v (q + m)) := by
        refine ⟨?_, Hold.out.trans h52.out (fun _ _ h => h)⟩
        rw [← rep_splice v q m Z]
        exact h51.out
      clear h51 h52
      go_roundw
      case rel => exact ⟨q + m, by omega, hm3, by go_num, HR5.out⟩
      case measure => simp [intOf]; omega
    · obtain rfl : q = k := by omega
      go_wp2
      go_ret
      refine ⟨w.heap.size, rfl, ?_, ?_⟩
      · have hb := Hr.out.blk
        rw [rep_all HZl.out] at hb
        exact OwN.mk_ (Nat.le_refl _) hb (Nat.le_refl _) (by unfold maxLen; omega) (by rw [trs_len, List.length_replicate]) (by rw [List.take_of_length_le (by rw [trs_len, List.length_replicate]; omega)]) (by rw [trs_len, List.length_replicate])
      · exact ((Hm2.out.mono (G := fun i => i = w.heap.size) (fun _ _ h => h.elim)).trans Hr.out.old (fun _ _ h => h)).mono (fun i hi e => by omega)

set_option maxRecDepth 100000 in
set_option maxHeartbeats 3200000 in
theorem repeat_sgElem (w : World) (b : Nat) (v : Tr) (hv : RBx w b 45 v) (k : Nat) (hk1 : 1 ≤ k) (hk2 : k ≤ 32) :
    Calls Try.prog 28 #[.slice (some ⟨b, 0, none⟩) 1 1, .int .i64 (k : Int)] w fun e w' => ∃ g, e = .returned (.slice (some ⟨g, 0, none⟩) k k) ∧ Ow3 w' w.heap.size 45 (some ⟨g, 0, none⟩) k k (List.replicate k v) ∧ Mod (fun _ => False) w w' := by
  have HMU := Lib.hid (mul_ok w k hk2)
  obtain ⟨ht, _, _, i, hi, hz, hsz, hby⟩ := sgElem
  have hmk0 := fun V : World => run_make (P := Try.prog) V 25 45 i (.agg #[.int .i64 0, .int .i64 0, .int .i64 0]) ht hi hz .i64 .i64 (k : Int) (k : Int) (by omega) (by omega) (by rw [hby]; omega) (by omega)
  obtain ⟨Z, hZ0, hZl⟩ : ∃ Z : List Value, madeCells (.agg #[.int .i64 0, .int .i64 0, .int .i64 0] : Value).cells (k * 3) = Z.toArray ∧ Z.length = k * 3 := ⟨(madeCells (.agg #[.int .i64 0, .int .i64 0, .int .i64 0] : Value).cells (k * 3)).toList, by simp, by simp [madeCells]⟩
  have hmk : ∀ V : World, (Instr.makeSlice 25 (.int .i64 (k : Int)) (.int .i64 (k : Int))).run Try.prog V = .ok (.slice (some ⟨V.heap.size, 0, none⟩) k k) (V.alloc (.cells Z.toArray 45)) := fun V => by
    have := hmk0 V
    rw [hsz, Int.toNat_natCast, hZ0] at this
    exact this
  clear hmk0 ht hi hz hsz hby hZ0
  have hb := hv.cells
  have hbl := hv.lt
  have Hv := Lib.hid hv
  have HZl := Lib.hid hZl
  clear hv hZl hb
  have hkk : (k : Int) ≤ 32 := by omega
  have hk0 : (0 : Int) ≤ (k : Int) := by omega
  go_enter Try.func28, Try.ntmps28
  go_wp2_with fail
  refine HMU.out.mono ?_
  rintro e w1 ⟨rfl, rfl⟩
  obtain ⟨w2, hw2⟩ : ∃ w2, w.alloc (.cells Z.toArray 45) = w2 := ⟨_, rfl⟩
  have hm2 : Mod (fun _ => False) w w2 := by rw [← hw2]; exact (Mod.refl _ w).alloc _
  have hblk : w2.heap[w.heap.size]? = some (.cells (rep v 0 Z).toArray 45 (0, 0)) := by rw [← hw2, rep_zero]; exact heap_alloc_new w _
  have hsrc : ∀ j u, (trs (List.replicate 1 v))[j]? = some u → w2.cell? ((⟨b, 0, none⟩ : Addr).add j) = some u := fun j u hj => by
    obtain ⟨a0, a1, a2⟩ := (Hv.out.keep hm2).cells
    have hlt := (List.getElem?_eq_some_iff.1 hj).1
    rw [trs_len, List.length_replicate] at hlt
    have hadd : (⟨b, 0, none⟩ : Addr).add j = ⟨b, 0 + j, none⟩ := by unfold Addr.add; split <;> simp_all
    rw [hadd, Nat.zero_add]
    have e : trs (List.replicate 1 v) = [.int .i64 v.a, .int .i64 v.b, .int .i64 v.c] := rfl
    rw [e] at hj
    have hr : j = 0 ∨ j = 1 ∨ j = 2 := by omega
    rcases hr with rfl | rfl | rfl
    · rw [a0]; exact hj
    · rw [a1]; exact hj
    · rw [a2]; exact hj
  have Hblk := Lib.hid hblk
  have Hsrc := Lib.hid hsrc
  have Hm2 := Lib.hid hm2
  have hkp : Nat.min 1 k = 1 := Nat.min_eq_left hk1
  have Hkp := Lib.hid hkp
  clear hblk hsrc hm2 hkp
  go_wp2_with ((with_reducible refine wpList_copyN (.tmp 31) (.tmp 32) sgElem rfl rfl rfl rfl Hblk.out Hkp.out (off := 0) (cs := trs (List.replicate 1 v)) rfl (fun _ => ⟨rfl, _, rfl, Hsrc.out⟩) (by rw [rep_len HZl.out (Nat.zero_le _)]; simp [trs_len]; omega) (trs_one _) ?_); intro w3 h31 h32 h33)
  clear hw2
  have HR : Hid (Rpt w2 w3 45 w.heap.size k Z v 1) := by
    refine ⟨?_, h32⟩
    have e := rep_splice v 0 1 Z
    rw [Nat.zero_mul, Nat.zero_add] at e
    rw [← e]
    exact h31
  clear h31 h32 h33 Hblk Hsrc Hkp
  go_wp2
  go_loopw [8] (fun nn wr => ∃ q : Nat, 1 ≤ q ∧ q ≤ k ∧ nn = .int .i64 (q : Int) ∧ Rpt w2 wr 45 w.heap.size k Z v q) (fun nn _ => k - (intOf nn).toNat)
  case atStart => exact ⟨1, Nat.le_refl _, hk1, rfl, HR.out⟩
  clear HR
  case round =>
    obtain ⟨q, hq1, hqk, rfl, hr⟩ := hrel
    have Hr := Lib.hid hr
    clear hr
    by_cases hlt : q < k
    · have hqi : (q : Int) ≤ (k : Int) := by omega
      have hq0 : (0 : Int) ≤ (q : Int) := by omega
      have hqkn : ¬ q = k := by omega
      obtain ⟨m, hm⟩ : ∃ m, Nat.min q (k - q) = m := ⟨_, rfl⟩
      have hm1 : 1 ≤ m := by rw [← hm]; exact Nat.le_min.2 ⟨hq1, by omega⟩
      have hm2 : m ≤ q := by rw [← hm]; exact Nat.min_le_left _ _
      have hm3 : q + m ≤ k := by have : m ≤ k - q := by rw [← hm]; exact Nat.min_le_right _ _
                                 omega
      have Hmn := Lib.hid hm
      clear hm
      have Hlen : Hid (q * 3 + (trs (List.replicate m v)).length ≤ (rep v q Z).length) := by
        rw [rep_len HZl.out hqk, trs_len, List.length_replicate]
        exact Lib.hid (by omega)
      have Hsrc : Hid (∀ (W : World), W.heap[w.heap.size]? = some (.cells (rep v q Z).toArray 45 (0, 0)) → ∀ j u, (trs (List.replicate m v))[j]? = some u → W.cell? ((⟨w.heap.size, 0, none⟩ : Addr).add j) = some u) := fun W hW j u hj => by
        have hadd : (⟨w.heap.size, 0, none⟩ : Addr).add j = ⟨w.heap.size, 0 + j, none⟩ := by unfold Addr.add; split <;> simp_all
        rw [hadd, Nat.zero_add, cell_of_row _ _ _ _ _ _ hW, ← Array.getElem?_toList]
        exact rep_take hm2 hj
      have Hcl : Hid ((trs (List.replicate m v)).length = m * 3) := by rw [trs_len, List.length_replicate]; exact Lib.hid rfl
      have hkq : ¬ k = q := by omega
      have hwr : IntKind.i64.wrap ((q : Int) + (m : Int)) = (q : Int) + (m : Int) := by rw [IntKind.wrap_i64]; omega
      have Hb : Hid (wr.drew.heap[w.heap.size]? = some (.cells (rep v q Z).toArray 45 (0, 0))) := Hr.out.blk
      obtain ⟨w5, hrun, h51, h52, _⟩ := run_copyN (P := Try.prog) (w := wr.drew) sgElem 3 (dp := some ⟨w.heap.size, q * 3, none⟩) (sp := some ⟨w.heap.size, 0, none⟩) (dLen := k - q) (dCap := k - q) (sLen := q) (sCap := k) Hb.out Hmn.out (off := q * 3) (cs := trs (List.replicate m v)) Hcl.out (fun _ => ⟨rfl, _, rfl, Hsrc.out _ Hb.out⟩) Hlen.out (trs_one _)
      have h51 := Lib.hid h51
      have h52 := Lib.hid h52
      have Hold : Hid (Mod (fun i => i = w.heap.size) w2 wr.drew) := Hr.out.old.drew
      go_wp2_with fail
      refine wp_region_held (S := (fun _ : World => True)) (by kernel_rfl) ?_
      have hI := (trivial : (fun _ : World => True) wr.drew)
      refine rg_take (n := 9) (v := ?_) 0 (some 38) rfl rfl (by kernel_rfl) (by kernel_rfl) (by kernel_rfl) (fun _ _ _ h => h) (by rfl) hI ?_ ?_
      rotate_left
      · ((intro w hSw; (try dsimp only at hSw); go_simp); (try with_reducible rfl))
      try simp only [Act.put, List.setIfInBounds_toArray, List.set_cons_zero, List.set_cons_succ]
      refine rg_take (n := 8) (v := ?_) 1 (some 39) rfl rfl (by kernel_rfl) (by kernel_rfl) (by kernel_rfl) (fun _ _ _ h => h) (by rfl) hI ?_ ?_
      rotate_left
      · ((intro w hSw; (try dsimp only at hSw); go_simp); (try with_reducible rfl))
      try simp only [Act.put, List.setIfInBounds_toArray, List.set_cons_zero, List.set_cons_succ]
      refine rg_take (n := 7) (v := ?_) 2 (some 40) rfl rfl (by kernel_rfl) (by kernel_rfl) (by kernel_rfl) (fun _ _ _ h => h) (by rfl) hI ?_ ?_
      rotate_left
      · ((intro w hSw; (try dsimp only at hSw); go_simp); (try with_reducible rfl))
      try simp only [Act.put, List.setIfInBounds_toArray, List.set_cons_zero, List.set_cons_succ]
      refine rg_take (n := 6) (v := ?_) 3 (some 41) rfl rfl (by kernel_rfl) (by kernel_rfl) (by kernel_rfl) (fun _ _ _ h => h) (by rfl) hI ?_ ?_
      rotate_left
      · ((intro w hSw; (try dsimp only at hSw); go_simp); (try with_reducible rfl))
      try simp only [Act.put, List.setIfInBounds_toArray, List.set_cons_zero, List.set_cons_succ]
      refine rg_take (n := 5) (v := ?_) 4 (some 42) rfl rfl (by kernel_rfl) (by kernel_rfl) (by kernel_rfl) (fun _ _ _ h => h) (by rfl) hI ?_ ?_
      rotate_left
      · ((intro w hSw; (try dsimp only at hSw); go_simp); (try with_reducible rfl))
      try simp only [Act.put, List.setIfInBounds_toArray, List.set_cons_zero, List.set_cons_succ]
      refine rg_take (n := 4) (v := ?_) 5 (some 43) rfl rfl (by kernel_rfl) (by kernel_rfl) (by kernel_rfl) (fun _ _ _ h => h) (by rfl) hI ?_ ?_
      rotate_left
      · ((intro w hSw; (try dsimp only at hSw); go_simp); (try with_reducible rfl))
      try simp only [Act.put, List.setIfInBounds_toArray, List.set_cons_zero, List.set_cons_succ]
      refine rg_take (n := 3) (v := ?_) 6 (some 44) rfl rfl (by kernel_rfl) (by kernel_rfl) (by kernel_rfl) (fun _ _ _ h => h) (by rfl) hI ?_ ?_
      rotate_left
      · ((intro w hSw; (try dsimp only at hSw); go_simp); (try with_reducible rfl))
      try simp only [Act.put, List.setIfInBounds_toArray, List.set_cons_zero, List.set_cons_succ]
      refine rg_run (n := 2) (v := .int .i64 (m : Int)) (w2 := w5) 7 (some 45) rfl rfl (by kernel_rfl) (by rfl) trivial ?_ ?_
      · (go_simp; (try with_reducible rfl))
      try simp only [Act.put, List.setIfInBounds_toArray, List.set_cons_zero, List.set_cons_succ]
      refine rg_take (n := 1) (v := ?_) 8 (some 46) rfl rfl (by kernel_rfl) (by kernel_rfl) (by kernel_rfl) (fun _ _ _ h => h) (by rfl) hI ?_ ?_
      rotate_left
      · ((intro w hSw; (try dsimp only at hSw); go_simp); (try with_reducible rfl))
      try simp only [Act.put, List.setIfInBounds_toArray, List.set_cons_zero, List.set_cons_succ]
      refine rg_take (n := 0) (v := ?_) 9 (some 8) rfl rfl (by kernel_rfl) (by kernel_rfl) (by kernel_rfl) (fun _ _ _ h => h) (by rfl) hI ?_ ?_
      rotate_left
      · ((intro w hSw; (try dsimp only at hSw); go_simp); (try with_reducible rfl))
      try simp only [Act.put, List.setIfInBounds_toArray, List.set_cons_zero, List.set_cons_succ]
      refine wpAnyH_done (by kernel_rfl) ?_ _
      clear hI
      clear hrun hwr
      go_wp2
      have HR5 : Hid (Rpt w2 w5 45 w.heap.size k Z v (q + m)) := by
        refine ⟨?_, Hold.out.trans h52.out (fun _ _ h => h)⟩
        rw [← rep_splice v q m Z]
        exact h51.out
      clear h51 h52
      go_roundw
      case rel => exact ⟨q + m, by omega, hm3, by go_num, HR5.out⟩
      case measure => simp [intOf]; omega
    · obtain rfl : q = k := by omega
      go_wp2
      go_ret
      refine ⟨w.heap.size, rfl, ?_, ?_⟩
      · have hb := Hr.out.blk
        rw [rep_all HZl.out] at hb
        exact OwN.mk_ (Nat.le_refl _) hb (Nat.le_refl _) (by unfold maxLen; omega) (by rw [trs_len, List.length_replicate]) (by rw [List.take_of_length_le (by rw [trs_len, List.length_replicate]; omega)]) (by rw [trs_len, List.length_replicate])
      · exact ((Hm2.out.mono (G := fun i => i = w.heap.size) (fun _ _ h => h.elim)).trans Hr.out.old (fun _ _ h => h)).mono (fun i hi e => by omega)

end Go.Proofs.Ythbcgbbcoanbdaa
