/-
  The chapter's examples (awake); SectNumbers' walk.
-/
import Derived.Test.YtpkgeidenkjnfaaSPack2
import Derived.Test.YtpkgeidenkjnfaaSNum
namespace Go.Proofs.Ytpkgeidenkjnfaa
open Go Go.RowKit

theorem Rs.lit {w : World} {g : Nat} {x : RcD} {t : TypeId} {fr : Nat × Nat} (h : w.heap[g]? = some (.cells x.cells t fr)) (hx : x.At w) : Rs w (some ⟨g, 0, none⟩) 1 1 [x] := by
  refine ⟨rfl, Nat.le_refl _, fun _ => ⟨g, 0, rfl, fun i y hy => ?_⟩, fun y hy => ?_⟩
  · have hi : i = 0 := by have := (List.getElem?_eq_some_iff.1 hy).1; simp at this; exact this
    subst hi
    injection hy with hy
    subst hy
    refine .of fun j u hu => ?_
    rw [cell_of_row w g _ _ _ _ h, Nat.zero_mul, Nat.zero_add]
    exact hu
  · simp at hy; subst hy; exact hx

def exD7 : RcD := ⟨7, fun _ => 0, VlD.none, VlD.none⟩
theorem exE7 : packE 1 2 1 [exD7] = 0 := by kernel_rfl
theorem exR7 : packR 1 2 1 [exD7] = [1, 0, 2, 0, 0, 0, 1, 0, 0, 0, 1, 1, 7] := by kernel_rfl

set_option maxRecDepth 100000 in
set_option maxHeartbeats 2000000 in
theorem awake_ok (w : World) :
    Calls Try.prog 8 #[] w fun e w' => e = .returned (.bool true) ∧ Mod (fun _ => False) w w' := by
  obtain ⟨w1, hw1⟩ : ∃ w1, w.alloc (.cells #[.int .i64 7, .int .i64 0, .int .i64 0, .int .i64 0, .int .i64 0, .int .i64 0, .int .i64 0, .int .i64 0, .int .i64 0, .int .i64 0, .bool false, .slice none 0 0, .bool false, .slice none 0 0] 45) = w1 := ⟨_, rfl⟩
  have hm1 : Mod (fun _ => False) w w1 := by rw [← hw1]; exact (Mod.refl _ w).alloc _
  have hb1 : w1.heap[w.heap.size]? = some (.cells exD7.cells 45 (0, 0)) := by rw [← hw1]; exact heap_alloc_new w _
  have hp := pack_ok w1 ⟨1, 2, 1, some ⟨w.heap.size, 0, none⟩, 1, 1, [exD7]⟩ (Rs.lit hb1 ⟨VlD.none_at w1, VlD.none_at w1⟩) (by show 1 ≤ 200; omega)
  simp only at hp
  rw [exE7, exR7] at hp
  have Hp : Hid (Calls Try.prog 10 #[.agg #[.int .i64 1, .int .i64 2, .int .i64 1, .slice (some ⟨w.heap.size, 0, none⟩) 1 1]] w1 (PackAns w1 0 [1, 0, 2, 0, 0, 0, 1, 0, 0, 0, 1, 1, 7])) := hp
  have Hm1 := Lib.hid hm1
  have Hw1 := Lib.hid hw1
  clear hp hm1 hb1 hw1
  go_enter Try.func8, Try.ntmps8
  go_wp2_with fail
  rw [Hw1.out]
  clear Hw1
  refine Hp.out.mono ?_
  rintro e w2 ⟨⟨A, m, c, rfl, ho⟩, hm2⟩
  have hs := ho.sl
  obtain rfl : m = 13 := hs.len.symm
  have Hm2 := Lib.hid (Hm1.out.trans hm2 (fun _ _ h => h))
  obtain ⟨w3, hw3⟩ : ∃ w3, w2.alloc (.cells #[.int .u8 1, .int .u8 0, .int .u8 2, .int .u8 0, .int .u8 0, .int .u8 0, .int .u8 1, .int .u8 0, .int .u8 0, .int .u8 0, .int .u8 1, .int .u8 1, .int .u8 7] 5) = w3 := ⟨_, rfl⟩
  have hl3 : w3.heap[w2.heap.size]? = some (.cells (([1, 0, 2, 0, 0, 0, 1, 0, 0, 0, 1, 1, 7] : List UInt8).map bv).toArray 5 (0, 0)) := by rw [← hw3]; exact heap_alloc_new w2 _
  have hm3 : Mod (fun _ => False) w2 w3 := by rw [← hw3]; exact (Mod.refl _ w2).alloc _
  have Hsame := Lib.hid (same_ok w3 _ _ _ _ _ _ _ _ (hs.mod hm3 (fun _ _ _ => id)) (Sl.of_block hl3) (by omega) (by simp))
  have Hm3 := Lib.hid (Hm2.out.trans hm3 (fun _ _ h => h))
  have Hw3 := Lib.hid hw3
  clear hs ho hm2 hl3 hm3 hw3 Hp Hm1 Hm2
  simp only [List.length_cons, List.length_nil, Nat.reduceAdd] at Hsame
  go_wp2_with fail
  rw [Hw3.out]
  clear Hw3
  refine Hsame.out.mono ?_
  rintro e w4 ⟨rfl, p, rfl⟩
  rw [eqB_self]
  have Hm4 := Lib.hid (Hm3.out.drewN p)
  clear Hsame Hm3
  generalize w3.drewN p = w5 at *
  have H1 : Hid (Calls Try.prog 15 #[.int .i64 3, .int .i64 2] w5 fun e w' => e = .returned (.int .i64 770) ∧ w5 = w') := lsn_ok w5 3 2
  have H2 : Hid (Calls Try.prog 17 #[.int .i64 770] w5 fun e w' => e = .returned (.int .i64 3) ∧ w5 = w') := seq_ok w5 770
  have H3 : Hid (Calls Try.prog 19 #[.int .i64 770] w5 fun e w' => e = .returned (.int .i64 2) ∧ w5 = w') := idx_ok w5 770
  go_wp2_with fail
  refine H1.out.mono ?_
  rintro e w6 ⟨rfl, rfl⟩
  go_wp2_with fail
  refine H2.out.mono ?_
  rintro e w6 ⟨rfl, rfl⟩
  go_wp2_with fail
  refine H3.out.mono ?_
  rintro e w6 ⟨rfl, rfl⟩
  go_wp2
  go_ret
  exact ⟨rfl, Hm4.out⟩

set_option maxRecDepth 100000 in
set_option maxHeartbeats 2000000 in
theorem numbers_walk (W : World) (s i n : Int) :
    Calls Try.prog 4 #[.int .i64 s, .int .i64 i, .int .i64 n] W fun e w' => e = .returned (.bool true) ∧ Below W.heap.size W w' := by
  have Hw := Lib.hid (awake_ok W)
  go_enter Try.func4, Try.ntmps4
  go_wp2_with fail
  refine Hw.out.mono ?_
  rintro e w1 ⟨rfl, hm1⟩
  have Hm1 := Lib.hid hm1
  have H1 := Lib.hid (lsn_ok w1 s i)
  have H2 := Lib.hid (rlsn_ok w1 s i)
  have H3 := Lib.hid (seq_ok w1 n)
  have H4 := Lib.hid (rseq_ok w1 n)
  have H5 := Lib.hid (idx_ok w1 n)
  have H6 := Lib.hid (ridx_ok w1 n)
  clear hm1 Hw
  generalize lsnV s i = a at *
  generalize seqV n = b at *
  generalize idxV n = c at *
  go_wp2_with fail
  refine H1.out.mono ?_
  rintro e w6 ⟨rfl, rfl⟩
  go_wp2_with fail
  refine H2.out.mono ?_
  rintro e w6 ⟨rfl, rfl⟩
  go_wp2_with fail
  refine H3.out.mono ?_
  rintro e w6 ⟨rfl, rfl⟩
  go_wp2_with fail
  refine H4.out.mono ?_
  rintro e w6 ⟨rfl, rfl⟩
  go_wp2_with fail
  refine H5.out.mono ?_
  rintro e w6 ⟨rfl, rfl⟩
  go_wp2_with fail
  refine H6.out.mono ?_
  rintro e w6 ⟨rfl, rfl⟩
  go_wp2
  go_ret
  exact ⟨rfl, Hm1.out.end_⟩
end Go.Proofs.Ytpkgeidenkjnfaa
