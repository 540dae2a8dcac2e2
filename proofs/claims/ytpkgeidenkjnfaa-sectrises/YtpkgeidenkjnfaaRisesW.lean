/-
  SectRises' walk.
-/
import Derived.Test.YtpkgeidenkjnfaaAwake7
namespace Go.Proofs.Ytpkgeidenkjnfaa
open Go Go.RowKit

theorem lsn_num {a i : Int} (a0 : 0 ≤ a) (a1 : a ≤ 16777215) (i0 : 0 ≤ i) (i1 : i ≤ 255) : lsnV a i = 256 * a + i := by
  unfold lsnV
  rw [inB_iff.2 ⟨a0, a1⟩, inB_iff.2 ⟨i0, i1⟩]
  rfl
theorem seq_num {a i : Int} (a0 : 0 ≤ a) (a1 : a ≤ 16777215) (i0 : 0 ≤ i) (i1 : i ≤ 255) : seqV (256 * a + i) = a := by
  unfold seqV
  rw [inB_iff.2 ⟨by omega, by omega⟩, if_pos rfl]
  omega
theorem idx_num {a i : Int} (a0 : 0 ≤ a) (a1 : a ≤ 16777215) (i0 : 0 ≤ i) (i1 : i ≤ 255) : idxV (256 * a + i) = i := by
  unfold idxV
  rw [inB_iff.2 ⟨by omega, by omega⟩, if_pos rfl]
  omega

set_option maxRecDepth 100000 in
set_option maxHeartbeats 4000000 in
theorem rises_walk (W : World) (a i b k : Int) :
    Calls Try.prog 6 #[.int .i64 a, .int .i64 i, .int .i64 b, .int .i64 k] W fun e w' => e = .returned (.bool true) ∧ Below W.heap.size W w' := by
  have Hw := Lib.hid (awake_ok W)
  go_enter Try.func6, Try.ntmps6
  go_wp2_with fail
  refine Hw.out.mono ?_
  rintro e w1 ⟨rfl, hm1⟩
  have Hm1 := Lib.hid hm1
  clear hm1 Hw
  by_cases h0 : a < 0
  · go_wp2
    go_ret
    exact ⟨rfl, Hm1.out.end_⟩
  by_cases h1 : b < 0
  · go_wp2
    go_ret
    exact ⟨rfl, Hm1.out.end_⟩
  by_cases h2 : 16777215 < a
  · go_wp2
    go_ret
    exact ⟨rfl, Hm1.out.end_⟩
  by_cases h3 : 16777215 < b
  · go_wp2
    go_ret
    exact ⟨rfl, Hm1.out.end_⟩
  by_cases h4 : i < 0
  · go_wp2
    go_ret
    exact ⟨rfl, Hm1.out.end_⟩
  by_cases h5 : k < 0
  · go_wp2
    go_ret
    exact ⟨rfl, Hm1.out.end_⟩
  by_cases h6 : 255 < i
  · go_wp2
    go_ret
    exact ⟨rfl, Hm1.out.end_⟩
  by_cases h7 : 255 < k
  · go_wp2
    go_ret
    exact ⟨rfl, Hm1.out.end_⟩
  have a0 : 0 ≤ a := by omega
  have a1 : a ≤ 16777215 := by omega
  have b0 : 0 ≤ b := by omega
  have b1 : b ≤ 16777215 := by omega
  have i0 : 0 ≤ i := by omega
  have i1 : i ≤ 255 := by omega
  have k0 : 0 ≤ k := by omega
  have k1 : k ≤ 255 := by omega
  have H1 := Lib.hid (lsn_ok w1 a i)
  have H2 := Lib.hid (lsn_ok w1 b k)
  have H3 := Lib.hid (seq_ok w1 (256 * a + i))
  have H4 := Lib.hid (idx_ok w1 (256 * a + i))
  rw [lsn_num a0 a1 i0 i1] at H1
  rw [lsn_num b0 b1 k0 k1] at H2
  rw [seq_num a0 a1 i0 i1] at H3
  rw [idx_num a0 a1 i0 i1] at H4
  obtain ⟨x, hx⟩ : ∃ x, 256 * a + i = x := ⟨_, rfl⟩
  obtain ⟨y, hy⟩ : ∃ y, 256 * b + k = y := ⟨_, rfl⟩
  rw [hx] at H1 H3 H4
  rw [hy] at H2
  have x0 : 0 ≤ x := by omega
  have x1 : x ≤ 4294967295 := by omega
  have Hxy : Hid (x < y ↔ (a < b ∨ a = b ∧ i < k)) := by show _ ↔ _; omega
  clear hx hy
  go_wp2_with fail
  refine H1.out.mono ?_
  rintro e w6 ⟨rfl, rfl⟩
  clear h0 h1 h2 h3 h4 h5 h6 h7 H1
  go_wp2_with fail
  refine H2.out.mono ?_
  rintro e w6 ⟨rfl, rfl⟩
  clear H2
  by_cases hab : a < b
  · have hxy : x < y := Hxy.out.2 (.inl hab)
    clear Hxy
    go_wp2_with fail
    refine H3.out.mono ?_
    rintro e w6 ⟨rfl, rfl⟩
    go_wp2_with fail
    refine H4.out.mono ?_
    rintro e w6 ⟨rfl, rfl⟩
    clear H3 H4
    go_wp2
    go_ret
    exact ⟨rfl, Hm1.out.end_⟩
  by_cases heq : a = b
  · by_cases hik : i < k
    · have hxy : x < y := Hxy.out.2 (.inr ⟨heq, hik⟩)
      have hbe : (a == b) = true := by simpa using heq
      clear heq
      clear Hxy
      go_wp2_with fail
      refine H3.out.mono ?_
      rintro e w6 ⟨rfl, rfl⟩
      go_wp2_with fail
      refine H4.out.mono ?_
      rintro e w6 ⟨rfl, rfl⟩
      clear H3 H4
      go_wp2
      go_ret
      exact ⟨rfl, Hm1.out.end_⟩
    · have hxy : decide (x < y) = false := decide_eq_false (fun h => (by have := Hxy.out.1 h; omega))
      have hbe : (a == b) = true := by simpa using heq
      have hd1 : decide (a < b) = false := by simpa using hab
      have hd2 : decide (i < k) = false := by simpa using hik
      clear heq hab hik
      clear Hxy
      go_wp2_with fail
      refine H3.out.mono ?_
      rintro e w6 ⟨rfl, rfl⟩
      go_wp2_with fail
      refine H4.out.mono ?_
      rintro e w6 ⟨rfl, rfl⟩
      clear H3 H4
      go_wp2
      go_ret
      exact ⟨rfl, Hm1.out.end_⟩
  · have hxy : ¬ x < y := fun h => (by have := Hxy.out.1 h; omega)
    have hbe : (a == b) = false := by simpa using heq
    clear heq
    clear Hxy
    go_wp2_with fail
    refine H3.out.mono ?_
    rintro e w6 ⟨rfl, rfl⟩
    go_wp2_with fail
    refine H4.out.mono ?_
    rintro e w6 ⟨rfl, rfl⟩
    clear H3 H4
    go_wp2
    go_ret
    exact ⟨rfl, Hm1.out.end_⟩
end Go.Proofs.Ytpkgeidenkjnfaa
