/-
  sect.LSN, Seq, Index, and the document's.
-/
import Derived.Test.YtpkgeidenkjnfaaSPack
namespace Go.Proofs.Ytpkgeidenkjnfaa
open Go Go.RowKit

def lsnV (s i : Int) : Int := if inB s 16777215 && inB i 255 then 256 * s + i else 0
def seqV (n : Int) : Int := if inB n 4294967295 then n / 256 else 0
def idxV (n : Int) : Int := if inB n 4294967295 then n % 256 else 0
theorem inB_iff {n m : Int} : inB n m = true ↔ 0 ≤ n ∧ n ≤ m := by simp [inB]
theorem inB_not {n m : Int} (h : inB n m = false) : n < 0 ∨ m < n := by
  rcases Int.lt_or_le n 0 with h0 | h0
  · exact .inl h0
  rcases Int.lt_or_le m n with h1 | h1
  · exact .inr h1
  · rw [inB_iff.2 ⟨h0, h1⟩] at h; cases h

set_option maxRecDepth 100000 in
theorem lsn_ok (w : World) (s i : Int) :
    Calls Try.prog 15 #[.int .i64 s, .int .i64 i] w fun e w' => e = .returned (.int .i64 (lsnV s i)) ∧ w = w' := by
  have H1 := Lib.hid (within_ok w s 16777215)
  have H2 := Lib.hid (within_ok w i 255)
  cases h1 : inB s 16777215 with
  | false =>
    have Hr : Hid (lsnV s i = 0) := by show _ = _; unfold lsnV; rw [h1]; rfl
    rw [h1] at H1
    clear h1
    go_enter Try.func15, Try.ntmps15
    go_wp2_with fail
    refine H1.out.mono ?_
    rintro e w2 ⟨rfl, rfl⟩
    clear H1 H2
    go_wp2
    go_ret
    exact ⟨by rw [Hr.out]; rfl, rfl⟩
  | true =>
    rw [h1] at H1
    cases h2 : inB i 255 with
    | false =>
      have Hr : Hid (lsnV s i = 0) := by show _ = _; unfold lsnV; rw [h1, h2]; rfl
      rw [h2] at H2
      clear h1 h2
      go_enter Try.func15, Try.ntmps15
      go_wp2_with fail
      refine H1.out.mono ?_
      rintro e w2 ⟨rfl, rfl⟩
      go_wp2_with fail
      refine H2.out.mono ?_
      rintro e w2 ⟨rfl, rfl⟩
      clear H1 H2
      go_wp2
      go_ret
      exact ⟨by rw [Hr.out]; rfl, rfl⟩
    | true =>
      have Hr : Hid (lsnV s i = 256 * s + i) := by show _ = _; unfold lsnV; rw [h1, h2]; rfl
      rw [h2] at H2
      obtain ⟨a0, a1⟩ := inB_iff.1 h1
      obtain ⟨b0, b1⟩ := inB_iff.1 h2
      clear h1 h2
      go_enter Try.func15, Try.ntmps15
      go_wp2_with fail
      refine H1.out.mono ?_
      rintro e w2 ⟨rfl, rfl⟩
      go_wp2_with fail
      refine H2.out.mono ?_
      rintro e w2 ⟨rfl, rfl⟩
      clear H1 H2
      go_wp2
      go_ret
      exact ⟨by rw [Hr.out]; rfl, rfl⟩

set_option maxRecDepth 100000 in
theorem seq_ok (w : World) (n : Int) :
    Calls Try.prog 17 #[.int .i64 n] w fun e w' => e = .returned (.int .i64 (seqV n)) ∧ w = w' := by
  have H1 := Lib.hid (within_ok w n 4294967295)
  cases h1 : inB n 4294967295 with
  | false =>
    have Hr : Hid (seqV n = 0) := by show _ = _; unfold seqV; rw [h1]; rfl
    rw [h1] at H1
    clear h1
    go_enter Try.func17, Try.ntmps17
    go_wp2_with fail
    refine H1.out.mono ?_
    rintro e w2 ⟨rfl, rfl⟩
    clear H1
    go_wp2
    go_ret
    exact ⟨by rw [Hr.out]; rfl, rfl⟩
  | true =>
    have Hr : Hid (seqV n = n / 256) := by show _ = _; unfold seqV; rw [h1]; rfl
    rw [h1] at H1
    obtain ⟨a0, a1⟩ := inB_iff.1 h1
    clear h1
    go_enter Try.func17, Try.ntmps17
    go_wp2_with fail
    refine H1.out.mono ?_
    rintro e w2 ⟨rfl, rfl⟩
    clear H1
    go_wp2
    go_ret
    exact ⟨by rw [Hr.out]; rfl, rfl⟩

set_option maxRecDepth 100000 in
theorem rseq_ok (w : World) (n : Int) :
    Calls Try.prog 18 #[.int .i64 n] w fun e w' => e = .returned (.int .i64 (seqV n)) ∧ w = w' := by
  by_cases h0 : n < 0
  · have Hr : Hid (seqV n = 0) := by show _ = _; unfold seqV; rw [show inB n 4294967295 = false by simp [inB]; omega]; rfl
    go_enter Try.func18, Try.ntmps18
    go_wp2
    go_ret
    exact ⟨by rw [Hr.out]; rfl, rfl⟩
  by_cases h1 : 4294967295 < n
  · have Hr : Hid (seqV n = 0) := by show _ = _; unfold seqV; rw [show inB n 4294967295 = false by simp [inB]; omega]; rfl
    go_enter Try.func18, Try.ntmps18
    go_wp2
    go_ret
    exact ⟨by rw [Hr.out]; rfl, rfl⟩
  · have Hr : Hid (seqV n = n / 256) := by show _ = _; unfold seqV; rw [show inB n 4294967295 = true by simp [inB]; omega]; rfl
    have h2 : 0 ≤ n := by omega
    have h3 : n ≤ 4294967295 := by omega
    clear h0 h1
    go_enter Try.func18, Try.ntmps18
    go_wp2
    go_ret
    exact ⟨by rw [Hr.out]; rfl, rfl⟩
set_option maxRecDepth 100000 in
theorem idx_ok (w : World) (n : Int) :
    Calls Try.prog 19 #[.int .i64 n] w fun e w' => e = .returned (.int .i64 (idxV n)) ∧ w = w' := by
  have H1 := Lib.hid (within_ok w n 4294967295)
  cases h1 : inB n 4294967295 with
  | false =>
    have Hr : Hid (idxV n = 0) := by show _ = _; unfold idxV; rw [h1]; rfl
    rw [h1] at H1
    clear h1
    go_enter Try.func19, Try.ntmps19
    go_wp2_with fail
    refine H1.out.mono ?_
    rintro e w2 ⟨rfl, rfl⟩
    clear H1
    go_wp2
    go_ret
    exact ⟨by rw [Hr.out]; rfl, rfl⟩
  | true =>
    have Hr : Hid (idxV n = n % 256) := by show _ = _; unfold idxV; rw [h1]; rfl
    rw [h1] at H1
    obtain ⟨a0, a1⟩ := inB_iff.1 h1
    clear h1
    go_enter Try.func19, Try.ntmps19
    go_wp2_with fail
    refine H1.out.mono ?_
    rintro e w2 ⟨rfl, rfl⟩
    clear H1
    go_wp2
    go_ret
    exact ⟨by rw [Hr.out]; rfl, rfl⟩

set_option maxRecDepth 100000 in
theorem ridx_ok (w : World) (n : Int) :
    Calls Try.prog 20 #[.int .i64 n] w fun e w' => e = .returned (.int .i64 (idxV n)) ∧ w = w' := by
  by_cases h0 : n < 0
  · have Hr : Hid (idxV n = 0) := by show _ = _; unfold idxV; rw [show inB n 4294967295 = false by simp [inB]; omega]; rfl
    go_enter Try.func20, Try.ntmps20
    go_wp2
    go_ret
    exact ⟨by rw [Hr.out]; rfl, rfl⟩
  by_cases h1 : 4294967295 < n
  · have Hr : Hid (idxV n = 0) := by show _ = _; unfold idxV; rw [show inB n 4294967295 = false by simp [inB]; omega]; rfl
    go_enter Try.func20, Try.ntmps20
    go_wp2
    go_ret
    exact ⟨by rw [Hr.out]; rfl, rfl⟩
  · have Hr : Hid (idxV n = n % 256) := by show _ = _; unfold idxV; rw [show inB n 4294967295 = true by simp [inB]; omega]; rfl
    have h2 : 0 ≤ n := by omega
    have h3 : n ≤ 4294967295 := by omega
    clear h0 h1
    go_enter Try.func20, Try.ntmps20
    go_wp2
    go_ret
    exact ⟨by rw [Hr.out]; rfl, rfl⟩

set_option maxRecDepth 100000 in
theorem rlsn_ok (w : World) (s i : Int) :
    Calls Try.prog 16 #[.int .i64 s, .int .i64 i] w fun e w' => e = .returned (.int .i64 (lsnV s i)) ∧ w = w' := by
  by_cases h0 : s < 0
  · have Hr : Hid (lsnV s i = 0) := by show _ = _; unfold lsnV; rw [show inB s 16777215 = false by simp [inB]; omega]; rfl
    go_enter Try.func16, Try.ntmps16
    go_wp2
    go_ret
    exact ⟨by rw [Hr.out]; rfl, rfl⟩
  by_cases h1 : 16777215 < s
  · have Hr : Hid (lsnV s i = 0) := by show _ = _; unfold lsnV; rw [show inB s 16777215 = false by simp [inB]; omega]; rfl
    go_enter Try.func16, Try.ntmps16
    go_wp2
    go_ret
    exact ⟨by rw [Hr.out]; rfl, rfl⟩
  by_cases h2 : i < 0
  · have Hr : Hid (lsnV s i = 0) := by show _ = _; unfold lsnV; rw [show inB i 255 = false by simp [inB]; omega, Bool.and_false]; rfl
    go_enter Try.func16, Try.ntmps16
    go_wp2
    go_ret
    exact ⟨by rw [Hr.out]; rfl, rfl⟩
  by_cases h3 : 255 < i
  · have Hr : Hid (lsnV s i = 0) := by show _ = _; unfold lsnV; rw [show inB i 255 = false by simp [inB]; omega, Bool.and_false]; rfl
    go_enter Try.func16, Try.ntmps16
    go_wp2
    go_ret
    exact ⟨by rw [Hr.out]; rfl, rfl⟩
  · have Hr : Hid (lsnV s i = 256 * s + i) := by show _ = _; unfold lsnV; rw [show inB i 255 = true by simp [inB]; omega, show inB s 16777215 = true by simp [inB]; omega]; rfl
    have k0 : 0 ≤ s := by omega
    have k1 : s ≤ 16777215 := by omega
    have k2 : 0 ≤ i := by omega
    have k3 : i ≤ 255 := by omega
    clear h0 h1 h2 h3
    go_enter Try.func16, Try.ntmps16
    go_wp2
    go_ret
    exact ⟨by rw [Hr.out, Int.mul_comm]; rfl, rfl⟩
end Go.Proofs.Ytpkgeidenkjnfaa
