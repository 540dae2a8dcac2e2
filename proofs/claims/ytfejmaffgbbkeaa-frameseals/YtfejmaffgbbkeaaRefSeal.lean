/-
  The contract of bobbinref02.Seal.
-/
import Derived.Test.YtfejmaffgbbkeaaAwake2
import Derived.Test.YtfejmaffgbbkeaaRefPut
namespace Go.Proofs.Ytfejmaffgbbkeaa
open Go Go.RowKit

def lenOfV : Value → Nat
  | .slice _ n _ => n
  | _ => 0

theorem pw4 : pw 4 = 4294967296 := by decide

set_option maxRecDepth 100000 in
set_option maxHeartbeats 1600000 in
theorem refSeal_any (w : World) (n : Int) (A : Option Addr) (m c : Nat) (xs : List UInt8) (h : Sl w A m c xs) :
    Calls Try.prog 12 #[.int .i64 n, .slice A m c] w fun e w' => ∃ A' k c', e = .returned (.tuple #[.slice A' k c', .int .i64 (sealErr n m)]) ∧ k ≤ 256 ∧ Gives w w' A' k c' (sealBytes n m xs) := by
  by_cases h1 : n < 0 ∨ 4294967295 < n
  · have hb : sealB n m = false := by
      simp only [sealB, Bool.and_eq_false_iff, decide_eq_false_iff_not]
      omega
    have he : sealErr n m = 1 := by rw [sealErr, if_pos h1]
    have hno := Lib.hid (refPut_no w n 4 (.inr (by rw [show (4 : Int).toNat = 4 from rfl, pw4]; omega)))
    rw [he, sealBytes, hb]
    clear h1 hb he
    go_enter Try.func12, Try.ntmps12
    go_wp2_with (go_at_call 19; refine hno.out.mono ?_; rintro e w' ⟨rfl, rfl⟩)
    go_ret2
    exact ⟨none, 0, 0, rfl, by omega, Sl.none_ _ _ _, Mod.refl _ _⟩
  · have hput := Lib.hid (refPut_ok4 w n (by omega) (by rw [pw4]; omega))
    by_cases h2 : 248 < m
    · have hb : sealB n m = false := by
        simp only [sealB, Bool.and_eq_false_iff, decide_eq_false_iff_not]
        omega
      have he : sealErr n m = 2 := by rw [sealErr, if_neg h1, if_pos h2]
      have hm' : (248 : Int) < m := by omega
      rw [he, sealBytes, hb]
      clear h1 hb he h2
      go_enter Try.func12, Try.ntmps12
      go_wp2_with (go_at_call 19; refine hput.out.mono ?_; rintro e w' ⟨Ax, cx, rfl, hf⟩)
      go_ret2
      exact ⟨none, 0, 0, rfl, by omega, Sl.none_ _ _ _, hf.2⟩
    · have hb : sealB n m = true := by
        simp only [sealB, Bool.and_eq_true, decide_eq_true_eq]
        omega
      have he : sealErr n m = 0 := by rw [sealErr, if_neg h1, if_neg h2]
      have hm' : ¬ (248 : Int) < m := by omega
      have hm : m ≤ 248 := by omega
      rw [he, sealBytes, hb]
      have HL := Lib.hid h.len
      clear h1 hb he h2
      go_enter Try.func12, Try.ntmps12
      go_wp2_with fail
      refine hput.out.mono ?_
      rintro e w1 ⟨Ax, cx, rfl, hf⟩
      clear hput
      have hx1 := hf.1
      have hM1 := hf.2
      have h1 : Sl w1 A m c xs := h.mod hM1 (fun _ _ _ => id)
      have hxs := hx1.sl
      have hle : (le 4 n.toNat).length = 4 := le_length 4 _
      generalize hBe : le 4 n.toNat = B at *
      have HBe := Lib.hid hBe
      clear hBe
      have HB := Lib.hid hle
      have hsrc := hxs.src
      have hown0 := OwV.nil w1 w1.heap.size 5
      have hml : 0 + 4 ≤ maxLen := by unfold maxLen; omega
      clear hle hf h
      go_wp2_with (at_builtin; refine wpList_app (.const (.slice none 0 0)) (.tmp 20) byteElem rfl rfl rfl rfl hown0 hsrc (by omega) hml (Nat.le_refl _) ?_)
      intro A2 c2 w2 hown2 hg2 _
      have hown2 : OwV w2 w1.heap.size 5 A2 4 c2 (B.map bv) := by simpa using hown2
      try rw [Nat.zero_add]
      have hm2 : Mod (fun _ => False) w1 w2 := (Mod.refl _ w1).grown hg2 (fun k e _ => by simp [blkOf] at e)
      have h2 : Sl w2 A m c xs := h1.mod hm2 (fun _ _ _ => id)
      have hsrc2 := h2.src
      have hml2 : 4 + m ≤ maxLen := by unfold maxLen; omega
      have hbase2 : w1.heap.size ≤ w2.heap.size := hm2.size
      clear hg2 hown0 hsrc hml
      go_wp2_with (at_builtin; refine wpList_app (.tmp 22) (.tmp 23) byteElem rfl rfl rfl rfl hown2 hsrc2 (by omega) hml2 hbase2 ?_)
      intro A3 c3 w3 hown3 hg3 _
      have hm3 : Mod (fun _ => False) w1 w3 := hm2.grown hg3 (fun k e hk => by have := (hown2.lt k e).1; omega)
      rw [← List.map_append] at hown3
      clear hg3 hown2 hsrc2 hml2 hbase2 h2 hm2
      go_wp2
      go_loopw [8] (fun out wr => ∃ (j : Nat) (A' : Option Addr) (c' : Nat), j ≤ 248 - m ∧ out = .slice A' (4 + m + j) c' ∧ OwV wr w1.heap.size 5 A' (4 + m + j) c' ((B ++ xs ++ zeros j).map bv) ∧ Mod (fun _ => False) w1 wr) (fun out _ => 252 - lenOfV out)
      case atStart => exact ⟨0, A3, c3, by omega, rfl, by simpa [zeros] using hown3, hm3⟩
      case round =>
        obtain ⟨j, A', c', hj, rfl, hown, hmod⟩ := hrel
        by_cases hlt : j < 248 - m
        · have hlt' : 4 + (m : Int) + j < 252 := by omega
          have hown1 : OwV (wr.alloc (.cells #[.int .u8 0] 5)) w1.heap.size 5 A' (4 + m + j) c' ((B ++ xs ++ zeros j).map bv) := hown.alloc _
          have hsrc1 := Src.one wr (.int .u8 0) 5 rfl
          have hml4 : 4 + m + j + 1 ≤ maxLen := by unfold maxLen; omega
          have hsz := hmod.size
          have hbase4 : w1.heap.size ≤ (wr.alloc (.cells #[.int .u8 0] 5)).heap.size := by simp; omega
          go_wp2_with (at_builtin; refine wpList_app (.tmp 28) (.tmp 29) byteElem rfl rfl rfl rfl hown1 hsrc1 (by omega) hml4 hbase4 ?_)
          intro A4 c4 w4 hown4 hg4 _
          have hm4 : Mod (fun _ => False) w1 w4 := (hmod.alloc (.cells #[.int .u8 0] 5)).grown hg4 (fun k e hk => by have := (hown.lt k e).1; omega)
          clear hown1 hsrc1 hown hg4
          go_wp2
          go_roundw
          case rel =>
            refine ⟨j + 1, A4, c4, by omega, rfl, ?_, hm4⟩
            have e : (B ++ xs ++ zeros (j + 1)).map bv = (B ++ xs ++ zeros j).map bv ++ [.int .u8 0] := by
              rw [show zeros (j + 1) = zeros j ++ [0] from List.replicate_succ', ← List.append_assoc, List.map_append]
              rfl
            rw [e]
            simp only [List.map_append, List.append_assoc] at hown4 ⊢
            exact hown4
          case measure => simp [lenOfV]; omega
        · obtain rfl : j = 248 - m := by omega
          rename World => w5
          have e252 : 4 + m + (248 - m) = 252 := by omega
          rw [e252] at hown ⊢
          have hx5 : Sl w5 Ax 4 cx B := hxs.mod hmod (fun _ _ _ => id)
          have hsrc5 := hx5.src
          have hml5 : 252 + 4 ≤ maxLen := by unfold maxLen; omega
          have hbase5 := hmod.size
          go_wp2_with (at_builtin; refine wpList_app (.tmp 31) (.tmp 32) byteElem rfl rfl rfl rfl hown hsrc5 (by omega) hml5 hbase5 ?_)
          intro A6 c6 w6 hown6 hg6 _
          have hm6 : Mod (fun _ => False) w1 w6 := hmod.grown hg6 (fun k e hk => by have := (hown.lt k e).1; omega)
          have hown6' : OwV w6 w1.heap.size 5 A6 256 c6 ((B ++ (xs ++ zeros (248 - m)) ++ B).map bv) := by
            simp only [List.map_append, List.append_assoc] at hown6 ⊢
            exact hown6
          have H6 := Lib.hid hown6'.sl
          clear hown6 hown6' hg6 hsrc5 hown
          go_wp2
          go_ret2
          refine ⟨A6, 256, c6, rfl, Nat.le_refl _, ?_, hM1.trans hm6 (fun _ _ h => h)⟩
          show Sl w6 A6 256 c6 (secOf n xs)
          rw [secOf, HL.out, HBe.out]
          exact H6.out
end Go.Proofs.Ytfejmaffgbbkeaa
