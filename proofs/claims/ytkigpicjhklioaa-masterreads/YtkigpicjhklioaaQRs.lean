/-
  The contract of bobbinref02.Seal.
  The contract of bobbinref09.Sector.
-/
import Derived.Test.YtkigpicjhklioaaQR
import Derived.Test.YtkigpicjhklioaaQB
import Derived.Test.YtkigpicjhklioaaQMs
namespace Go.Proofs.Ytkigpicjhklioaa
open Go Go.RowKit

def sealB (n : Int) (m : Nat) : Bool := decide (0 ≤ n) && decide (n ≤ 4294967295) && decide (m ≤ 248)
def sealBytes (n : Int) (m : Nat) (xs : List UInt8) : List UInt8 := if sealB n m then secOf n xs else []
def sealErr (n : Int) (m : Nat) : Int := if n < 0 ∨ 4294967295 < n then 1 else if 248 < m then 2 else 0

def lenOfV : Value → Nat
  | .slice _ n _ => n
  | _ => 0

theorem pw4 : pw 4 = 4294967296 := by decide

set_option maxRecDepth 100000 in
set_option maxHeartbeats 1600000 in
theorem refSeal_any (w : World) (n : Int) (A : Option Addr) (m c : Nat) (xs : List UInt8) (h : Sl w A m c xs) :
    Calls Try.prog 37 #[.int .i64 n, .slice A m c] w fun e w' => ∃ A' k c', e = .returned (.tuple #[.slice A' k c', .int .i64 (sealErr n m)]) ∧ k ≤ 256 ∧ Gives w w' A' k c' (sealBytes n m xs) := by
  by_cases h1 : n < 0 ∨ 4294967295 < n
  · have hb : sealB n m = false := by
      simp only [sealB, Bool.and_eq_false_iff, decide_eq_false_iff_not]
      omega
    have he : sealErr n m = 1 := by rw [sealErr, if_pos h1]
    have hno := Lib.hid (refPut_no w n 4 (.inr (by rw [show (4 : Int).toNat = 4 from rfl, pw4]; omega)))
    rw [he, sealBytes, hb]
    clear h1 hb he
    go_enter Try.func37, Try.ntmps37
    go_wp2_with (go_at_call 36; refine hno.out.mono ?_; rintro e w' ⟨rfl, rfl⟩)
    go_ret2
    exact ⟨none, 0, 0, rfl, by omega, Sl.none_ _ _ _, Mod.refl _ _⟩
  · have hput := Lib.hid (refPut_ok4 w n (by omega) (by rw [pw4]; omega))
    by_cases h2 : 248 < m
    · have hb : sealB n m = false := by
        simp only [sealB, Bool.and_eq_false_iff, decide_eq_false_iff_not]
        omega
      have he : sealErr n m = 2 := by rw [sealErr, if_neg h1, if_pos h2]
      have hm' : (248 : Int) < m := by omega
      rw [he, sealBytes, hb]
      clear h1 hb he h2
      go_enter Try.func37, Try.ntmps37
      go_wp2_with (go_at_call 36; refine hput.out.mono ?_; rintro e w' ⟨Ax, cx, rfl, hf⟩)
      go_ret2
      exact ⟨none, 0, 0, rfl, by omega, Sl.none_ _ _ _, hf.2⟩
    · have hb : sealB n m = true := by
        simp only [sealB, Bool.and_eq_true, decide_eq_true_eq]
        omega
      have he : sealErr n m = 0 := by rw [sealErr, if_neg h1, if_neg h2]
      have hm' : ¬ (248 : Int) < m := by omega
      have hm : m ≤ 248 := by omega
      rw [he, sealBytes, hb]
      have HL := Lib.hid h.len
      clear h1 hb he h2
      go_enter Try.func37, Try.ntmps37
      go_wp2_with fail
      refine hput.out.mono ?_
      rintro e w1 ⟨Ax, cx, rfl, hf⟩
      clear hput
      have hx1 := hf.1
      have hM1 := hf.2
      have h1 : Sl w1 A m c xs := h.mod hM1 (fun _ _ _ => id)
      have hxs := hx1.sl
      have hle : (le 4 n.toNat).length = 4 := le_length 4 _
      generalize hBe : le 4 n.toNat = B at *
      have HBe := Lib.hid hBe
      clear hBe
      have HB := Lib.hid hle
      have hsrc := hxs.src
      have hown0 := OwV.nil w1 w1.heap.size 5
      have hml : 0 + 4 ≤ maxLen := by unfold maxLen; omega
      clear hle hf h
      go_wp2_with (at_builtin; refine wpList_app (.const (.slice none 0 0)) (.tmp 20) byteElem rfl rfl rfl rfl hown0 hsrc (by omega) hml (Nat.le_refl _) ?_)
      intro A2 c2 w2 hown2 hg2 _
      have hown2 : OwV w2 w1.heap.size 5 A2 4 c2 (B.map bv) := by simpa using hown2
      try rw [Nat.zero_add]
      have hm2 : Mod (fun _ => False) w1 w2 := (Mod.refl _ w1).grown hg2 (fun k e _ => by simp [blkOf] at e)
      have h2 : Sl w2 A m c xs := h1.mod hm2 (fun _ _ _ => id)
      have hsrc2 := h2.src
      have hml2 : 4 + m ≤ maxLen := by unfold maxLen; omega
      have hbase2 : w1.heap.size ≤ w2.heap.size := hm2.size
      clear hg2 hown0 hsrc hml
      go_wp2_with (at_builtin; refine wpList_app (.tmp 22) (.tmp 23) byteElem rfl rfl rfl rfl hown2 hsrc2 (by omega) hml2 hbase2 ?_)
      intro A3 c3 w3 hown3 hg3 _
      have hm3 : Mod (fun _ => False) w1 w3 := hm2.grown hg3 (fun k e hk => by have := (hown2.lt k e).1; omega)
      rw [← List.map_append] at hown3
      clear hg3 hown2 hsrc2 hml2 hbase2 h2 hm2
      go_wp2
      go_loopw [8] (fun out wr => ∃ (j : Nat) (A' : Option Addr) (c' : Nat), j ≤ 248 - m ∧ out = .slice A' (4 + m + j) c' ∧ OwV wr w1.heap.size 5 A' (4 + m + j) c' ((B ++ xs ++ zeros j).map bv) ∧ Mod (fun _ => False) w1 wr) (fun out _ => 252 - lenOfV out)
      case atStart => exact ⟨0, A3, c3, by omega, rfl, by simpa [zeros] using hown3, hm3⟩
      case round =>
        obtain ⟨j, A', c', hj, rfl, hown, hmod⟩ := hrel
        by_cases hlt : j < 248 - m
        · have hlt' : 4 + (m : Int) + j < 252 := by omega
          have hown1 : OwV (wr.alloc (.cells #[.int .u8 0] 5)) w1.heap.size 5 A' (4 + m + j) c' ((B ++ xs ++ zeros j).map bv) := hown.alloc _
          have hsrc1 := Src.one wr (.int .u8 0) 5 rfl
          have hml4 : 4 + m + j + 1 ≤ maxLen := by unfold maxLen; omega
          have hsz := hmod.size
          have hbase4 : w1.heap.size ≤ (wr.alloc (.cells #[.int .u8 0] 5)).heap.size := by simp; omega
          go_wp2_with (at_builtin; refine wpList_app (.tmp 28) (.tmp 29) byteElem rfl rfl rfl rfl hown1 hsrc1 (by omega) hml4 hbase4 ?_)
          intro A4 c4 w4 hown4 hg4 _
          have hm4 : Mod (fun _ => False) w1 w4 := (hmod.alloc (.cells #[.int .u8 0] 5)).grown hg4 (fun k e hk => by have := (hown.lt k e).1; omega)
          clear hown1 hsrc1 hown hg4
          go_wp2
          go_roundw
          case rel =>
            refine ⟨j + 1, A4, c4, by omega, rfl, ?_, hm4⟩
            have e : (B ++ xs ++ zeros (j + 1)).map bv = (B ++ xs ++ zeros j).map bv ++ [.int .u8 0] := by
              rw [show zeros (j + 1) = zeros j ++ [0] from List.replicate_succ', ← List.append_assoc, List.map_append]
              rfl
            rw [e]
            simp only [List.map_append, List.append_assoc] at hown4 ⊢
            exact hown4
          case measure => simp [lenOfV]; omega
        · obtain rfl : j = 248 - m := by omega
          rename World => w5
          have e252 : 4 + m + (248 - m) = 252 := by omega
          rw [e252] at hown ⊢
          have hx5 : Sl w5 Ax 4 cx B := hxs.mod hmod (fun _ _ _ => id)
          have hsrc5 := hx5.src
          have hml5 : 252 + 4 ≤ maxLen := by unfold maxLen; omega
          have hbase5 := hmod.size
          go_wp2_with (at_builtin; refine wpList_app (.tmp 31) (.tmp 32) byteElem rfl rfl rfl rfl hown hsrc5 (by omega) hml5 hbase5 ?_)
          intro A6 c6 w6 hown6 hg6 _
          have hm6 : Mod (fun _ => False) w1 w6 := hmod.grown hg6 (fun k e hk => by have := (hown.lt k e).1; omega)
          have hown6' : OwV w6 w1.heap.size 5 A6 256 c6 ((B ++ (xs ++ zeros (248 - m)) ++ B).map bv) := by
            simp only [List.map_append, List.append_assoc] at hown6 ⊢
            exact hown6
          have H6 := Lib.hid hown6'.sl
          clear hown6 hown6' hg6 hsrc5 hown
          go_wp2
          go_ret2
          refine ⟨A6, 256, c6, rfl, Nat.le_refl _, ?_, hM1.trans hm6 (fun _ _ h => h)⟩
          show Sl w6 A6 256 c6 (secOf n xs)
          rw [secOf, HL.out, HBe.out]
          exact H6.out
end Go.Proofs.Ytkigpicjhklioaa

namespace Go.Proofs.Ytkigpicjhklioaa
open Go Go.RowKit

def numL (m : Ms) : Nat → Int
  | 0 => m.no
  | 1 => m.ep
  | 2 => m.st
  | _ => m.ck
def numsB (m : Ms) : Nat → List UInt8
  | 0 => []
  | j + 1 => numsB m j ++ le 4 (numL m j).toNat
theorem numsB_4 (m : Ms) : numsB m 4 = payl m := by simp [numsB, payl, numL]
theorem numL_bd {m : Ms} (h : m.May) (j : Nat) : 0 ≤ numL m j ∧ numL m j < pw 4 := by
  obtain ⟨n1, n2, e1, e2, s1, s2, k1, k2⟩ := h
  rw [pw4]
  match j with
  | 0 => show 0 ≤ m.no ∧ m.no < _; omega
  | 1 => show 0 ≤ m.ep ∧ m.ep < _; omega
  | 2 => show 0 ≤ m.st ∧ m.st < _; omega
  | _ + 3 => show 0 ≤ m.ck ∧ m.ck < _; omega

set_option maxRecDepth 100000 in
set_option maxHeartbeats 1600000 in
theorem refSector_ok (w : World) (m : Ms) (hm : m.May) :
    Calls Try.prog 18 #[.agg #[.int .i64 m.no, .int .i64 m.ep, .int .i64 m.st, .int .i64 m.ck]] w fun e w' => ∃ A c, e = .returned (.slice A 256 c) ∧ Gives w w' A 256 c (secM m) := by
  obtain ⟨w3, hw3⟩ : ∃ w3, w3 = (w.alloc (.cells #[.int .i64 m.no, .int .i64 m.ep, .int .i64 m.st, .int .i64 m.ck] 23)).alloc (.cells #[.int .i64 m.no, .int .i64 m.ep, .int .i64 m.st, .int .i64 m.ck] 3) := ⟨_, rfl⟩
  have hM3 : Mod (fun _ => False) w w3 := by rw [hw3]; exact ((Mod.refl _ w).alloc _).alloc _
  have hs3 : w3.heap.size = w.heap.size + 2 := by rw [hw3]; simp only [World.size_alloc]
  have hb0 : w3.heap[w.heap.size]? = some (.cells #[.int .i64 m.no, .int .i64 m.ep, .int .i64 m.st, .int .i64 m.ck] 23 (0, 0)) := by
    rw [hw3, Below.heap_alloc _ _ _ (by simp only [World.size_alloc]; omega)]
    exact heap_alloc_new w _
  have hb1 : w3.heap[w.heap.size + 1]? = some (.cells #[.int .i64 m.no, .int .i64 m.ep, .int .i64 m.st, .int .i64 m.ck] 3 (0, 0)) := by
    have := heap_alloc_new (w.alloc (.cells #[.int .i64 m.no, .int .i64 m.ep, .int .i64 m.st, .int .i64 m.ck] 23)) (.cells #[.int .i64 m.no, .int .i64 m.ep, .int .i64 m.st, .int .i64 m.ck] 3)
    rw [hw3]
    simpa using this
  have Hbd := Lib.hid (numL_bd hm)
  have HM3 := Lib.hid hM3
  have Hmm : Hid (0 ≤ m.no ∧ m.no ≤ 4294967295) := ⟨by have := hm.n1; omega, hm.n2⟩
  have Hw3 := Lib.hid hw3
  have Hc : Hid (∀ W, Mod (fun _ => False) w3 W → W.cell? ⟨w.heap.size, 0, none⟩ = some (.int .i64 m.no) ∧ ∀ j, j < 4 → W.cell? ⟨w.heap.size + 1, j, none⟩ = some (.int .i64 (numL m j))) := by
    intro W hW
    have e0 := hW.block w.heap.size (by omega) id
    have e1 := hW.block (w.heap.size + 1) (by omega) id
    rw [hb0] at e0
    rw [hb1] at e1
    refine ⟨by rw [cell_of_row _ _ _ _ _ _ e0]; rfl, fun j hj => ?_⟩
    rw [cell_of_row _ _ _ _ _ _ e1]
    match j, hj with
    | 0, _ => rfl
    | 1, _ => rfl
    | 2, _ => rfl
    | 3, _ => rfl
  clear hM3 hs3 hb0 hb1 hm hw3
  go_enter Try.func18, Try.ntmps18
  go_wp2_with fail
  rw [← Hw3.out]
  generalize hz : w.heap.size = z at *
  have Hz := Lib.hid hz
  clear hz
  go_loopw [5, 3] (fun i out wr => ∃ (j : Nat) (A : Option Addr) (c : Nat), j ≤ 4 ∧ i = .int .i64 j ∧ out = .slice A (4 * j) c ∧ OwV wr w3.heap.size 5 A (4 * j) c ((numsB m j).map bv) ∧ Mod (fun _ => False) w3 wr) (fun i _ _ => 8 - (intOf i).toNat)
  case atStart => exact ⟨0, none, 0, by omega, rfl, rfl, OwV.nil _ _ _, Mod.refl _ _⟩
  case round =>
    obtain ⟨j, A, c, hj, rfl, rfl, hown, hmod⟩ := hrel
    by_cases hlt : j < 4
    · have hlt' : (j : Int) < 4 := by omega
      have hcj := (Hc.out wr hmod).2 j hlt
      have Hput := Lib.hid (refPut_ok4 wr (numL m j) (Hbd.out j).1 (Hbd.out j).2)
      have Hown := Lib.hid hown
      have Hmod := Lib.hid hmod
      clear hown hmod
      go_wp2_with fail
      refine Hput.out.mono ?_
      rintro e w4 ⟨Ax, cx, rfl, hf⟩
      have hsrc := hf.1.sl.src
      have hown4 := Hown.out.mod hf.2 (fun _ _ => id)
      have hm4 := Hmod.out.trans hf.2 (fun _ _ h => h)
      have hml : 4 * j + 4 ≤ maxLen := by unfold maxLen; omega
      have hbase := hm4.size
      clear hf Hput Hown Hmod
      go_wp2_with (at_builtin; refine wpList_app (.tmp 31) (.tmp 32) byteElem rfl rfl rfl rfl hown4 hsrc (by omega) hml hbase ?_)
      intro A5 c5 w5 hown5 hg5 _
      have hm5 : Mod (fun _ => False) w3 w5 := hm4.grown hg5 (fun k e hk => by have := (hown4.lt k e).1; omega)
      have Hown5 : Hid (OwV w5 w3.heap.size 5 A5 (4 * (j + 1)) c5 ((numsB m (j + 1)).map bv)) := by
        show OwV _ _ _ _ _ _ _
        rw [numsB, List.map_append, Nat.mul_succ]
        exact hown5
      clear hsrc hown4 hown5 hg5 hm4 hml hbase
      go_wp2
      go_roundw
      case rel => exact ⟨j + 1, A5, c5, by omega, by go_num, rfl, Hown5.out, hm5⟩
      case measure => simp [intOf]; omega
    · obtain rfl : j = 4 := by omega
      have hc0 := (Hc.out wr hmod).1
      have hsl : Sl wr A 16 c (payl m) := by
        have := OwV.sl (xs := payl m) (by rw [← numsB_4]; exact hown)
        exact this
      have Hse := Lib.hid (refSeal_any wr m.no A 16 c (payl m) hsl)
      have Hmod := Lib.hid hmod
      clear hown hmod hsl
      go_wp2_with fail
      refine Hse.out.mono ?_
      rintro e w6 ⟨A6, k6, c6, rfl, hk, hG⟩
      have hb : sealB m.no 16 = true := by
        have := Hmm.out
        simp only [sealB, Bool.and_eq_true, decide_eq_true_eq]
        omega
      have he : sealErr m.no 16 = 0 := by
        have := Hmm.out
        rw [sealErr, if_neg (by omega), if_neg (by omega)]
      have hx : sealBytes m.no 16 (payl m) = secM m := by rw [sealBytes, hb]; rfl
      rw [hx] at hG
      have hk6 : k6 = 256 := by rw [← hG.1.len, secM_len]
      subst hk6
      have HG : Hid (Gives w w6 A6 256 c6 (secM m)) := ⟨hG.1, HM3.out.trans (Hmod.out.trans hG.2 (fun _ _ h => h)) (fun _ _ h => h)⟩
      clear hG hk hb he hx Hse
      go_wp2
      go_ret
      exact ⟨A6, c6, rfl, HG.out⟩
end Go.Proofs.Ytkigpicjhklioaa
