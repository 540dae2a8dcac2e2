/-
  Plain mathematics on bytes: numbers and their bytes, the least first.
-/
import Derived.Test.YtidcmolkolcliaaWords
import Derived.Laws.BitsAllLaws
import Derived.Laws.BitsLemmas
namespace Go.Proofs.Ytidcmolkolcliaa
open Go Go.RowKit

/-- The bytes of n, the least first. -/
def le : Nat → Nat → List UInt8
  | 0, _ => []
  | k + 1, n => UInt8.ofNat n :: le k (n / 256)

/-- The number that bytes make, the least first. -/
def unle : List UInt8 → Nat
  | [] => 0
  | b :: r => b.toNat + 256 * unle r

theorem le_snoc (j n : Nat) : le (j + 1) n = le j n ++ [UInt8.ofNat (n / 256 ^ j)] := by
  induction j generalizing n with
  | zero => simp [le]
  | succ j ih =>
    rw [le, ih (n / 256)]
    simp [le, Nat.div_div_eq_div_mul, Nat.pow_succ, Nat.mul_comm]
theorem le_length (j n : Nat) : (le j n).length = j := by
  induction j generalizing n with
  | zero => rfl
  | succ j ih => simp [le, ih]

theorem unle_snoc (l : List UInt8) (b : UInt8) : unle (l ++ [b]) = unle l + b.toNat * 256 ^ l.length := by
  induction l with
  | nil => simp [unle]
  | cons a l ih =>
    simp only [unle, List.cons_append, ih, List.length_cons, Nat.pow_succ, Nat.mul_add]
    rw [Nat.mul_left_comm, Nat.mul_comm 256 (256 ^ l.length), Nat.add_assoc]
theorem unle_lt (l : List UInt8) : unle l < 256 ^ l.length := by
  induction l with
  | nil => simp [unle]
  | cons a l ih =>
    have := a.toNat_lt
    simp only [unle, List.length_cons, Nat.pow_succ]
    omega

theorem unle_le (k n : Nat) (h : n < 256 ^ k) : unle (le k n) = n := by
  induction k generalizing n with
  | zero => simp at h; simp [le, unle, h]
  | succ k ih =>
    have hd : n / 256 < 256 ^ k := by
      rw [Nat.pow_succ] at h
      exact Nat.div_lt_of_lt_mul (by omega)
    simp only [le, unle, ih _ hd, UInt8.toNat_ofNat']
    omega

theorem byte_at (n : Int) (j : Nat) (h0 : 0 ≤ n) : n / 2 ^ (8 * j) % 256 = ((UInt8.ofNat (n.toNat / 256 ^ j)).toNat : Int) := by
  obtain ⟨m, rfl⟩ := Int.eq_ofNat_of_zero_le h0
  rw [Int.toNat_natCast]
  have h2 : (2 : Nat) ^ (8 * j) = 256 ^ j := by rw [Nat.pow_mul]
  have h3 : ((2 : Int) ^ (8 * j)) = ((256 ^ j : Nat) : Int) := by rw [← h2]; norm_cast
  rw [h3, UInt8.toNat_ofNat', Int.natCast_emod, Int.natCast_ediv]
  rfl

theorem bits_or_i64 (a b : Nat) (ha : a < 9223372036854775808) (hb : b < 9223372036854775808) : bits .or .i64 (a : Int) (b : Int) = ((a ||| b : Nat) : Int) := by
  have hx : a ||| b < 2 ^ 63 := Nat.or_lt_two_pow (by omega) (by omega)
  have e : ∀ c : Nat, c < 9223372036854775808 → (BitVec.ofInt 64 (c : Int)).toNat = c := fun c hc => by
    rw [BitVec.ofInt_natCast, BitVec.toNat_ofNat]; exact Nat.mod_eq_of_lt (by omega)
  show IntKind.i64.wrap ((BitVec.ofInt 64 (a : Int) ||| BitVec.ofInt 64 (b : Int)).toNat : Int) = _
  rw [BitVec.toNat_or, e a ha, e b hb, IntKind.wrap_i64]
  omega

theorem or_disjoint (a x k : Nat) (ha : a < 2 ^ k) : a ||| x * 2 ^ k = a + x * 2 ^ k := by
  rw [Nat.or_comm, Nat.mul_comm, ← Nat.two_pow_add_eq_or_of_lt ha, Nat.add_comm]

/-- One round of a number's reading: at most four bytes. -/
theorem or_round (xs : List UInt8) (j : Nat) (hj : j < xs.length) (h3 : j ≤ 3) :
    bits .or .i64 (unle (xs.take j) : Int) (wrap64 (wrap64 ((xs[j]?.getD 0).toNat : Int) * 2 ^ (8 * j))) = (unle (xs.take (j + 1)) : Int) := by
  have hx : xs[j]?.getD 0 = xs[j] := by rw [List.getElem?_eq_getElem hj]; rfl
  rw [hx]
  have hlt := (xs[j]).toNat_lt
  have hpow : (2 : Nat) ^ (8 * j) = 256 ^ j := by rw [Nat.pow_mul]
  have hle : (256 : Nat) ^ j ≤ 16777216 := by
    have : (256 : Nat) ^ j ≤ 256 ^ 3 := Nat.pow_le_pow_right (by omega) h3
    omega
  have hu := unle_lt (xs.take j)
  have hlen : (xs.take j).length = j := by simp; omega
  rw [hlen] at hu
  have hprod : xs[j].toNat * 256 ^ j ≤ 255 * 16777216 := Nat.mul_le_mul (by omega) hle
  have hw : wrap64 (wrap64 (xs[j].toNat : Int) * 2 ^ (8 * j)) = ((xs[j].toNat * 2 ^ (8 * j) : Nat) : Int) := by
    have e1 : wrap64 (xs[j].toNat : Int) = (xs[j].toNat : Int) := by unfold wrap64; omega
    rw [e1]
    have e2 : ((xs[j].toNat : Int) * 2 ^ (8 * j)) = ((xs[j].toNat * 2 ^ (8 * j) : Nat) : Int) := by norm_cast
    rw [e2, hpow]
    generalize xs[j].toNat * 256 ^ j = q at *
    unfold wrap64
    omega
  rw [hw, bits_or_i64 _ _ (by omega) (by rw [hpow]; omega), or_disjoint _ _ _ (by rw [hpow]; exact hu)]
  rw [List.take_succ_eq_append_getElem hj, unle_snoc, hlen, hpow]
end Go.Proofs.Ytidcmolkolcliaa
