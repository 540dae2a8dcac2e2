/-
  Plain mathematics on sectors and their parts.
-/
import Derived.Test.YtfejmaffgbbkeaaAny2
namespace Go.Proofs.Ytfejmaffgbbkeaa
open Go Go.RowKit

theorem le_unle : ∀ (l : List UInt8), le l.length (unle l) = l
  | [] => rfl
  | b :: r => by
    have hb := b.toNat_lt
    have e1 : UInt8.ofNat (b.toNat + 256 * unle r) = b := by
      apply UInt8.toNat_inj.1
      rw [UInt8.toNat_ofNat']
      omega
    have e2 : (b.toNat + 256 * unle r) / 256 = unle r := by omega
    simp only [List.length_cons, unle, le, e1, e2, le_unle r]
theorem unle_len4 (l : List UInt8) (h : l.length = 4) : unle l < 4294967296 := by have := unle_lt l; rw [h] at this; exact this
theorem le4_unle (l : List UInt8) (h : l.length = 4) : le 4 (unle l) = l := by have := le_unle l; rw [h] at this; exact this
theorem unle_le4 (n : Int) (h0 : 0 ≤ n) (h1 : n ≤ 4294967295) : (unle (le 4 n.toNat) : Int) = n := by
  rw [unle_le 4 n.toNat (by omega)]
  omega
theorem le4_inj {a b : Int} (a0 : 0 ≤ a) (a1 : a ≤ 4294967295) (b0 : 0 ≤ b) (b1 : b ≤ 4294967295) (h : le 4 a.toNat = le 4 b.toNat) : a = b := by
  rw [← unle_le4 a a0 a1, ← unle_le4 b b0 b1, h]

theorem sec_take (n : Int) (xs : List UInt8) : (secOf n xs).take 4 = le 4 n.toNat := by
  rw [secOf, List.append_assoc, List.take_append_of_le_length (by rw [le_length]; omega), List.take_of_length_le (by rw [le_length]; omega)]
theorem sec_drop (n : Int) (xs : List UInt8) (h : xs.length ≤ 248) : (secOf n xs).drop 252 = le 4 n.toNat := by
  have hl : (le 4 n.toNat ++ (xs ++ zeros (248 - xs.length))).length = 252 := by simp only [List.length_append, zeros_len, le_length]; omega
  rw [secOf, List.drop_append, hl, List.drop_of_length_le (by omega)]
  rfl
theorem sec_mid (n : Int) (xs : List UInt8) (h : xs.length ≤ 248) : ((secOf n xs).drop 4).take 248 = xs ++ zeros (248 - xs.length) := by
  have hl : (xs ++ zeros (248 - xs.length)).length = 248 := by simp only [List.length_append, zeros_len]; omega
  have e4 : (le 4 n.toNat).length = 4 := le_length 4 _
  rw [secOf, List.append_assoc, List.drop_append, List.drop_of_length_le (by omega), e4, List.nil_append, Nat.sub_self, List.drop_zero, List.take_append_of_le_length (by omega), List.take_of_length_le (by omega)]
theorem parts3 (xs : List UInt8) : xs = xs.take 4 ++ (xs.drop 4).take 248 ++ xs.drop 252 := by
  have e1 : xs = xs.take 4 ++ xs.drop 4 := (List.take_append_drop 4 xs).symm
  have e2 : xs.drop 4 = (xs.drop 4).take 248 ++ (xs.drop 4).drop 248 := (List.take_append_drop 248 _).symm
  have e3 : (xs.drop 4).drop 248 = xs.drop 252 := by rw [List.drop_drop]
  rw [e3] at e2
  rw [List.append_assoc, ← e2, ← e1]
/-- What opens is what Seal makes of what it opens to. -/
theorem sec_only (xs : List UInt8) (h : xs.length = 256) (he : xs.take 4 = xs.drop 252) : secOf (unle (xs.take 4) : Int) ((xs.drop 4).take 248) = xs := by
  have hl : ((xs.drop 4).take 248).length = 248 := room_len h
  have h4 : (xs.take 4).length = 4 := by rw [List.length_take]; omega
  rw [secOf, hl, Int.toNat_natCast, le4_unle _ h4]
  conv => rhs; rw [parts3 xs, ← he]
  rw [show zeros (248 - 248) = [] from rfl, List.append_nil]

theorem part_zero (xs ys : List UInt8) : partOf xs ys 0 = xs := by simp [partOf]
theorem part_all (xs ys : List UInt8) (hx : xs.length = 256) (hy : ys.length = 256) : partOf xs ys 256 = ys := by
  unfold partOf
  rw [List.take_of_length_le (by omega), List.drop_of_length_le (by omega), List.append_nil]
theorem ext_getD {xs ys : List UInt8} (hl : xs.length = ys.length) (h : ∀ j, j < xs.length → xs.getD j 0 = ys.getD j 0) : xs = ys := by
  apply List.ext_getElem hl
  intro j h1 h2
  have := h j h1
  simpa [h1, h2] using this
theorem part_at (xs ys : List UInt8) (k j : Nat) (hy : ys.length = 256) (hj : j < 256) : (partOf xs ys k).getD j 0 = if j < k then ys.getD j 0 else xs.getD j 0 := by
  unfold partOf
  by_cases h : j < k
  · rw [if_pos h, List.getD_eq_getElem?_getD, List.getElem?_append_left (by rw [List.length_take]; omega), List.getElem?_take, if_pos h, List.getD_eq_getElem?_getD]
  · rw [if_neg h, List.getD_eq_getElem?_getD]
    by_cases hk : k ≤ 256
    · rw [List.getElem?_append_right (by rw [List.length_take]; omega), List.length_take, Nat.min_eq_left (by omega), List.getElem?_drop, show k + (j - k) = j by omega, List.getD_eq_getElem?_getD]
    · omega
theorem part_part (xs ys : List UInt8) (a b m : Nat) (hx : xs.length = 256) (hy : ys.length = 256) (ha : a ≤ 256) (hb : b ≤ 256) (hm : m = max a b) : partOf (partOf xs ys a) ys b = partOf xs ys m := by
  have l1 := partOf_len xs ys a hx hy ha
  have l2 := partOf_len (partOf xs ys a) ys b l1 hy hb
  have l3 := partOf_len xs ys m hx hy (by omega)
  refine ext_getD (by omega) fun j hj => ?_
  rw [part_at _ _ _ _ hy (by omega), part_at _ _ _ _ hy (by omega), part_at _ _ _ _ hy (by omega)]
  subst hm
  by_cases h1 : j < b
  · rw [if_pos h1, if_pos (by omega)]
  · rw [if_neg h1]
    by_cases h2 : j < a
    · rw [if_pos h2, if_pos (by omega)]
    · rw [if_neg h2, if_neg (by omega)]

/-- A part of one sector over another one: torn, or one of the two. -/
theorem torn_or (a c : Int) (xs ys : List UInt8) (k : Nat) (hx : xs.length ≤ 248) (hy : ys.length ≤ 248) (hk : k ≤ 256) (hne : le 4 a.toNat ≠ le 4 c.toNat)
    (h : (partOf (secOf a xs) (secOf c ys) k).take 4 = (partOf (secOf a xs) (secOf c ys) k).drop 252) :
    partOf (secOf a xs) (secOf c ys) k = secOf a xs ∨ partOf (secOf a xs) (secOf c ys) k = secOf c ys := by
  have lo := secOf_len a xs hx
  have ln := secOf_len c ys hy
  have to := sec_take a xs
  have tn := sec_take c ys
  have dr := sec_drop a xs hx
  have dn := sec_drop c ys hy
  generalize secOf a xs = O at *
  generalize secOf c ys = N at *
  have lp := partOf_len O N k lo ln hk
  have at_ := fun j hj => part_at O N k j ln hj
  generalize partOf O N k = P at *
  have hends : ∀ j, j < 4 → P.getD j 0 = P.getD (252 + j) 0 := by
    intro j hj
    have e1 : (P.take 4).getD j 0 = P.getD j 0 := by simp [List.getD_eq_getElem?_getD, hj]
    have e2 : (P.drop 252).getD j 0 = P.getD (252 + j) 0 := by simp [List.getD_eq_getElem?_getD]
    rw [← e1, ← e2, h]
  have oends : ∀ j, j < 4 → O.getD j 0 = O.getD (252 + j) 0 := by
    intro j hj
    have e1 : (O.take 4).getD j 0 = O.getD j 0 := by simp [List.getD_eq_getElem?_getD, hj]
    have e2 : (O.drop 252).getD j 0 = O.getD (252 + j) 0 := by simp [List.getD_eq_getElem?_getD]
    rw [← e1, ← e2, to, dr]
  have nends : ∀ j, j < 4 → N.getD j 0 = N.getD (252 + j) 0 := by
    intro j hj
    have e1 : (N.take 4).getD j 0 = N.getD j 0 := by simp [List.getD_eq_getElem?_getD, hj]
    have e2 : (N.drop 252).getD j 0 = N.getD (252 + j) 0 := by simp [List.getD_eq_getElem?_getD]
    rw [← e1, ← e2, tn, dn]
  by_cases h1 : k ≤ 252
  · -- the last stamp is the old one
    have same : ∀ j, j < 4 → j < k → N.getD j 0 = O.getD j 0 := by
      intro j hj hjk
      have a1 := at_ j (by omega)
      have a2 := at_ (252 + j) (by omega)
      rw [if_pos hjk] at a1
      rw [if_neg (by omega)] at a2
      rw [← a1, hends j hj, a2, oends j hj]
    by_cases h2 : 4 ≤ k
    · exfalso
      apply hne
      rw [← to, ← tn]
      refine ext_getD (by simp [lo, ln]) fun j hj => ?_
      have hj4 : j < 4 := by simp [lo] at hj; omega
      have e1 : (O.take 4).getD j 0 = O.getD j 0 := by simp [List.getD_eq_getElem?_getD, hj4]
      have e2 : (N.take 4).getD j 0 = N.getD j 0 := by simp [List.getD_eq_getElem?_getD, hj4]
      rw [e1, e2, same j hj4 (by omega)]
    · left
      refine ext_getD (by omega) fun j hj => ?_
      rw [at_ j (by omega)]
      by_cases hjk : j < k
      · rw [if_pos hjk, same j (by omega) hjk]
      · rw [if_neg hjk]
  · right
    refine ext_getD (by omega) fun j hj => ?_
    rw [at_ j (by omega)]
    by_cases hjk : j < k
    · rw [if_pos hjk]
    · rw [if_neg hjk]
      obtain ⟨i, rfl⟩ : ∃ i, j = 252 + i := ⟨j - 252, by omega⟩
      have a1 := at_ i (by omega)
      have a2 := at_ (252 + i) (by omega)
      rw [if_pos (by omega)] at a1
      rw [if_neg hjk] at a2
      rw [← a2, ← hends i (by omega), a1, nends i (by omega)]
end Go.Proofs.Ytfejmaffgbbkeaa
