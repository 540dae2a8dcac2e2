/-
  The log's sectors on a device: what is read of one, of one that was written in part, of older ones.
-/
import Derived.Test.YtnbamljaiahmdaaGreatQRd
import Derived.Test.YtnbamljaiahmdaaGreatQW2
import Derived.Test.YtnbamljaiahmdaaGreatQU2
namespace Go.Proofs.YtnbamljaiahmdaaGreat
open Go Go.RowKit

/-- Some records that some memory holds. -/
def Was (l : List RcD) : Prop := ∃ w : World, ∀ x ∈ l, x.At w
/-- A log sector. -/
structure Sc where
  e : Int
  f : Int
  l : List RcD
def Sc.sec (c : Sc) (s : Int) : List UInt8 := secOf (16777216 * c.e + s) (packB c.e s c.f c.l)
def Sc.m (c : Sc) (s : Int) : Bm := ⟨c.e, s, c.f, c.l.map dec2⟩
structure Sc.Ok (c : Sc) (s : Int) : Prop where
  e1 : 1 ≤ c.e
  e2 : c.e ≤ 255
  f0 : 0 ≤ c.f
  f1 : c.f ≤ s
  s0 : 0 ≤ s
  s1 : s ≤ 16777215
  fit : fitsB c.l = true
  was : Was c.l
  ne : c.l ≠ []
section
variable {c : Sc} {s : Int}
theorem Sc.Ok.head (h : c.Ok s) : headOk c.e s c.f = true := by
  unfold headOk
  rw [inB_iff.2 ⟨by have := h.e1; omega, by have := h.e2; omega⟩, inB_iff.2 ⟨h.s0, h.s1⟩, inB_iff.2 ⟨h.f0, h.f1⟩]
  rfl
theorem Sc.Ok.packE (h : c.Ok s) : packE c.e s c.f c.l = 0 := fits_pack h.fit h.head
theorem Sc.Ok.packL (h : c.Ok s) : (packB c.e s c.f c.l).length ≤ 248 := (packE_zero h.packE).2.2.2
theorem Sc.Ok.len (h : c.Ok s) : (c.sec s).length = 256 := secOf_len _ _ h.packL
theorem Sc.Ok.few (h : c.Ok s) : c.l.length ≤ 60 := (fits_may h.fit).2
/-- A log sector is read. -/
theorem batM_sec (h : c.Ok s) : batM (c.sec s) s = some (c.m s) := by
  obtain ⟨w, hw⟩ := h.was
  have hm : midS (c.sec s) = packB c.e s c.f c.l ++ List.replicate (248 - (packB c.e s c.f c.l).length) 0 := sec_mid _ _ h.packL
  obtain ⟨u1, u2, u3, u4⟩ := unpack_pack hw h.packE (248 - (packB c.e s c.f c.l).length) (by have := h.packL; omega)
  rw [← hm] at u1 u2 u3 u4
  have ht : (c.sec s).take 4 = le 4 (16777216 * c.e + s).toNat := sec_take _ _
  have hst : (unle ((c.sec s).take 4) : Int) = 16777216 * c.e + s := by
    rw [ht]
    exact unle_le4 _ (by have := h.e1; have := h.s0; omega) (by have := h.e2; have := h.s1; omega)
  have hok : stampOk (c.sec s) s = true := by
    unfold stampOk
    rw [u2, u3, hst, decide_eq_true rfl, decide_eq_true rfl, decide_eq_true h.e1]
    rfl
  rw [batM_yes h.len (by rw [ht]; exact (sec_drop _ _ h.packL).symm) u1 hok, u2, u3, u4]
  rfl
end

/-! ### Bytes of a stamp -/
theorem ofNat_mod {a b : Nat} (h : a % 256 = b % 256) : UInt8.ofNat a = UInt8.ofNat b := by
  apply UInt8.toNat_inj.1
  rw [UInt8.toNat_ofNat', UInt8.toNat_ofNat']
  exact h
theorem le4_get (n : Nat) : (le 4 n).getD 0 0 = UInt8.ofNat n ∧ (le 4 n).getD 1 0 = UInt8.ofNat (n / 256) ∧ (le 4 n).getD 2 0 = UInt8.ofNat (n / 256 / 256) ∧ (le 4 n).getD 3 0 = UInt8.ofNat (n / 256 / 256 / 256) := ⟨rfl, rfl, rfl, rfl⟩
theorem stamp_low (e s j : Nat) (hj : j < 3) : (le 4 (16777216 * e + s)).getD j 0 = (le 4 s).getD j 0 := by
  obtain ⟨a0, a1, a2, _⟩ := le4_get (16777216 * e + s)
  obtain ⟨b0, b1, b2, _⟩ := le4_get s
  match j, hj with
  | 0, _ => rw [a0, b0]; exact ofNat_mod (by omega)
  | 1, _ => rw [a1, b1]; exact ofNat_mod (by omega)
  | 2, _ => rw [a2, b2]; exact ofNat_mod (by omega)
theorem stamp_high (e s : Nat) (hs : s < 16777216) (he : e < 256) : ((le 4 (16777216 * e + s)).getD 3 0).toNat = e := by
  rw [(le4_get _).2.2.2, UInt8.toNat_ofNat']
  omega
theorem getD_take4 (xs : List UInt8) (j : Nat) (hj : j < 4) : (xs.take 4).getD j 0 = xs.getD j 0 := by simp [List.getD_eq_getElem?_getD, hj]
theorem getD_drop252 (xs : List UInt8) (j : Nat) : (xs.drop 252).getD j 0 = xs.getD (252 + j) 0 := by simp [List.getD_eq_getElem?_getD]
section
variable {c : Sc} {s : Int}
theorem Sc.Ok.low (h : c.Ok s) {j : Nat} (hj : j < 3) : (c.sec s).getD j 0 = (le 4 s.toNat).getD j 0 := by
  rw [← getD_take4 _ _ (by omega), show (c.sec s).take 4 = le 4 (16777216 * c.e + s).toNat from sec_take _ _]
  have := h.e1; have := h.s0
  rw [show (16777216 * c.e + s).toNat = 16777216 * c.e.toNat + s.toNat by omega]
  exact stamp_low _ _ _ hj
theorem Sc.Ok.high (h : c.Ok s) : (((c.sec s).getD 3 0).toNat : Int) = c.e ∧ (((c.sec s).getD 255 0).toNat : Int) = c.e := by
  have := h.e1; have := h.e2; have := h.s0; have := h.s1
  have key := stamp_high c.e.toNat s.toNat (by omega) (by omega)
  refine ⟨?_, ?_⟩
  · rw [← getD_take4 _ 3 (by omega), show (c.sec s).take 4 = le 4 (16777216 * c.e + s).toNat from sec_take _ _, show (16777216 * c.e + s).toNat = 16777216 * c.e.toNat + s.toNat by omega, key]
    omega
  · rw [show 255 = 252 + 3 from rfl, ← getD_drop252, show (c.sec s).drop 252 = le 4 (16777216 * c.e + s).toNat from sec_drop _ _ h.packL, show (16777216 * c.e + s).toNat = 16777216 * c.e.toNat + s.toNat by omega, key]
    omega
theorem Sc.Ok.tail (h : c.Ok s) {j : Nat} (hj : j < 4) : (c.sec s).getD (252 + j) 0 = (c.sec s).getD j 0 := by
  have h4 := getD_take4 (c.sec s) j hj
  rw [show (c.sec s).take 4 = le 4 (16777216 * c.e + s).toNat from sec_take _ _] at h4
  rw [← getD_drop252, show (c.sec s).drop 252 = le 4 (16777216 * c.e + s).toNat from sec_drop _ _ h.packL]
  exact h4
end

/-! ### What older epochs have left -/
/-- X lies at the place of the log sector s, and no epoch from E on has written there. -/
structure Lay (s : Int) (E : Int) (X : List UInt8) : Prop where
  len : X.length = 256
  top : ((X.getD 255 0).toNat : Int) < E
  low : (∀ j, j < 3 → X.getD j 0 = (le 4 s.toNat).getD j 0) ∨ ((∀ j, 3 ≤ j → X.getD j 0 = 0) ∧ ∀ j, j < 3 → X.getD j 0 = 0 ∨ X.getD j 0 = (le 4 s.toNat).getD j 0)
  open_ : X.take 4 = X.drop 252 → X = zeros 256 ∨ ∃ c : Sc, c.Ok s ∧ c.e < E ∧ X = c.sec s
theorem zeros_get (n j : Nat) : (zeros n).getD j 0 = 0 := by
  unfold zeros
  rw [List.getD_eq_getElem?_getD, List.getElem?_replicate]
  split <;> rfl
theorem lay_zero (s : Int) : Lay s 1 (zeros 256) := by
  refine ⟨zeros_len 256, ?_, .inr ⟨fun j _ => zeros_get _ _, fun j _ => .inl (zeros_get _ _)⟩, fun _ => .inl rfl⟩
  rw [zeros_get]
  decide
theorem Lay.mono {s E E' : Int} {X : List UInt8} (h : Lay s E X) (hE : E ≤ E') : Lay s E' X :=
  ⟨h.len, Int.lt_of_lt_of_le h.top hE, h.low, fun ho => (h.open_ ho).imp id (fun ⟨c, h1, h2, h3⟩ => ⟨c, h1, Int.lt_of_lt_of_le h2 hE, h3⟩)⟩
theorem bat_zero (s : Int) : batM (zeros 256) s = none := by
  cases h : batM (zeros 256) s with
  | none => rfl
  | some m =>
    obtain ⟨_, _, _, h4, _, _, _, _, h9⟩ := batM_some h
    have : hdE (midS (zeros 256)) = 0 := by rfl
    omega
theorem Lay.bat {s E : Int} {X : List UInt8} (h : Lay s E X) {m : Bm} (hb : batM X s = some m) : m.e < E := by
  obtain ⟨_, h2, _⟩ := batM_some hb
  rcases h.open_ h2 with rfl | ⟨c, h1, h3, rfl⟩
  · rw [bat_zero] at hb; cases hb
  · rw [batM_sec h1] at hb
    injection hb with hb
    rw [← hb]
    exact h3
/-- A part of a new sector over what lay there: it does not open, or it is the one, or the other. -/
theorem part_open {s : Int} {X : List UInt8} {c : Sc} (h : Lay s c.e X) (hc : c.Ok s) {k : Nat} (hk : k ≤ 256) (ho : (partOf X (c.sec s) k).take 4 = (partOf X (c.sec s) k).drop 252) :
    (partOf X (c.sec s) k = c.sec s ∧ k = 256) ∨ (partOf X (c.sec s) k = X ∧ k ≤ 3) := by
  have hat := fun j hj => part_at X (c.sec s) k j hc.len hj
  have lp := partOf_len X (c.sec s) k h.len hc.len hk
  generalize partOf X (c.sec s) k = P at *
  have hends : ∀ j, j < 4 → P.getD j 0 = P.getD (252 + j) 0 := by
    intro j hj
    rw [← getD_take4 _ j hj, ho, getD_drop252]
  by_cases h1 : k = 256
  · left
    refine ⟨ext_getD (by rw [lp, hc.len]) fun j hj => ?_, h1⟩
    rw [hat j (by omega), if_pos (by omega)]
  · by_cases h2 : 4 ≤ k
    · exfalso
      have e1 := hends 3 (by omega)
      rw [hat 3 (by omega), if_pos (by omega), hat 255 (by omega), if_neg (by omega)] at e1
      have e2 := hc.high.1
      have e3 := h.top
      rw [e1] at e2
      omega
    · right
      refine ⟨ext_getD (by rw [lp, h.len]) fun j hj => ?_, by omega⟩
      rw [hat j (by omega)]
      by_cases h3 : j < k
      · rw [if_pos h3]
        have hnew := hc.low (show j < 3 by omega)
        rcases h.low with hl | ⟨hz, hl⟩
        · rw [hnew, hl j (by omega)]
        · have e1 := hends j (by omega)
          rw [hat j (by omega), if_pos h3, hat (252 + j) (by omega), if_neg (by omega), hz (252 + j) (by omega)] at e1
          rcases hl j (by omega) with e2 | e2
          · rw [e1, e2]
          · rw [hnew, e2]
      · rw [if_neg h3]
theorem Lay.part {s : Int} {X : List UInt8} {c : Sc} (h : Lay s c.e X) (hc : c.Ok s) {k : Nat} (hk : k ≤ 256) : Lay s (c.e + 1) (partOf X (c.sec s) k) := by
  have hat := fun j hj => part_at X (c.sec s) k j hc.len hj
  have lp := partOf_len X (c.sec s) k h.len hc.len hk
  refine ⟨lp, ?_, ?_, fun ho => ?_⟩
  · rw [hat 255 (by omega)]
    split
    · rw [hc.high.2]; omega
    · have := h.top; omega
  · by_cases h0 : k ≤ 3
    · rcases h.low with hl | ⟨hz, hl⟩
      · left
        intro j hj
        rw [hat j (by omega)]
        split
        · exact hc.low hj
        · exact hl j hj
      · right
        refine ⟨fun j hj => ?_, fun j hj => ?_⟩
        · by_cases hj2 : j < 256
          · rw [hat j hj2, if_neg (by omega)]
            exact hz j hj
          · rw [List.getD_eq_getElem?_getD, List.getElem?_eq_none (by omega)]
            rfl
        · rw [hat j (by omega)]
          split
          · exact .inr (hc.low hj)
          · exact hl j hj
    · left
      intro j hj
      rw [hat j (by omega), if_pos (by omega)]
      exact hc.low hj
  · rcases part_open h hc hk ho with ⟨e, _⟩ | ⟨e, _⟩
    · exact .inr ⟨c, hc, by omega, e⟩
    · rw [e] at ho ⊢
      exact (h.open_ ho).imp id (fun ⟨c', h1, h2, h3⟩ => ⟨c', h1, by omega, h3⟩)
end Go.Proofs.YtnbamljaiahmdaaGreat
