/-
  Open and Part in all their cases at once.
-/
import Derived.Test.YtfejmaffgbbkeaaAwake2
namespace Go.Proofs.Ytfejmaffgbbkeaa
open Go Go.RowKit

def openB (n : Nat) (xs : List UInt8) : Bool := decide (n = 256) && decide (xs.take 4 = xs.drop 252)
def openBytes (n : Nat) (xs : List UInt8) : List UInt8 := if openB n xs then (xs.drop 4).take 248 else []
def openStamp (n : Nat) (xs : List UInt8) : Int := if openB n xs then (unle (xs.take 4) : Int) else 0
def openErr (n : Nat) (xs : List UInt8) : Int := if n = 256 then if openB n xs then 0 else 20 else 1
theorem room_len {xs : List UInt8} (h : xs.length = 256) : ((xs.drop 4).take 248).length = 248 := by rw [List.length_take, List.length_drop, h]; rfl

theorem open_any (w : World) (A : Option Addr) (n c : Nat) (xs : List UInt8) (h : Sl w A n c xs) :
    Calls Try.prog 14 #[.slice A n c] w fun e w' => ∃ A' k c', e = .returned (.tuple #[.slice A' k c', .int .i64 (openStamp n xs), .int .i64 (openErr n xs)]) ∧ k ≤ 256 ∧ Gives w w' A' k c' (openBytes n xs) := by
  by_cases h1 : n = 256
  · subst h1
    by_cases h2 : xs.take 4 = xs.drop 252
    · have hb : openB 256 xs = true := by simp [openB, h2]
      refine (open_ok w A c xs h h2).mono ?_
      rintro e w' ⟨g, rfl, hr⟩
      refine ⟨_, 248, 248, by rw [openStamp, openErr, hb]; rfl, by omega, ?_, hr.2.2⟩
      rw [openBytes, hb]
      exact hr.sl (room_len h.len)
    · have hb : openB 256 xs = false := by simp [openB, h2]
      refine (open_torn w A c xs h h2).mono ?_
      rintro e w' ⟨rfl, hm⟩
      refine ⟨none, 0, 0, by rw [openStamp, openErr, hb]; rfl, by omega, ?_, hm⟩
      rw [openBytes, hb]
      exact Sl.none_ _ _ _
  · have hb : openB n xs = false := by simp [openB, h1]
    refine (open_arg w A n c h1).mono ?_
    rintro e w' ⟨rfl, rfl⟩
    refine ⟨none, 0, 0, by rw [openStamp, openErr, hb, if_neg h1]; rfl, by omega, ?_, Mod.refl _ _⟩
    rw [openBytes, hb]
    exact Sl.none_ _ _ _

def partBytes (n m : Nat) (k : Int) (xs ys : List UInt8) : List UInt8 := if partB n m k then partOf xs ys k.toNat else []
def partErr (n m : Nat) (k : Int) : Int := if partB n m k then 0 else 1
theorem partB_yes {n m : Nat} {k : Int} (h : partB n m k = true) : n = 256 ∧ m = 256 ∧ 0 ≤ k ∧ k ≤ 256 := by
  simp only [partB, Bool.and_eq_true, decide_eq_true_eq] at h
  exact ⟨h.1.1.1, h.1.1.2, h.1.2, h.2⟩

theorem part_any (w : World) (A B : Option Addr) (n c m d : Nat) (k : Int) (xs ys : List UInt8) (hx : Sl w A n c xs) (hy : Sl w B m d ys) :
    Calls Try.prog 16 #[.slice A n c, .slice B m d, .int .i64 k] w fun e w' => ∃ A' l c', e = .returned (.tuple #[.slice A' l c', .int .i64 (partErr n m k)]) ∧ l ≤ 256 ∧ Gives w w' A' l c' (partBytes n m k xs ys) := by
  by_cases hb : partB n m k = true
  · obtain ⟨rfl, rfl, h0, h1⟩ := partB_yes hb
    obtain ⟨j, rfl⟩ := Int.eq_ofNat_of_zero_le h0
    refine (part_ok w A B c d xs ys hx hy j (by omega)).mono ?_
    rintro e w' ⟨g, rfl, hs⟩
    refine ⟨_, 256, 256, by rw [partErr, hb]; rfl, by omega, ?_, hs.2.2⟩
    rw [partBytes, hb]
    exact hs.sl (partOf_len xs ys j hx.len hy.len (by omega))
  · have hb' : partB n m k = false := by simpa using hb
    refine (part_no w A B n c m d k hb').mono ?_
    rintro e w' ⟨rfl, rfl⟩
    refine ⟨none, 0, 0, by rw [partErr, hb']; rfl, by omega, ?_, Mod.refl _ _⟩
    rw [partBytes, hb']
    exact Sl.none_ _ _ _
end Go.Proofs.Ytfejmaffgbbkeaa
