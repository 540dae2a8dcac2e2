/-
  bobbinref06: put, value, has.
  bobbinref06.has.
  bobbinref06.May.
-/
import Derived.Test.YtnbamljaiahmdaaGreatQDecE
import Derived.Test.YtnbamljaiahmdaaGreatQEnc
import Derived.Deep.RegionHeld3
namespace Go.Proofs.YtnbamljaiahmdaaGreat
open Go Go.RowKit

set_option maxRecDepth 100000 in
theorem rvalue_o (w : World) (x : RcD) :
    Calls Tryz.prog 94 #[x.val, .int .u8 79] w fun e w' => e = .returned (.agg #[.bool x.o.is, .slice x.o.B x.o.m x.o.d]) ∧ Mod (fun _ => False) w w' := by
  go_enter Tryz.func94, Tryz.ntmps94
  go_wp2
  refine bodyPost_ret (v := .agg #[.bool x.o.is, .slice x.o.B x.o.m x.o.d]) (by simp [results, Tryz.results94, go_sem]) rfl ?_
  exact ⟨rfl, ((Mod.refl _ w).alloc _).alloc _⟩
set_option maxRecDepth 100000 in
theorem rvalue_v (w : World) (x : RcD) :
    Calls Tryz.prog 94 #[x.val, .int .u8 78] w fun e w' => e = .returned (.agg #[.bool x.v.is, .slice x.v.B x.v.m x.v.d]) ∧ Mod (fun _ => False) w w' := by
  go_enter Tryz.func94, Tryz.ntmps94
  go_wp2
  refine bodyPost_ret (v := .agg #[.bool x.v.is, .slice x.v.B x.v.m x.v.d]) (by simp [results, Tryz.results94, go_sem]) rfl ?_
  exact ⟨rfl, ((Mod.refl _ w).alloc _).alloc _⟩

end Go.Proofs.YtnbamljaiahmdaaGreat

namespace Go.Proofs.YtnbamljaiahmdaaGreat
open Go Go.RowKit

/-- Has a text a letter? -/
def hasB (l : List UInt8) (c : UInt8) : Bool := l.contains c
set_option maxRecDepth 100000 in
theorem rhas_ok (w : World) (s : ByteArray) (l : List UInt8) (hl : s.data.toList = l) (c : UInt8) (hs : l.length ≤ 1000) :
    Calls Tryz.prog 103 #[.string s, .int .u8 c.toNat] w fun e w' => e = .returned (.bool (hasB l c)) ∧ w = w' := by
  have Hsz : Hid (s.size = l.length) := by show _ = _; rw [← hl]; rfl
  have Hl := Lib.hid hl
  have Hs := Lib.hid hs
  have hs1 : (s.size : Int) ≤ 1000 := by have := Hsz.out; omega
  clear hl hs
  go_enter Tryz.func103, Tryz.ntmps103
  go_wp2
  go_loop [5] (fun i => ∃ j : Nat, j ≤ s.size ∧ i = .int .i64 j ∧ ∀ i, i < j → l[i]? ≠ some c) (fun i => 1000 - (intOf i).toNat)
  case atStart => exact ⟨0, by omega, rfl, fun i hi => by omega⟩
  case round =>
    obtain ⟨j, hj, rfl, hno⟩ := hrel
    have Hno := Lib.hid hno
    clear hno
    by_cases hlt : j < s.size
    · have hat : l[j]? = some (s[j]'hlt) := by
        rw [← Hl.out, Array.getElem?_toList]
        exact Array.getElem?_eq_getElem hlt
      by_cases he : s[j]'hlt = c
      · have Hr : Hid (hasB l c = true) := by
          show l.contains c = true
          rw [List.contains_iff_mem]
          rw [he] at hat
          exact List.mem_of_getElem? hat
        clear hat
        go_wp2
        go_ret
        exact ⟨by rw [Hr.out]; rfl, rfl⟩
      · have Hn : Hid (∀ i, i < j + 1 → l[i]? ≠ some c) := fun i hi => by
          rcases Nat.lt_or_ge i j with h | h
          · exact Hno.out i h
          · obtain rfl : i = j := by omega
            rw [hat]
            intro e
            injection e with e
            exact he e
        have hb : ((((s[j]'hlt).toNat : Nat) : Int) == ((c.toNat : Nat) : Int)) = false := by
          rw [beq_eq_false_iff_ne]
          intro e
          exact he (UInt8.toNat_inj.1 (by omega))
        clear hat he
        go_wp2
        go_round
        case rel => exact ⟨j + 1, by omega, by go_num, Hn.out⟩
        case measure => simp [intOf]; omega
    · obtain rfl : j = s.size := by omega
      have Hr : Hid (hasB l c = false) := by
        show l.contains c = false
        rw [Bool.eq_false_iff]
        intro e
        rw [List.contains_iff_mem] at e
        obtain ⟨i, hi⟩ := List.getElem?_of_mem e
        exact Hno.out i (by rw [Hsz.out]; exact (List.getElem?_eq_some_iff.1 hi).1) hi
      go_wp2
      go_ret
      exact ⟨by rw [Hr.out]; rfl, rfl⟩
end Go.Proofs.YtnbamljaiahmdaaGreat

namespace Go.Proofs.YtnbamljaiahmdaaGreat
open Go Go.RowKit

/-- What the document asks of a number, and of a value. -/
def numB (x : RcD) (i : Nat) : Bool := if hasB (lettersOf x.k).toList (letter i) then okN (x.f i) (width i) else x.f i == 0
def valB (own : Bool) (v : VlD) : Bool := decide ((v.m : Int) ≤ 32) && (v.is || decide ((v.m : Int) = 0)) && (own || !v.is)
def refMay (x : RcD) : Bool := ((numB x 1 && numB x 2 && numB x 3 && numB x 4 && numB x 5 && numB x 6 && numB x 7 && numB x 8 && numB x 9) && valB (hasB (lettersOf x.k).toList 79) x.o) && valB (hasB (lettersOf x.k).toList 78) x.v
theorem valB_own (v : VlD) : valB true v = okV v := by
  obtain ⟨is, B, m, d, vs⟩ := v
  cases is
  · by_cases h : (m : Int) = 0
    · simp [valB, okV, noneV, h]
    · simp [valB, okV, noneV]; omega
  · simp [valB, okV, noneV]
theorem valB_not (v : VlD) : valB false v = noneV v := by
  obtain ⟨is, B, m, d, vs⟩ := v
  cases is
  · by_cases h : (m : Int) = 0
    · simp [valB, noneV, h]
    · simp [valB, noneV]; omega
  · simp [valB, noneV]
theorem noneV_none : noneV VlD.none = true := rfl
theorem refMay_ok {x : RcD} {fl : List Fld} (h : fieldsOf x.k = some fl) : refMay x = mayB x := by
  rw [mayB_split h]
  have hk := fields_kind' h
  unfold fieldsOf at h
  rcases hk with e | e | e | e | e | e | e | e | e | e | e
  all_goals
    rw [e] at h
    simp at h
    subst h
    simp only [refMay, numB, e]
    simp [lettersOf, hasB, letter, width, okF, zeroF, upd, emptyB, valB_own, valB_not, noneV_none]
    try ac_rfl
theorem numB_no {x : RcD} {i : Nat} (h1 : 1 ≤ i) (h9 : i ≤ 9) (h : numB x i = false) : refMay x = false := by
  unfold refMay
  match i, h1, h9 with
  | 1, _, _ | 2, _, _ | 3, _, _ | 4, _, _ | 5, _, _ | 6, _, _ | 7, _, _ | 8, _, _ | 9, _, _ => simp [h]
theorem numB_yes {x : RcD} (h : ∀ i, 1 ≤ i → i ≤ 9 → numB x i = true) : refMay x = (valB (hasB (lettersOf x.k).toList 79) x.o && valB (hasB (lettersOf x.k).toList 78) x.v) := by
  unfold refMay
  simp [h 1, h 2, h 3, h 4, h 5, h 6, h 7, h 8, h 9]
theorem letters_len (k : Int) : (lettersOf k).toList.length ≤ 6 := by
  unfold lettersOf
  repeat' split
  all_goals simp

theorem width_ok (i : Nat) : widthOk (width i : Nat) = true ∧ (width i ≤ 4) := by
  unfold width
  split
  · exact ⟨rfl, by omega⟩
  · split
    · exact ⟨rfl, by omega⟩
    · exact ⟨rfl, by omega⟩
theorem okN_pw (n : Int) (wd : Nat) : okN n wd = true ↔ 0 ≤ n ∧ n < pw wd := by
  unfold okN pw
  rw [Bool.and_eq_true, decide_eq_true_iff, decide_eq_true_iff, Int.natCast_pow]
  rfl
/-- Put, whatever the number. -/
theorem rputAny (w : World) (n : Int) (i : Nat) :
    Calls Tryz.prog 83 #[.int .i64 n, .int .i64 (width i : Nat)] w fun e w' => (∃ A m c, e = .returned (.tuple #[.slice A m c, .int .i64 (if okN n (width i) then 0 else 1)])) ∧ Mod (fun _ => False) w w' := by
  obtain ⟨hk, hk4⟩ := width_ok i
  by_cases h : okN n (width i) = true
  · obtain ⟨h0, h1⟩ := (okN_pw _ _).1 h
    refine (refPut_ok w n (width i : Nat) hk h0 h1).mono ?_
    rintro e w' ⟨A, c, rfl, _, hm⟩
    exact ⟨⟨A, _, c, by rw [if_pos h]⟩, hm⟩
  · refine (refPut_no w n (width i : Nat) (.inr ?_)).mono ?_
    · rw [okN_pw] at h
      show n < 0 ∨ pw (width i) ≤ n
      omega
    · rintro e w' ⟨rfl, rfl⟩
      exact ⟨⟨none, 0, 0, by rw [if_neg h]⟩, Mod.refl _ _⟩
end Go.Proofs.YtnbamljaiahmdaaGreat
