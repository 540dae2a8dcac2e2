/-
  bobbinref06.has.
-/
import Derived.Test.YtpkgeidenkjnfaaRefS
namespace Go.Proofs.Ytpkgeidenkjnfaa
open Go Go.RowKit

/-- Has a text a letter? -/
def hasB (l : List UInt8) (c : UInt8) : Bool := l.contains c
set_option maxRecDepth 100000 in
theorem rhas_ok (w : World) (s : ByteArray) (l : List UInt8) (hl : s.data.toList = l) (c : UInt8) (hs : l.length ≤ 1000) :
    Calls Try.prog 66 #[.string s, .int .u8 c.toNat] w fun e w' => e = .returned (.bool (hasB l c)) ∧ w = w' := by
  have Hsz : Hid (s.size = l.length) := by show _ = _; rw [← hl]; rfl
  have Hl := Lib.hid hl
  have Hs := Lib.hid hs
  have hs1 : (s.size : Int) ≤ 1000 := by have := Hsz.out; omega
  clear hl hs
  go_enter Try.func66, Try.ntmps66
  go_wp2
  go_loop [5] (fun i => ∃ j : Nat, j ≤ s.size ∧ i = .int .i64 j ∧ ∀ i, i < j → l[i]? ≠ some c) (fun i => 1000 - (intOf i).toNat)
  case atStart => exact ⟨0, by omega, rfl, fun i hi => by omega⟩
  case round =>
    obtain ⟨j, hj, rfl, hno⟩ := hrel
    have Hno := Lib.hid hno
    clear hno
    by_cases hlt : j < s.size
    · have hat : l[j]? = some (s[j]'hlt) := by
        rw [← Hl.out, Array.getElem?_toList]
        exact Array.getElem?_eq_getElem hlt
      by_cases he : s[j]'hlt = c
      · have Hr : Hid (hasB l c = true) := by
          show l.contains c = true
          rw [List.contains_iff_mem]
          rw [he] at hat
          exact List.mem_of_getElem? hat
        clear hat
        go_wp2
        go_ret
        exact ⟨by rw [Hr.out]; rfl, rfl⟩
      · have Hn : Hid (∀ i, i < j + 1 → l[i]? ≠ some c) := fun i hi => by
          rcases Nat.lt_or_ge i j with h | h
          · exact Hno.out i h
          · obtain rfl : i = j := by omega
            rw [hat]
            intro e
            injection e with e
            exact he e
        have hb : ((((s[j]'hlt).toNat : Nat) : Int) == ((c.toNat : Nat) : Int)) = false := by
          rw [beq_eq_false_iff_ne]
          intro e
          exact he (UInt8.toNat_inj.1 (by omega))
        clear hat he
        go_wp2
        go_round
        case rel => exact ⟨j + 1, by omega, by go_num, Hn.out⟩
        case measure => simp [intOf]; omega
    · obtain rfl : j = s.size := by omega
      have Hr : Hid (hasB l c = false) := by
        show l.contains c = false
        rw [Bool.eq_false_iff]
        intro e
        rw [List.contains_iff_mem] at e
        obtain ⟨i, hi⟩ := List.getElem?_of_mem e
        exact Hno.out i (by rw [Hsz.out]; exact (List.getElem?_eq_some_iff.1 hi).1) hi
      go_wp2
      go_ret
      exact ⟨by rw [Hr.out]; rfl, rfl⟩
end Go.Proofs.Ytpkgeidenkjnfaa
