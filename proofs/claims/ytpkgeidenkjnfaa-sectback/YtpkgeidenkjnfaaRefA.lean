/-
  bobbinref06: fields, number, put, value, has, Light.
-/
import Derived.Test.YtpkgeidenkjnfaaDecR3
import Derived.Test.YtpkgeidenkjnfaaRefPut6
namespace Go.Proofs.Ytpkgeidenkjnfaa
open Go Go.RowKit

/-- A kind's fields by letters. -/
def lettersOf (k : Int) : Array UInt8 :=
  if k = 1 then #[116, 118, 112, 107, 79, 78]
  else if k = 2 then #[116, 110, 112, 107, 78]
  else if k = 3 ∨ k = 4 ∨ k = 5 then #[116]
  else if k = 6 ∨ k = 10 then #[112, 103, 108, 97]
  else if k = 7 then #[]
  else if k = 8 then #[116, 115, 118, 110]
  else if k = 9 then #[112, 97]
  else if k = 11 then #[97]
  else #[63]

theorem fields_kind' {k : Int} {fl : List Fld} (h : fieldsOf k = some fl) : k = 1 ∨ k = 2 ∨ k = 3 ∨ k = 4 ∨ k = 5 ∨ k = 6 ∨ k = 7 ∨ k = 8 ∨ k = 9 ∨ k = 10 ∨ k = 11 := by
  unfold fieldsOf at h
  repeat' split at h
  all_goals first | omega | cases h

set_option maxRecDepth 100000 in
theorem rfields_ok (w : World) (k : Int) :
    Calls Try.prog 57 #[.int .i64 k] w fun e w' => e = .returned (.string ⟨lettersOf k⟩) ∧ w = w' := by
  cases hf : fieldsOf k with
  | none =>
    obtain ⟨k1, k2, k3, k4, k5, k6, k7, k8, k9, k10, k11⟩ := noKind hf
    have He : Hid (lettersOf k = #[63]) := by
      show _ = _
      simp only [beq_eq_false_iff_ne] at k1 k2 k3 k4 k5 k6 k7 k8 k9 k10 k11
      simp [lettersOf, k1, k2, k3, k4, k5, k6, k7, k8, k9, k10, k11]
    clear hf
    go_enter Try.func57, Try.ntmps57
    go_wp2
    go_ret
    exact ⟨by rw [He.out]; rfl, rfl⟩
  | some fl =>
    have hk := fields_kind' hf
    rcases hk with rfl | rfl | rfl | rfl | rfl | rfl | rfl | rfl | rfl | rfl | rfl
    all_goals
      clear hf
      go_enter Try.func57, Try.ntmps57
      go_wp2
      go_ret
      exact ⟨rfl, rfl⟩

/-- A letter's cell and width. -/
def letter (i : Nat) : UInt8 := if i = 1 then 116 else if i = 2 then 115 else if i = 3 then 112 else if i = 4 then 107 else if i = 5 then 103 else if i = 6 then 108 else if i = 7 then 118 else if i = 8 then 110 else 97
def width (i : Nat) : Nat := if i = 4 then 2 else if i ≤ 6 then 1 else 4

set_option maxRecDepth 100000 in
theorem rnumber_1 (w : World) (x : RcD) :
    Calls Try.prog 47 #[x.val, .int .u8 (letter 1).toNat] w fun e w' => e = .returned (.tuple #[.int .i64 (x.f 1), .int .i64 (width 1 : Nat)]) ∧ w' = w.alloc (.cells x.cells 45) := by
  show Calls Try.prog 47 #[x.val, .int .u8 116] w fun e w' => e = .returned (.tuple #[.int .i64 (x.f 1), .int .i64 1]) ∧ w' = w.alloc (.cells x.cells 45)
  go_enter Try.func47, Try.ntmps47
  go_wp2
  go_ret2
  exact ⟨rfl, rfl⟩
set_option maxRecDepth 100000 in
theorem rnumber_2 (w : World) (x : RcD) :
    Calls Try.prog 47 #[x.val, .int .u8 (letter 2).toNat] w fun e w' => e = .returned (.tuple #[.int .i64 (x.f 2), .int .i64 (width 2 : Nat)]) ∧ w' = w.alloc (.cells x.cells 45) := by
  show Calls Try.prog 47 #[x.val, .int .u8 115] w fun e w' => e = .returned (.tuple #[.int .i64 (x.f 2), .int .i64 1]) ∧ w' = w.alloc (.cells x.cells 45)
  go_enter Try.func47, Try.ntmps47
  go_wp2
  go_ret2
  exact ⟨rfl, rfl⟩
set_option maxRecDepth 100000 in
theorem rnumber_3 (w : World) (x : RcD) :
    Calls Try.prog 47 #[x.val, .int .u8 (letter 3).toNat] w fun e w' => e = .returned (.tuple #[.int .i64 (x.f 3), .int .i64 (width 3 : Nat)]) ∧ w' = w.alloc (.cells x.cells 45) := by
  show Calls Try.prog 47 #[x.val, .int .u8 112] w fun e w' => e = .returned (.tuple #[.int .i64 (x.f 3), .int .i64 1]) ∧ w' = w.alloc (.cells x.cells 45)
  go_enter Try.func47, Try.ntmps47
  go_wp2
  go_ret2
  exact ⟨rfl, rfl⟩
set_option maxRecDepth 100000 in
theorem rnumber_4 (w : World) (x : RcD) :
    Calls Try.prog 47 #[x.val, .int .u8 (letter 4).toNat] w fun e w' => e = .returned (.tuple #[.int .i64 (x.f 4), .int .i64 (width 4 : Nat)]) ∧ w' = w.alloc (.cells x.cells 45) := by
  show Calls Try.prog 47 #[x.val, .int .u8 107] w fun e w' => e = .returned (.tuple #[.int .i64 (x.f 4), .int .i64 2]) ∧ w' = w.alloc (.cells x.cells 45)
  go_enter Try.func47, Try.ntmps47
  go_wp2
  go_ret2
  exact ⟨rfl, rfl⟩
set_option maxRecDepth 100000 in
theorem rnumber_5 (w : World) (x : RcD) :
    Calls Try.prog 47 #[x.val, .int .u8 (letter 5).toNat] w fun e w' => e = .returned (.tuple #[.int .i64 (x.f 5), .int .i64 (width 5 : Nat)]) ∧ w' = w.alloc (.cells x.cells 45) := by
  show Calls Try.prog 47 #[x.val, .int .u8 103] w fun e w' => e = .returned (.tuple #[.int .i64 (x.f 5), .int .i64 1]) ∧ w' = w.alloc (.cells x.cells 45)
  go_enter Try.func47, Try.ntmps47
  go_wp2
  go_ret2
  exact ⟨rfl, rfl⟩
set_option maxRecDepth 100000 in
theorem rnumber_6 (w : World) (x : RcD) :
    Calls Try.prog 47 #[x.val, .int .u8 (letter 6).toNat] w fun e w' => e = .returned (.tuple #[.int .i64 (x.f 6), .int .i64 (width 6 : Nat)]) ∧ w' = w.alloc (.cells x.cells 45) := by
  show Calls Try.prog 47 #[x.val, .int .u8 108] w fun e w' => e = .returned (.tuple #[.int .i64 (x.f 6), .int .i64 1]) ∧ w' = w.alloc (.cells x.cells 45)
  go_enter Try.func47, Try.ntmps47
  go_wp2
  go_ret2
  exact ⟨rfl, rfl⟩
set_option maxRecDepth 100000 in
theorem rnumber_7 (w : World) (x : RcD) :
    Calls Try.prog 47 #[x.val, .int .u8 (letter 7).toNat] w fun e w' => e = .returned (.tuple #[.int .i64 (x.f 7), .int .i64 (width 7 : Nat)]) ∧ w' = w.alloc (.cells x.cells 45) := by
  show Calls Try.prog 47 #[x.val, .int .u8 118] w fun e w' => e = .returned (.tuple #[.int .i64 (x.f 7), .int .i64 4]) ∧ w' = w.alloc (.cells x.cells 45)
  go_enter Try.func47, Try.ntmps47
  go_wp2
  go_ret2
  exact ⟨rfl, rfl⟩
set_option maxRecDepth 100000 in
theorem rnumber_8 (w : World) (x : RcD) :
    Calls Try.prog 47 #[x.val, .int .u8 (letter 8).toNat] w fun e w' => e = .returned (.tuple #[.int .i64 (x.f 8), .int .i64 (width 8 : Nat)]) ∧ w' = w.alloc (.cells x.cells 45) := by
  show Calls Try.prog 47 #[x.val, .int .u8 110] w fun e w' => e = .returned (.tuple #[.int .i64 (x.f 8), .int .i64 4]) ∧ w' = w.alloc (.cells x.cells 45)
  go_enter Try.func47, Try.ntmps47
  go_wp2
  go_ret2
  exact ⟨rfl, rfl⟩
set_option maxRecDepth 100000 in
theorem rnumber_9 (w : World) (x : RcD) :
    Calls Try.prog 47 #[x.val, .int .u8 (letter 9).toNat] w fun e w' => e = .returned (.tuple #[.int .i64 (x.f 9), .int .i64 (width 9 : Nat)]) ∧ w' = w.alloc (.cells x.cells 45) := by
  show Calls Try.prog 47 #[x.val, .int .u8 97] w fun e w' => e = .returned (.tuple #[.int .i64 (x.f 9), .int .i64 4]) ∧ w' = w.alloc (.cells x.cells 45)
  go_enter Try.func47, Try.ntmps47
  go_wp2
  go_ret2
  exact ⟨rfl, rfl⟩

theorem rnumber_ok (w : World) (x : RcD) (i : Nat) (h1 : 1 ≤ i) (h9 : i ≤ 9) :
    Calls Try.prog 47 #[x.val, .int .u8 (letter i).toNat] w fun e w' => e = .returned (.tuple #[.int .i64 (x.f i), .int .i64 (width i : Nat)]) ∧ Mod (fun _ => False) w w' := by
  have key : Calls Try.prog 47 #[x.val, .int .u8 (letter i).toNat] w fun e w' => e = .returned (.tuple #[.int .i64 (x.f i), .int .i64 (width i : Nat)]) ∧ w' = w.alloc (.cells x.cells 45) := by
    match i, h1, h9 with
    | 1, _, _ => exact rnumber_1 w x
    | 2, _, _ => exact rnumber_2 w x
    | 3, _, _ => exact rnumber_3 w x
    | 4, _, _ => exact rnumber_4 w x
    | 5, _, _ => exact rnumber_5 w x
    | 6, _, _ => exact rnumber_6 w x
    | 7, _, _ => exact rnumber_7 w x
    | 8, _, _ => exact rnumber_8 w x
    | 9, _, _ => exact rnumber_9 w x
  exact key.mono fun e w' ⟨he, hw⟩ => ⟨he, by rw [hw]; exact (Mod.refl _ w).alloc _⟩

set_option maxRecDepth 100000 in
theorem rlight_ok (w : World) (x : RcD) :
    Calls Try.prog 23 #[x.val, .int .i64 200] w fun e w' => e = .returned (.bool (decide ((x.o.m : Int) ≤ 200) && decide ((x.v.m : Int) ≤ 200))) ∧ Mod (fun _ => False) w w' := by
  have Ha : Hid (Mod (fun _ => False) w (w.alloc (.cells x.cells 45))) := (Mod.refl _ w).alloc _
  by_cases h : (x.o.m : Int) ≤ 200
  · have Hd : Hid (decide ((x.o.m : Int) ≤ 200) = true) := by show _ = _; simpa using h
    go_enter Try.func23, Try.ntmps23
    go_wp2
    go_ret
    exact ⟨by rw [Hd.out, Bool.true_and]; rfl, Ha.out⟩
  · have Hd : Hid (decide ((x.o.m : Int) ≤ 200) = false) := by show _ = _; simpa using h
    go_enter Try.func23, Try.ntmps23
    go_wp2
    go_ret
    exact ⟨by rw [Hd.out, Bool.false_and]; rfl, Ha.out⟩

end Go.Proofs.Ytpkgeidenkjnfaa
