/-
  rec.Decode, a part of its ways.
  The contracts of bobbinref01.power and Put.
  bobbinref06: fields, number, put, value, has, Light.
  bobbinref05.Vals; bobbinref06.Same.
  Plain mathematics of records and their bytes: what was encoded is decoded to the same; what is decoded is encoded to the same bytes; a piece of it is short.
  What is decoded may be, and is encoded to the same bytes; a piece of it is short. Sizes.
  Words for the laws' walks: an answer of Same that is true; sizes.
-/
import Derived.Test.YtnbamljaiahmdaaGreatQDecA
import Derived.Test.YtnbamljaiahmdaaGreatQDecB
import Derived.Test.YtnbamljaiahmdaaGreatQDecC
import Derived.Test.YtnbamljaiahmdaaGreatQDecD
import Derived.Test.YtnbamljaiahmdaaGreatQA
import Derived.Test.YtnbamljaiahmdaaGreatQDec
import Derived.Deep.RegionHeld3
import Derived.Test.YtnbamljaiahmdaaGreatQEnc
namespace Go.Proofs.YtnbamljaiahmdaaGreat
open Go Go.RowKit Go.Shelf

theorem decode_ok (w : World) (A : Option Addr) (n c : Nat) (xs : List UInt8) (h : Sl w A n c xs) (hn : n ≤ 1000000) :
    Calls Tryz.prog 91 #[.slice A n c] w fun e w' => DecAns w w' e (decode xs) ∧ Mod (fun _ => False) w w' := by
  cases xs with
  | nil => exact decode_nil w A n c h hn
  | cons b ys =>
    cases hfl : fieldsOf b.toNat with
    | none => exact decode_none w A n c b ys hfl h hn
    | some fl =>
      cases hs : fl.foldl decStep (.got ⟨b.toNat, fun _ => 0, Vl.none, Vl.none⟩ ys) with
      | bad er => exact decode_bad w A n c b ys fl hfl er hs h hn
      | got r rest =>
        cases rest with
        | nil => exact decode_whole w A n c b ys fl hfl r hs h hn
        | cons b2 rest2 => exact decode_more w A n c b ys fl hfl r b2 rest2 hs h hn
end Go.Proofs.YtnbamljaiahmdaaGreat

namespace Go.Proofs.YtnbamljaiahmdaaGreat
open Go Go.RowKit


/-- 256 by itself, k times. -/
def pw (k : Nat) : Int := ((256 ^ k : Nat) : Int)
theorem pw_bd (k : Nat) (hk : k ≤ 4) : 0 < pw k ∧ pw k ≤ 4294967296 := by
  unfold pw
  have h1 : (256 : Nat) ^ k ≤ 256 ^ 4 := Nat.pow_le_pow_right (by omega) hk
  have h2 : 0 < (256 : Nat) ^ k := Nat.pow_pos (by omega)
  generalize (256 : Nat) ^ k = q at *
  omega
theorem pw_succ (k : Nat) : pw (k + 1) = pw k * 256 := by
  unfold pw
  rw [Nat.pow_succ, Int.natCast_mul]
  rfl

set_option maxRecDepth 100000 in
theorem power_ok (w : World) (k : Nat) (hk : k ≤ 4) :
    Calls Tryz.prog 65 #[.int .i64 k] w fun e w' => e = .returned (.int .i64 (pw k)) ∧ w = w' := by
  go_enter Tryz.func65, Tryz.ntmps65
  go_wp2
  go_loop [3, 4] (fun a i => ∃ j : Nat, j ≤ k ∧ i = .int .i64 j ∧ a = .int .i64 (pw j)) (fun _ i => 4 - (intOf i).toNat)
  case atStart => exact ⟨0, by omega, rfl, rfl⟩
  case round =>
    obtain ⟨j, hj, rfl, rfl⟩ := hrel
    by_cases hlt : j < k
    · obtain ⟨hb0, hb1⟩ := pw_bd j (by omega)
      go_wp2
      go_round
      case rel => exact ⟨j + 1, by omega, by go_num, by rw [pw_succ]⟩
      case measure => simp [intOf]; omega
    · obtain rfl : j = k := by omega
      go_wp2
      go_ret
      exact ⟨rfl, rfl⟩

theorem power_okI (w : World) (k : Int) (h0 : 0 ≤ k) (h4 : k ≤ 4) :
    Calls Tryz.prog 65 #[.int .i64 k] w fun e w' => e = .returned (.int .i64 (pw k.toNat)) ∧ w = w' := by
  obtain ⟨m, rfl⟩ := Int.eq_ofNat_of_zero_le h0
  exact power_ok w m (by omega)

theorem widthOk_cases {k : Int} (h : widthOk k = true) : k = 1 ∨ k = 2 ∨ k = 4 := by simpa [widthOk, or_assoc] using h
theorem widthOk_ne {k : Int} (h : widthOk k = false) : (k != 1) = true ∧ (k != 2) = true ∧ (k != 4) = true := by
  simp only [widthOk, Bool.or_eq_false_iff, decide_eq_false_iff_not] at h
  simp only [bne_iff_ne]
  exact ⟨h.1.1, h.1.2, h.2⟩

set_option maxRecDepth 100000 in
set_option maxHeartbeats 400000 in
theorem refPut_no (w : World) (n k : Int) (h : widthOk k = false ∨ n < 0 ∨ pw k.toNat ≤ n) :
    Calls Tryz.prog 83 #[.int .i64 n, .int .i64 k] w fun e w' => e = .returned (.tuple #[.slice none 0 0, .int .i64 1]) ∧ w = w' := by
  by_cases hk : widthOk k = false
  · obtain ⟨k1, k2, k4⟩ := widthOk_ne hk
    clear h hk
    go_enter Tryz.func83, Tryz.ntmps83
    go_wp2_with fail
    go_ret2
    exact ⟨rfl, rfl⟩
  · have h' := h.resolve_left hk
    have hk3 := widthOk_cases (by simpa using hk)
    clear h hk
    by_cases hn : n < 0
    · have hd : decide (n < 0) = true := by simpa using hn
      clear h' hn
      rcases hk3 with rfl | rfl | rfl
      all_goals
        go_enter Tryz.func83, Tryz.ntmps83
        go_wp2_with fail
        go_ret2
        exact ⟨rfl, rfl⟩
    · have hd : decide (n < 0) = false := by simpa using hn
      have h2 := h'.resolve_left hn
      clear h' hn
      rcases hk3 with rfl | rfl | rfl
      all_goals
        simp only [Int.reduceToNat] at h2
        go_enter Tryz.func83, Tryz.ntmps83
        go_wp2_with (go_at_call 65; refine (power_okI _ _ (by omega) (by omega)).mono ?_; rintro e w' ⟨rfl, rfl⟩)
        go_ret2
        exact ⟨rfl, rfl⟩

/-- What is left of n behind j bytes. -/
def sh (n : Int) (j : Nat) : Int := ((n.toNat / 256 ^ j : Nat) : Int)
theorem sh_bd (n : Int) (j : Nat) (h0 : 0 ≤ n) : 0 ≤ sh n j ∧ sh n j ≤ n := by
  unfold sh
  have := Nat.div_le_self n.toNat (256 ^ j)
  generalize n.toNat / 256 ^ j = q at *
  omega
theorem sh_zero (n : Int) (h0 : 0 ≤ n) : sh n 0 = n := by unfold sh; simp; omega
theorem sh_succ (n : Int) (j : Nat) : sh n (j + 1) = sh n j / 256 := by
  unfold sh
  rw [Nat.pow_succ, ← Nat.div_div_eq_div_mul, Int.natCast_ediv]
  rfl
theorem sh_byte (n : Int) (j : Nat) : sh n j % 256 = ((UInt8.ofNat (n.toNat / 256 ^ j)).toNat : Int) := by
  unfold sh
  rw [UInt8.toNat_ofNat', Int.natCast_emod]
  rfl

set_option maxRecDepth 100000 in
set_option maxHeartbeats 800000 in
theorem refPut_ok1 (w : World) (n : Int) (hn0 : 0 ≤ n) (hn : n < pw 1) :
    Calls Tryz.prog 83 #[.int .i64 n, .int .i64 1] w fun e w' => ∃ A c, e = .returned (.tuple #[.slice A 1 c, .int .i64 0]) ∧ FreshR w w' A 1 c (le 1 n.toNat) := by
  have hd : decide (n < 0) = false := by simpa using hn0
  have hle : n ≤ 4294967296 := by have := pw_bd 1 (by omega); omega
  have hsb := fun j => sh_bd n j hn0
  have Hsb := Lib.hid hsb
  have Hs0 := Lib.hid (sh_zero n hn0)
  clear hsb
  go_enter Tryz.func83, Tryz.ntmps83
  go_wp2_with (go_at_call 65; refine (power_okI _ _ (by omega) (by omega)).mono ?_; rintro e w' ⟨rfl, rfl⟩)
  clear hd
  go_loopw [6, 7, 0] (fun out i v wr => ∃ (j : Nat) (A : Option Addr) (c : Nat), j ≤ 1 ∧ i = .int .i64 j ∧ out = .slice A j c ∧ v = .int .i64 (sh n j) ∧ OwV wr w.heap.size 5 A j c ((le j n.toNat).map bv) ∧ Mod (fun _ => False) w wr) (fun _ i _ _ => 4 - (intOf i).toNat)
  case atStart => exact ⟨0, none, 0, by omega, rfl, rfl, by rw [Hs0.out], OwV.nil _ _ _, Mod.refl _ _⟩
  case round =>
    obtain ⟨j, A, c, hj, rfl, rfl, rfl, hown, hmod⟩ := hrel
    by_cases hlt : j < 1
    · obtain ⟨hs1, hs2⟩ := Hsb.out j
      have hsz := hmod.size
      have hown1 : OwV (wr.alloc (.cells #[.int .u8 (sh n j % 256)] 5)) w.heap.size 5 A j c ((le j n.toNat).map bv) := hown.alloc _
      have hsrc := Src.one wr (.int .u8 (sh n j % 256)) 5 rfl
      have hml : j + 1 ≤ maxLen := by unfold maxLen; omega
      have hbase : w.heap.size ≤ (wr.alloc (.cells #[.int .u8 (sh n j % 256)] 5)).heap.size := by simp; omega
      go_wp2_with (at_builtin; refine wpList_app (.tmp 33) (.tmp 37) byteElem rfl rfl rfl rfl hown1 hsrc (by omega) hml hbase ?_)
      intro A' c' w' hown' hgr hat
      have hm2 : Mod (fun _ => False) w w' := (hmod.alloc (.cells #[.int .u8 (sh n j % 256)] 5)).grown hgr (fun k e hk => by have := (hown.lt k e).1; omega)
      clear hat hown1 hsrc hown hgr
      go_wp2
      go_roundw
      case rel =>
        refine ⟨j + 1, A', c', by omega, by go_num, rfl, by rw [sh_succ], ?_, hm2⟩
        rw [le_snoc, List.map_append, List.map_cons, List.map_nil]
        rw [sh_byte] at hown'
        exact hown'
      case measure => simp [intOf]; omega
    · obtain rfl : j = 1 := by omega
      go_wp2
      go_ret2
      exact ⟨A, c, rfl, hown, hmod⟩

set_option maxRecDepth 100000 in
set_option maxHeartbeats 800000 in
theorem refPut_ok2 (w : World) (n : Int) (hn0 : 0 ≤ n) (hn : n < pw 2) :
    Calls Tryz.prog 83 #[.int .i64 n, .int .i64 2] w fun e w' => ∃ A c, e = .returned (.tuple #[.slice A 2 c, .int .i64 0]) ∧ FreshR w w' A 2 c (le 2 n.toNat) := by
  have hd : decide (n < 0) = false := by simpa using hn0
  have hle : n ≤ 4294967296 := by have := pw_bd 2 (by omega); omega
  have hsb := fun j => sh_bd n j hn0
  have Hsb := Lib.hid hsb
  have Hs0 := Lib.hid (sh_zero n hn0)
  clear hsb
  go_enter Tryz.func83, Tryz.ntmps83
  go_wp2_with (go_at_call 65; refine (power_okI _ _ (by omega) (by omega)).mono ?_; rintro e w' ⟨rfl, rfl⟩)
  clear hd
  go_loopw [6, 7, 0] (fun out i v wr => ∃ (j : Nat) (A : Option Addr) (c : Nat), j ≤ 2 ∧ i = .int .i64 j ∧ out = .slice A j c ∧ v = .int .i64 (sh n j) ∧ OwV wr w.heap.size 5 A j c ((le j n.toNat).map bv) ∧ Mod (fun _ => False) w wr) (fun _ i _ _ => 4 - (intOf i).toNat)
  case atStart => exact ⟨0, none, 0, by omega, rfl, rfl, by rw [Hs0.out], OwV.nil _ _ _, Mod.refl _ _⟩
  case round =>
    obtain ⟨j, A, c, hj, rfl, rfl, rfl, hown, hmod⟩ := hrel
    by_cases hlt : j < 2
    · obtain ⟨hs1, hs2⟩ := Hsb.out j
      have hsz := hmod.size
      have hown1 : OwV (wr.alloc (.cells #[.int .u8 (sh n j % 256)] 5)) w.heap.size 5 A j c ((le j n.toNat).map bv) := hown.alloc _
      have hsrc := Src.one wr (.int .u8 (sh n j % 256)) 5 rfl
      have hml : j + 1 ≤ maxLen := by unfold maxLen; omega
      have hbase : w.heap.size ≤ (wr.alloc (.cells #[.int .u8 (sh n j % 256)] 5)).heap.size := by simp; omega
      go_wp2_with (at_builtin; refine wpList_app (.tmp 33) (.tmp 37) byteElem rfl rfl rfl rfl hown1 hsrc (by omega) hml hbase ?_)
      intro A' c' w' hown' hgr hat
      have hm2 : Mod (fun _ => False) w w' := (hmod.alloc (.cells #[.int .u8 (sh n j % 256)] 5)).grown hgr (fun k e hk => by have := (hown.lt k e).1; omega)
      clear hat hown1 hsrc hown hgr
      go_wp2
      go_roundw
      case rel =>
        refine ⟨j + 1, A', c', by omega, by go_num, rfl, by rw [sh_succ], ?_, hm2⟩
        rw [le_snoc, List.map_append, List.map_cons, List.map_nil]
        rw [sh_byte] at hown'
        exact hown'
      case measure => simp [intOf]; omega
    · obtain rfl : j = 2 := by omega
      go_wp2
      go_ret2
      exact ⟨A, c, rfl, hown, hmod⟩

set_option maxRecDepth 100000 in
set_option maxHeartbeats 800000 in
theorem refPut_ok4 (w : World) (n : Int) (hn0 : 0 ≤ n) (hn : n < pw 4) :
    Calls Tryz.prog 83 #[.int .i64 n, .int .i64 4] w fun e w' => ∃ A c, e = .returned (.tuple #[.slice A 4 c, .int .i64 0]) ∧ FreshR w w' A 4 c (le 4 n.toNat) := by
  have hd : decide (n < 0) = false := by simpa using hn0
  have hle : n ≤ 4294967296 := by have := pw_bd 4 (by omega); omega
  have hsb := fun j => sh_bd n j hn0
  have Hsb := Lib.hid hsb
  have Hs0 := Lib.hid (sh_zero n hn0)
  clear hsb
  go_enter Tryz.func83, Tryz.ntmps83
  go_wp2_with (go_at_call 65; refine (power_okI _ _ (by omega) (by omega)).mono ?_; rintro e w' ⟨rfl, rfl⟩)
  clear hd
  go_loopw [6, 7, 0] (fun out i v wr => ∃ (j : Nat) (A : Option Addr) (c : Nat), j ≤ 4 ∧ i = .int .i64 j ∧ out = .slice A j c ∧ v = .int .i64 (sh n j) ∧ OwV wr w.heap.size 5 A j c ((le j n.toNat).map bv) ∧ Mod (fun _ => False) w wr) (fun _ i _ _ => 4 - (intOf i).toNat)
  case atStart => exact ⟨0, none, 0, by omega, rfl, rfl, by rw [Hs0.out], OwV.nil _ _ _, Mod.refl _ _⟩
  case round =>
    obtain ⟨j, A, c, hj, rfl, rfl, rfl, hown, hmod⟩ := hrel
    by_cases hlt : j < 4
    · obtain ⟨hs1, hs2⟩ := Hsb.out j
      have hsz := hmod.size
      have hown1 : OwV (wr.alloc (.cells #[.int .u8 (sh n j % 256)] 5)) w.heap.size 5 A j c ((le j n.toNat).map bv) := hown.alloc _
      have hsrc := Src.one wr (.int .u8 (sh n j % 256)) 5 rfl
      have hml : j + 1 ≤ maxLen := by unfold maxLen; omega
      have hbase : w.heap.size ≤ (wr.alloc (.cells #[.int .u8 (sh n j % 256)] 5)).heap.size := by simp; omega
      go_wp2_with (at_builtin; refine wpList_app (.tmp 33) (.tmp 37) byteElem rfl rfl rfl rfl hown1 hsrc (by omega) hml hbase ?_)
      intro A' c' w' hown' hgr hat
      have hm2 : Mod (fun _ => False) w w' := (hmod.alloc (.cells #[.int .u8 (sh n j % 256)] 5)).grown hgr (fun k e hk => by have := (hown.lt k e).1; omega)
      clear hat hown1 hsrc hown hgr
      go_wp2
      go_roundw
      case rel =>
        refine ⟨j + 1, A', c', by omega, by go_num, rfl, by rw [sh_succ], ?_, hm2⟩
        rw [le_snoc, List.map_append, List.map_cons, List.map_nil]
        rw [sh_byte] at hown'
        exact hown'
      case measure => simp [intOf]; omega
    · obtain rfl : j = 4 := by omega
      go_wp2
      go_ret2
      exact ⟨A, c, rfl, hown, hmod⟩

theorem refPut_ok (w : World) (n k : Int) (hk : widthOk k = true) (hn0 : 0 ≤ n) (hn : n < pw k.toNat) :
    Calls Tryz.prog 83 #[.int .i64 n, .int .i64 k] w fun e w' => ∃ A c, e = .returned (.tuple #[.slice A k.toNat c, .int .i64 0]) ∧ FreshR w w' A k.toNat c (le k.toNat n.toNat) := by
  rcases widthOk_cases hk with rfl | rfl | rfl
  · exact refPut_ok1 w n hn0 hn
  · exact refPut_ok2 w n hn0 hn
  · exact refPut_ok4 w n hn0 hn
end Go.Proofs.YtnbamljaiahmdaaGreat

namespace Go.Proofs.YtnbamljaiahmdaaGreat
open Go Go.RowKit

/-- A kind's fields by letters. -/
def lettersOf (k : Int) : Array UInt8 :=
  if k = 1 then #[116, 118, 112, 107, 79, 78]
  else if k = 2 then #[116, 110, 112, 107, 78]
  else if k = 3 ∨ k = 4 ∨ k = 5 then #[116]
  else if k = 6 ∨ k = 10 then #[112, 103, 108, 97]
  else if k = 7 then #[]
  else if k = 8 then #[116, 115, 118, 110]
  else if k = 9 then #[112, 97]
  else if k = 11 then #[97]
  else #[63]

theorem fields_kind' {k : Int} {fl : List Fld} (h : fieldsOf k = some fl) : k = 1 ∨ k = 2 ∨ k = 3 ∨ k = 4 ∨ k = 5 ∨ k = 6 ∨ k = 7 ∨ k = 8 ∨ k = 9 ∨ k = 10 ∨ k = 11 := by
  unfold fieldsOf at h
  repeat' split at h
  all_goals first | omega | cases h

set_option maxRecDepth 100000 in
theorem rfields_ok (w : World) (k : Int) :
    Calls Tryz.prog 66 #[.int .i64 k] w fun e w' => e = .returned (.string ⟨lettersOf k⟩) ∧ w = w' := by
  cases hf : fieldsOf k with
  | none =>
    obtain ⟨k1, k2, k3, k4, k5, k6, k7, k8, k9, k10, k11⟩ := noKind hf
    have He : Hid (lettersOf k = #[63]) := by
      show _ = _
      simp only [beq_eq_false_iff_ne] at k1 k2 k3 k4 k5 k6 k7 k8 k9 k10 k11
      simp [lettersOf, k1, k2, k3, k4, k5, k6, k7, k8, k9, k10, k11]
    clear hf
    go_enter Tryz.func66, Tryz.ntmps66
    go_wp2
    go_ret
    exact ⟨by rw [He.out]; rfl, rfl⟩
  | some fl =>
    have hk := fields_kind' hf
    rcases hk with rfl | rfl | rfl | rfl | rfl | rfl | rfl | rfl | rfl | rfl | rfl
    all_goals
      clear hf
      go_enter Tryz.func66, Tryz.ntmps66
      go_wp2
      go_ret
      exact ⟨rfl, rfl⟩

/-- A letter's cell and width. -/
def letter (i : Nat) : UInt8 := if i = 1 then 116 else if i = 2 then 115 else if i = 3 then 112 else if i = 4 then 107 else if i = 5 then 103 else if i = 6 then 108 else if i = 7 then 118 else if i = 8 then 110 else 97
def width (i : Nat) : Nat := if i = 4 then 2 else if i ≤ 6 then 1 else 4

set_option maxRecDepth 100000 in
theorem rnumber_1 (w : World) (x : RcD) :
    Calls Tryz.prog 50 #[x.val, .int .u8 (letter 1).toNat] w fun e w' => e = .returned (.tuple #[.int .i64 (x.f 1), .int .i64 (width 1 : Nat)]) ∧ w' = w.alloc (.cells x.cells 47) := by
  show Calls Tryz.prog 50 #[x.val, .int .u8 116] w fun e w' => e = .returned (.tuple #[.int .i64 (x.f 1), .int .i64 1]) ∧ w' = w.alloc (.cells x.cells 47)
  go_enter Tryz.func50, Tryz.ntmps50
  go_wp2
  go_ret2
  exact ⟨rfl, rfl⟩
set_option maxRecDepth 100000 in
theorem rnumber_2 (w : World) (x : RcD) :
    Calls Tryz.prog 50 #[x.val, .int .u8 (letter 2).toNat] w fun e w' => e = .returned (.tuple #[.int .i64 (x.f 2), .int .i64 (width 2 : Nat)]) ∧ w' = w.alloc (.cells x.cells 47) := by
  show Calls Tryz.prog 50 #[x.val, .int .u8 115] w fun e w' => e = .returned (.tuple #[.int .i64 (x.f 2), .int .i64 1]) ∧ w' = w.alloc (.cells x.cells 47)
  go_enter Tryz.func50, Tryz.ntmps50
  go_wp2
  go_ret2
  exact ⟨rfl, rfl⟩
set_option maxRecDepth 100000 in
theorem rnumber_3 (w : World) (x : RcD) :
    Calls Tryz.prog 50 #[x.val, .int .u8 (letter 3).toNat] w fun e w' => e = .returned (.tuple #[.int .i64 (x.f 3), .int .i64 (width 3 : Nat)]) ∧ w' = w.alloc (.cells x.cells 47) := by
  show Calls Tryz.prog 50 #[x.val, .int .u8 112] w fun e w' => e = .returned (.tuple #[.int .i64 (x.f 3), .int .i64 1]) ∧ w' = w.alloc (.cells x.cells 47)
  go_enter Tryz.func50, Tryz.ntmps50
  go_wp2
  go_ret2
  exact ⟨rfl, rfl⟩
set_option maxRecDepth 100000 in
theorem rnumber_4 (w : World) (x : RcD) :
    Calls Tryz.prog 50 #[x.val, .int .u8 (letter 4).toNat] w fun e w' => e = .returned (.tuple #[.int .i64 (x.f 4), .int .i64 (width 4 : Nat)]) ∧ w' = w.alloc (.cells x.cells 47) := by
  show Calls Tryz.prog 50 #[x.val, .int .u8 107] w fun e w' => e = .returned (.tuple #[.int .i64 (x.f 4), .int .i64 2]) ∧ w' = w.alloc (.cells x.cells 47)
  go_enter Tryz.func50, Tryz.ntmps50
  go_wp2
  go_ret2
  exact ⟨rfl, rfl⟩
set_option maxRecDepth 100000 in
theorem rnumber_5 (w : World) (x : RcD) :
    Calls Tryz.prog 50 #[x.val, .int .u8 (letter 5).toNat] w fun e w' => e = .returned (.tuple #[.int .i64 (x.f 5), .int .i64 (width 5 : Nat)]) ∧ w' = w.alloc (.cells x.cells 47) := by
  show Calls Tryz.prog 50 #[x.val, .int .u8 103] w fun e w' => e = .returned (.tuple #[.int .i64 (x.f 5), .int .i64 1]) ∧ w' = w.alloc (.cells x.cells 47)
  go_enter Tryz.func50, Tryz.ntmps50
  go_wp2
  go_ret2
  exact ⟨rfl, rfl⟩
set_option maxRecDepth 100000 in
theorem rnumber_6 (w : World) (x : RcD) :
    Calls Tryz.prog 50 #[x.val, .int .u8 (letter 6).toNat] w fun e w' => e = .returned (.tuple #[.int .i64 (x.f 6), .int .i64 (width 6 : Nat)]) ∧ w' = w.alloc (.cells x.cells 47) := by
  show Calls Tryz.prog 50 #[x.val, .int .u8 108] w fun e w' => e = .returned (.tuple #[.int .i64 (x.f 6), .int .i64 1]) ∧ w' = w.alloc (.cells x.cells 47)
  go_enter Tryz.func50, Tryz.ntmps50
  go_wp2
  go_ret2
  exact ⟨rfl, rfl⟩
set_option maxRecDepth 100000 in
theorem rnumber_7 (w : World) (x : RcD) :
    Calls Tryz.prog 50 #[x.val, .int .u8 (letter 7).toNat] w fun e w' => e = .returned (.tuple #[.int .i64 (x.f 7), .int .i64 (width 7 : Nat)]) ∧ w' = w.alloc (.cells x.cells 47) := by
  show Calls Tryz.prog 50 #[x.val, .int .u8 118] w fun e w' => e = .returned (.tuple #[.int .i64 (x.f 7), .int .i64 4]) ∧ w' = w.alloc (.cells x.cells 47)
  go_enter Tryz.func50, Tryz.ntmps50
  go_wp2
  go_ret2
  exact ⟨rfl, rfl⟩
set_option maxRecDepth 100000 in
theorem rnumber_8 (w : World) (x : RcD) :
    Calls Tryz.prog 50 #[x.val, .int .u8 (letter 8).toNat] w fun e w' => e = .returned (.tuple #[.int .i64 (x.f 8), .int .i64 (width 8 : Nat)]) ∧ w' = w.alloc (.cells x.cells 47) := by
  show Calls Tryz.prog 50 #[x.val, .int .u8 110] w fun e w' => e = .returned (.tuple #[.int .i64 (x.f 8), .int .i64 4]) ∧ w' = w.alloc (.cells x.cells 47)
  go_enter Tryz.func50, Tryz.ntmps50
  go_wp2
  go_ret2
  exact ⟨rfl, rfl⟩
set_option maxRecDepth 100000 in
theorem rnumber_9 (w : World) (x : RcD) :
    Calls Tryz.prog 50 #[x.val, .int .u8 (letter 9).toNat] w fun e w' => e = .returned (.tuple #[.int .i64 (x.f 9), .int .i64 (width 9 : Nat)]) ∧ w' = w.alloc (.cells x.cells 47) := by
  show Calls Tryz.prog 50 #[x.val, .int .u8 97] w fun e w' => e = .returned (.tuple #[.int .i64 (x.f 9), .int .i64 4]) ∧ w' = w.alloc (.cells x.cells 47)
  go_enter Tryz.func50, Tryz.ntmps50
  go_wp2
  go_ret2
  exact ⟨rfl, rfl⟩

theorem rnumber_ok (w : World) (x : RcD) (i : Nat) (h1 : 1 ≤ i) (h9 : i ≤ 9) :
    Calls Tryz.prog 50 #[x.val, .int .u8 (letter i).toNat] w fun e w' => e = .returned (.tuple #[.int .i64 (x.f i), .int .i64 (width i : Nat)]) ∧ Mod (fun _ => False) w w' := by
  have key : Calls Tryz.prog 50 #[x.val, .int .u8 (letter i).toNat] w fun e w' => e = .returned (.tuple #[.int .i64 (x.f i), .int .i64 (width i : Nat)]) ∧ w' = w.alloc (.cells x.cells 47) := by
    match i, h1, h9 with
    | 1, _, _ => exact rnumber_1 w x
    | 2, _, _ => exact rnumber_2 w x
    | 3, _, _ => exact rnumber_3 w x
    | 4, _, _ => exact rnumber_4 w x
    | 5, _, _ => exact rnumber_5 w x
    | 6, _, _ => exact rnumber_6 w x
    | 7, _, _ => exact rnumber_7 w x
    | 8, _, _ => exact rnumber_8 w x
    | 9, _, _ => exact rnumber_9 w x
  exact key.mono fun e w' ⟨he, hw⟩ => ⟨he, by rw [hw]; exact (Mod.refl _ w).alloc _⟩

end Go.Proofs.YtnbamljaiahmdaaGreat

namespace Go.Proofs.YtnbamljaiahmdaaGreat
open Go Go.RowKit

set_option maxRecDepth 100000 in
theorem vals_ok (w : World) (A B : Option Addr) (n m c d : Nat) (xs ys : List UInt8) (p q : Bool) (h : Sl w A n c xs) (k : Sl w B m d ys) (hc : n ≤ 140737488355328) (hd : m ≤ 140737488355328) :
    Calls Tryz.prog 49 #[.agg #[.bool p, .slice A n c], .agg #[.bool q, .slice B m d]] w fun e w' => e = .returned (.bool (eqB xs ys && (p == q))) ∧ Mod (fun _ => False) w w' := by
  have hm : Mod (fun _ => False) w ((w.alloc (.cells #[.bool p, .slice A n c] 45)).alloc (.cells #[.bool q, .slice B m d] 45)) := ((Mod.refl _ w).alloc _).alloc _
  have Hsame := Lib.hid (same_ok _ A B n m c d xs ys (h.mod hm (fun _ _ _ => id)) (k.mod hm (fun _ _ _ => id)) hc hd)
  have Hm := Lib.hid hm
  have hb1 : ((w.alloc (.cells #[.bool p, .slice A n c] 45)).alloc (.cells #[.bool q, .slice B m d] 45)).heap[w.heap.size]? = some (.cells #[.bool p, .slice A n c] 45 (0, 0)) :=
    (Below.heap_alloc _ _ _ (by rw [World.size_alloc]; omega)).trans (heap_alloc_new w _)
  have hb2 : ((w.alloc (.cells #[.bool p, .slice A n c] 45)).alloc (.cells #[.bool q, .slice B m d] 45)).heap[w.heap.size + 1]? = some (.cells #[.bool q, .slice B m d] 45 (0, 0)) := by
    have := heap_alloc_new (w.alloc (.cells #[.bool p, .slice A n c] 45)) (.cells #[.bool q, .slice B m d] 45)
    rw [World.size_alloc] at this
    exact this
  have Hb1 := Lib.hid hb1
  have Hb2 := Lib.hid hb2
  clear h k hm hb1 hb2
  go_enter Tryz.func49, Tryz.ntmps49
  go_wp2_with fail
  obtain ⟨w2, hw2⟩ : ∃ w2, w2 = (w.alloc (.cells #[.bool p, .slice A n c] 45)).alloc (.cells #[.bool q, .slice B m d] 45) := ⟨_, rfl⟩
  rw [← hw2] at Hsame Hm Hb1 Hb2 ⊢
  clear hw2
  refine Hsame.out.mono ?_
  rintro e w3 ⟨rfl, r, rfl⟩
  have p0 : (w2.drewN r).cell? ⟨w.heap.size, 0, none⟩ = some (.bool p) := by show w2.cell? _ = _; rw [cell_of_row _ _ _ _ _ _ Hb1.out]; rfl
  have q0 : (w2.drewN r).cell? ⟨w.heap.size + 1, 0, none⟩ = some (.bool q) := by show w2.cell? _ = _; rw [cell_of_row _ _ _ _ _ _ Hb2.out]; rfl
  have Hm3 := Lib.hid (Hm.out.drewN r)
  generalize w2.drewN r = w3 at *
  cases heq : eqB xs ys with
  | true =>
    have Heq := Lib.hid heq
    clear heq
    go_wp2
    go_ret
    exact ⟨by rw [Heq.out, Bool.true_and]; rfl, Hm3.out⟩
  | false =>
    have Heq := Lib.hid heq
    clear heq
    go_wp2
    go_ret
    exact ⟨by rw [Heq.out]; rfl, Hm3.out⟩

theorem RcD.In.all {w : World} {x : RcD} {g : Nat} (h : x.In w g) : w.cell? ⟨g, 0, none⟩ = some (.int .i64 x.k) ∧ w.cell? ⟨g, 1, none⟩ = some (.int .i64 (x.f 1)) ∧ w.cell? ⟨g, 2, none⟩ = some (.int .i64 (x.f 2)) ∧ w.cell? ⟨g, 3, none⟩ = some (.int .i64 (x.f 3)) ∧ w.cell? ⟨g, 4, none⟩ = some (.int .i64 (x.f 4)) ∧ w.cell? ⟨g, 5, none⟩ = some (.int .i64 (x.f 5)) ∧ w.cell? ⟨g, 6, none⟩ = some (.int .i64 (x.f 6)) ∧ w.cell? ⟨g, 7, none⟩ = some (.int .i64 (x.f 7)) ∧ w.cell? ⟨g, 8, none⟩ = some (.int .i64 (x.f 8)) ∧ w.cell? ⟨g, 9, none⟩ = some (.int .i64 (x.f 9)) ∧ w.cell? ⟨g, 10, none⟩ = some (.bool x.o.is) ∧ w.cell? ⟨g, 11, none⟩ = some (.slice x.o.B x.o.m x.o.d) ∧ w.cell? ⟨g, 12, none⟩ = some (.bool x.v.is) ∧ w.cell? ⟨g, 13, none⟩ = some (.slice x.v.B x.v.m x.v.d) :=
  ⟨h.kind, h.num (by omega) (by omega), h.num (by omega) (by omega), h.num (by omega) (by omega), h.num (by omega) (by omega), h.num (by omega) (by omega), h.num (by omega) (by omega), h.num (by omega) (by omega), h.num (by omega) (by omega), h.num (by omega) (by omega), h.c10, h.c11, h.c12, h.c13⟩
def nine : Array UInt8 := #[116, 115, 112, 107, 103, 108, 118, 110, 97]
theorem nine_at (j : Nat) (h : j < (⟨#[116, 115, 112, 107, 103, 108, 118, 110, 97]⟩ : ByteArray).size) : (⟨#[116, 115, 112, 107, 103, 108, 118, 110, 97]⟩ : ByteArray)[j]'h = letter (j + 1) := by
  have h : j < 9 := h
  match j, h with
  | 0, _ | 1, _ | 2, _ | 3, _ | 4, _ | 5, _ | 6, _ | 7, _ | 8, _ => rfl

/-- Are all numbers the same? -/
def sameN (x y : RcD) : Bool := (x.f 1 == y.f 1) && (x.f 2 == y.f 2) && (x.f 3 == y.f 3) && (x.f 4 == y.f 4) && (x.f 5 == y.f 5) && (x.f 6 == y.f 6) && (x.f 7 == y.f 7) && (x.f 8 == y.f 8) && (x.f 9 == y.f 9)
def sameV (x y : VlD) : Bool := eqB x.vs y.vs && (x.is == y.is)
theorem sameN_no {x y : RcD} {i : Nat} (h1 : 1 ≤ i) (h9 : i ≤ 9) (h : x.f i ≠ y.f i) : sameN x y = false := by
  unfold sameN
  match i, h1, h9 with
  | 1, _, _ | 2, _, _ | 3, _, _ | 4, _, _ | 5, _, _ | 6, _, _ | 7, _, _ | 8, _, _ | 9, _, _ => simp [h]
theorem sameN_yes {x y : RcD} (h : ∀ i, 1 ≤ i → i ≤ 9 → x.f i = y.f i) : sameN x y = true := by
  unfold sameN
  simp [h 1, h 2, h 3, h 4, h 5, h 6, h 7, h 8, h 9]

set_option maxRecDepth 100000 in
set_option maxHeartbeats 2000000 in
theorem rsame_ok (w : World) (x y : RcD) (hx : x.At w) (hy : y.At w) (hxo : x.o.m ≤ 1000000) (hxv : x.v.m ≤ 1000000) (hyo : y.o.m ≤ 1000000) (hyv : y.v.m ≤ 1000000) :
    Calls Tryz.prog 29 #[x.val, y.val] w fun e w' => e = .returned (.bool (sameN x y && (sameV x.o y.o && sameV x.v y.v && (x.k == y.k)))) ∧ Mod (fun _ => False) w w' := by
  obtain ⟨w1, hw1⟩ : ∃ w1, (w.alloc (.cells x.cells 47)).alloc (.cells y.cells 47) = w1 := ⟨_, rfl⟩
  have hm1 : Mod (fun _ => False) w w1 := by rw [← hw1]; exact ((Mod.refl _ w).alloc _).alloc _
  have hX1 : x.In w1 w.heap.size := by rw [← hw1]; exact (RcD.In.new w x).keep ((Mod.refl _ _).alloc _)
  have hY1 : y.In w1 (w.heap.size + 1) := by
    rw [← hw1]
    have := RcD.In.new (w.alloc (.cells x.cells 47)) y
    rw [World.size_alloc] at this
    exact this
  have Hv1 := Lib.hid (vals_ok w1 _ _ _ _ _ _ _ _ x.o.is y.o.is (hx.keep hm1).1 (hy.keep hm1).1 (by omega) (by omega))
  have a10 := hX1.c10
  have a11 := hX1.c11
  have b10 := hY1.c10
  have b11 := hY1.c11
  have HX1 := Lib.hid hX1
  have HY1 := Lib.hid hY1
  have Hm1 := Lib.hid hm1
  have Hx := Lib.hid hx
  have Hy := Lib.hid hy
  clear hX1 hY1 hm1 hx hy
  go_enter Tryz.func29, Tryz.ntmps29
  go_wp2_with fail
  try rw [hw1]
  clear hw1
  refine Hv1.out.mono ?_
  rintro e w2 ⟨rfl, hm2⟩
  have hX2 := HX1.out.keep hm2
  have hY2 := HY1.out.keep hm2
  have Hm2 := Lib.hid (Hm1.out.trans hm2 (fun _ _ h => h))
  have Hv2 := Lib.hid (vals_ok w2 _ _ _ _ _ _ _ _ x.v.is y.v.is (Hx.out.keep Hm2.out).2 (Hy.out.keep Hm2.out).2 (by omega) (by omega))
  have a12 := hX2.c12
  have a13 := hX2.c13
  have b12 := hY2.c12
  have b13 := hY2.c13
  have HX2 := Lib.hid hX2
  have HY2 := Lib.hid hY2
  clear hX2 hY2 hm2 Hv1 a10 a11 b10 b11 HX1 HY1
  go_wp2_with fail
  refine Hv2.out.mono ?_
  rintro e w3 ⟨rfl, hm3⟩
  have HX3 := Lib.hid (HX2.out.keep hm3)
  have HY3 := Lib.hid (HY2.out.keep hm3)
  have Hm3 := Lib.hid (Hm2.out.trans hm3 (fun _ _ h => h))
  clear hm3 Hv2 a12 a13 b12 b13 HX2 HY2
  have Hp : Hid (sameV x.o y.o = (eqB x.o.vs y.o.vs && (x.o.is == y.o.is)) ∧ sameV x.v y.v = (eqB x.v.vs y.v.vs && (x.v.is == y.v.is))) := ⟨rfl, rfl⟩
  rw [← Hp.out.1, ← Hp.out.2]
  generalize hp1 : sameV x.o y.o = P1 at *
  generalize hp2 : sameV x.v y.v = P2 at *
  have Hp1 := Lib.hid hp1
  have Hp2 := Lib.hid hp2
  clear hp1 hp2 Hp
  go_wp2
  go_loopw [8] (fun i wr => ∃ j : Nat, j ≤ 9 ∧ i = .int .i64 j ∧ x.In wr w.heap.size ∧ y.In wr (w.heap.size + 1) ∧ Mod (fun _ => False) w wr ∧ ∀ i, 1 ≤ i → i ≤ j → x.f i = y.f i) (fun i _ => 9 - (intOf i).toNat)
  case atStart => exact ⟨0, by omega, rfl, HX3.out, HY3.out, Hm3.out, fun i h1 h2 => by omega⟩
  case round =>
    obtain ⟨j, hj, rfl, hX, hY, hm, heq⟩ := hrel
    have Heq := Lib.hid heq
    have Hm := Lib.hid hm
    have HX := Lib.hid hX
    have HY := Lib.hid hY
    clear heq hm HX3 HY3 Hm3
    by_cases hlt : j < 9
    · have Hn1 : Hid (∀ (hp : j < (⟨#[116, 115, 112, 107, 103, 108, 118, 110, 97]⟩ : ByteArray).size) (W : World), Calls Tryz.prog 50 #[x.val, .int .u8 ((⟨#[116, 115, 112, 107, 103, 108, 118, 110, 97]⟩ : ByteArray)[j]'hp).toNat] W fun e w' => e = .returned (.tuple #[.int .i64 (x.f (j + 1)), .int .i64 (width (j + 1) : Nat)]) ∧ Mod (fun _ => False) W w') := fun hp W => by
        rw [nine_at j hp]; exact rnumber_ok W x (j + 1) (by omega) (by omega)
      have Hn2 : Hid (∀ (hp : j < (⟨#[116, 115, 112, 107, 103, 108, 118, 110, 97]⟩ : ByteArray).size) (W : World), Calls Tryz.prog 50 #[y.val, .int .u8 ((⟨#[116, 115, 112, 107, 103, 108, 118, 110, 97]⟩ : ByteArray)[j]'hp).toNat] W fun e w' => e = .returned (.tuple #[.int .i64 (y.f (j + 1)), .int .i64 (width (j + 1) : Nat)]) ∧ Mod (fun _ => False) W w') := fun hp W => by
        rw [nine_at j hp]; exact rnumber_ok W y (j + 1) (by omega) (by omega)
      clear hX hY
      go_wp2
      go_region_held3 (fun w' => w'.cell? ⟨w.heap.size, 0, none⟩ = some (.int .i64 x.k) ∧ w'.cell? ⟨w.heap.size, 1, none⟩ = some (.int .i64 (x.f 1)) ∧ w'.cell? ⟨w.heap.size, 2, none⟩ = some (.int .i64 (x.f 2)) ∧ w'.cell? ⟨w.heap.size, 3, none⟩ = some (.int .i64 (x.f 3)) ∧ w'.cell? ⟨w.heap.size, 4, none⟩ = some (.int .i64 (x.f 4)) ∧ w'.cell? ⟨w.heap.size, 5, none⟩ = some (.int .i64 (x.f 5)) ∧ w'.cell? ⟨w.heap.size, 6, none⟩ = some (.int .i64 (x.f 6)) ∧ w'.cell? ⟨w.heap.size, 7, none⟩ = some (.int .i64 (x.f 7)) ∧ w'.cell? ⟨w.heap.size, 8, none⟩ = some (.int .i64 (x.f 8)) ∧ w'.cell? ⟨w.heap.size, 9, none⟩ = some (.int .i64 (x.f 9)) ∧ w'.cell? ⟨w.heap.size, 10, none⟩ = some (.bool x.o.is) ∧ w'.cell? ⟨w.heap.size, 11, none⟩ = some (.slice x.o.B x.o.m x.o.d) ∧ w'.cell? ⟨w.heap.size, 12, none⟩ = some (.bool x.v.is) ∧ w'.cell? ⟨w.heap.size, 13, none⟩ = some (.slice x.v.B x.v.m x.v.d)) (first | exact HX.out.all | exact ((HX.out.keep (Mod.refl _ wr).drew).keep hm4).all) ((go_at_call 50; refine (Hn1.out hlt _).mono ?_; rintro e w4 ⟨rfl, hm4⟩))
      have hm5 : Mod (fun _ => False) wr w4 := (Mod.refl _ wr).drew.trans hm4 (fun _ _ h => h)
      have HX4 := Lib.hid (HX.out.keep hm5)
      have HY4 := Lib.hid (HY.out.keep hm5)
      have Hm4 := Lib.hid (Hm.out.trans hm5 (fun _ _ h => h))
      clear hm4 hm5 HX HY Hm
      go_wp2
      go_region_held3 (fun w' => w'.cell? ⟨w.heap.size + 1, 0, none⟩ = some (.int .i64 y.k) ∧ w'.cell? ⟨w.heap.size + 1, 1, none⟩ = some (.int .i64 (y.f 1)) ∧ w'.cell? ⟨w.heap.size + 1, 2, none⟩ = some (.int .i64 (y.f 2)) ∧ w'.cell? ⟨w.heap.size + 1, 3, none⟩ = some (.int .i64 (y.f 3)) ∧ w'.cell? ⟨w.heap.size + 1, 4, none⟩ = some (.int .i64 (y.f 4)) ∧ w'.cell? ⟨w.heap.size + 1, 5, none⟩ = some (.int .i64 (y.f 5)) ∧ w'.cell? ⟨w.heap.size + 1, 6, none⟩ = some (.int .i64 (y.f 6)) ∧ w'.cell? ⟨w.heap.size + 1, 7, none⟩ = some (.int .i64 (y.f 7)) ∧ w'.cell? ⟨w.heap.size + 1, 8, none⟩ = some (.int .i64 (y.f 8)) ∧ w'.cell? ⟨w.heap.size + 1, 9, none⟩ = some (.int .i64 (y.f 9)) ∧ w'.cell? ⟨w.heap.size + 1, 10, none⟩ = some (.bool y.o.is) ∧ w'.cell? ⟨w.heap.size + 1, 11, none⟩ = some (.slice y.o.B y.o.m y.o.d) ∧ w'.cell? ⟨w.heap.size + 1, 12, none⟩ = some (.bool y.v.is) ∧ w'.cell? ⟨w.heap.size + 1, 13, none⟩ = some (.slice y.v.B y.v.m y.v.d)) (first | exact HY4.out.all | exact ((HY4.out.keep (Mod.refl _ w4).drew).keep hm6).all) ((go_at_call 50; refine (Hn2.out hlt _).mono ?_; rintro e w5 ⟨rfl, hm6⟩))
      have hm7 : Mod (fun _ => False) w4 w5 := (Mod.refl _ w4).drew.trans hm6 (fun _ _ h => h)
      have HX5 := Lib.hid (HX4.out.keep hm7)
      have HY5 := Lib.hid (HY4.out.keep hm7)
      have Hm5 := Lib.hid (Hm4.out.trans hm7 (fun _ _ h => h))
      clear hm6 hm7 HX4 HY4 Hm4 Hn1 Hn2
      by_cases hne : x.f (j + 1) = y.f (j + 1)
      · have Hn : Hid (∀ i, 1 ≤ i → i ≤ j + 1 → x.f i = y.f i) := fun i h1 h2 => by
          rcases Nat.lt_or_ge i (j + 1) with h | h
          · exact Heq.out i h1 (by omega)
          · obtain rfl : i = j + 1 := by omega
            exact hne
        have hb : (x.f (j + 1) != y.f (j + 1)) = false := by rw [hne]; simp
        clear hne
        go_wp2
        go_roundw
        case rel => exact ⟨j + 1, by omega, by go_num, HX5.out, HY5.out, Hm5.out, Hn.out⟩
        case measure => simp [intOf]; omega
      · have Hs : Hid (sameN x y = false) := sameN_no (i := j + 1) (by omega) (by omega) hne
        have hb : (x.f (j + 1) != y.f (j + 1)) = true := by rw [bne_iff_ne]; exact hne
        clear hne
        go_wp2
        go_ret
        exact ⟨by rw [Hs.out]; rfl, Hm5.out⟩
    · obtain rfl : j = 9 := by omega
      have Hs : Hid (sameN x y = true) := sameN_yes Heq.out
      have k0 := hX.kind
      have k1 := hY.kind
      clear hX hY
      cases P1 with
      | false =>
        go_wp2
        go_ret
        exact ⟨by rw [Hs.out, Hp1.out]; rfl, Hm.out⟩
      | true =>
        cases P2 with
        | false =>
          go_wp2
          go_ret
          exact ⟨by rw [Hs.out, Hp1.out, Hp2.out]; rfl, Hm.out⟩
        | true =>
          go_wp2
          go_ret
          exact ⟨by rw [Hs.out, Hp1.out, Hp2.out]; rfl, Hm.out⟩
end Go.Proofs.YtnbamljaiahmdaaGreat

namespace Go.Proofs.YtnbamljaiahmdaaGreat
open Go Go.RowKit

def encVP (v : Vl) : List UInt8 := if v.is then UInt8.ofNat v.b.length :: v.b else [255]
def encP (r : Rc) : Fld → List UInt8
  | .num i wd => le wd (r.f i).toNat
  | .old => encVP r.o
  | .new => encVP r.v
def okVP (v : Vl) : Prop := (v.is = false ∧ v.b = []) ∨ (v.is = true ∧ v.b.length ≤ 32)
def okP (r : Rc) : Fld → Prop
  | .num i wd => 0 ≤ r.f i ∧ r.f i < (256 : Int) ^ wd
  | .old => okVP r.o
  | .new => okVP r.v
theorem encF_p (x : RcD) (f : Fld) : encF x f = encP x.p f := by cases f <;> rfl
theorem okV_p {w : World} {v : VlD} (hv : v.At w) : okV v = true ↔ okVP v.p := by
  have hl := Sl.len hv
  obtain ⟨is, B, m, d, vs⟩ := v
  simp only at hl
  subst hl
  unfold okV noneV okVP VlD.p
  cases is
  · simp
  · simp; omega
theorem okF_p {w : World} {x : RcD} (hx : x.At w) (f : Fld) : okF x f = true ↔ okP x.p f := by
  cases f with
  | num i wd => unfold okF okN okP RcD.p; simp
  | old => exact okV_p hx.1
  | new => exact okV_p hx.2

/-- A field of one record in another. -/
def setP (s r : Rc) : Fld → Rc
  | .num i _ => { r with f := upd r.f i (s.f i) }
  | .old => { r with o := s.o }
  | .new => { r with v := s.v }

theorem byte255 {n : Nat} (h : n ≤ 32) : UInt8.ofNat n ≠ 255 ∧ (UInt8.ofNat n).toNat = n := by
  have e : (UInt8.ofNat n).toNat = n := by rw [UInt8.toNat_ofNat']; exact Nat.mod_eq_of_lt (by omega)
  refine ⟨fun h' => ?_, e⟩
  have : (UInt8.ofNat n).toNat = (255 : UInt8).toNat := by rw [h']
  rw [e] at this
  have h2 : (255 : UInt8).toNat = 255 := rfl
  omega
theorem decV_enc {v : Vl} (h : okVP v) (xs : List UInt8) : decV (encVP v ++ xs) = .got v xs := by
  obtain ⟨is, b⟩ := v
  rcases h with ⟨h1, h2⟩ | ⟨h1, h2⟩
  · simp only at h1 h2
    subst h1 h2
    simp [encVP, decV, Vl.none]
  · simp only at h1 h2
    subst h1
    obtain ⟨e1, e2⟩ := byte255 h2
    have hd : ∀ (c : UInt8) (ys : List UInt8), decV (c :: ys) = if c = 255 then .got Vl.none ys else if 32 < c.toNat then .bad 7 else if ys.length < c.toNat then .bad 6 else .got ⟨true, ys.take c.toNat⟩ (ys.drop c.toNat) := fun _ _ => rfl
    show decV (UInt8.ofNat b.length :: (b ++ xs)) = _
    rw [hd, if_neg e1, e2, if_neg (by omega), if_neg (by rw [List.length_append]; omega), List.take_left' rfl, List.drop_left' rfl]
theorem decStep_enc {s : Rc} {f : Fld} (h : okP s f) (r : Rc) (xs : List UInt8) : decStep (.got r (encP s f ++ xs)) f = .got (setP s r f) xs := by
  cases f with
  | num i wd =>
    have hl : (le wd (s.f i).toNat).length = wd := le_length _ _
    have hd : decF r (le wd (s.f i).toNat ++ xs) (.num i wd) = if (le wd (s.f i).toNat ++ xs).length < wd then .bad 6 else .got { r with f := upd r.f i (unle ((le wd (s.f i).toNat ++ xs).take wd)) } ((le wd (s.f i).toNat ++ xs).drop wd) := rfl
    show decF r (le wd (s.f i).toNat ++ xs) (.num i wd) = _
    rw [hd, if_neg (by rw [List.length_append, hl]; omega), List.take_left' hl, List.drop_left' hl, unle_le]
    · unfold setP
      have : ((s.f i).toNat : Int) = s.f i := Int.toNat_of_nonneg h.1
      rw [this]
    · have h1 := h.1
      have h2 := h.2
      have e : ((256 : Int) ^ wd) = ((256 ^ wd : Nat) : Int) := by rw [Int.natCast_pow]; rfl
      rw [e] at h2
      generalize (256 : Nat) ^ wd = q at *
      omega
  | old =>
    show decF r (encVP s.o ++ xs) .old = _
    simp only [decF, decV_enc h xs, setP]
  | new =>
    show decF r (encVP s.v ++ xs) .new = _
    simp only [decF, decV_enc h xs, setP]
theorem foldl_enc {s : Rc} : ∀ {fl : List Fld} (_ : ∀ f ∈ fl, okP s f) (r : Rc) (xs : List UInt8), fl.foldl decStep (.got r (fl.flatMap (encP s) ++ xs)) = .got (fl.foldl (setP s) r) xs
  | [], _, r, xs => rfl
  | f :: fl, h, r, xs => by
    rw [List.flatMap_cons, List.append_assoc, List.foldl_cons, decStep_enc (h f (List.mem_cons_self ..)), List.foldl_cons]
    exact foldl_enc (fun g hg => h g (List.mem_cons_of_mem _ hg)) _ _

/-- A record that was read is the same as another one. -/
structure Req (r : Rc) (x : RcD) : Prop where
  k : r.k = x.k
  f : ∀ i, 1 ≤ i → i ≤ 9 → r.f i = x.f i
  o : r.o = x.o.p
  v : r.v = x.v.p

theorem noneV_p {w : World} {v : VlD} (hv : v.At w) (h : noneV v = true) : v.p = Vl.none := by
  have hl := Sl.len hv
  obtain ⟨is, B, m, d, vs⟩ := v
  simp only at hl
  subst hl
  unfold noneV at h
  simp at h
  simp [VlD.p, Vl.none, h.1, h.2]
theorem ten {P : Nat → Prop} (h1 : P 1) (h2 : P 2) (h3 : P 3) (h4 : P 4) (h5 : P 5) (h6 : P 6) (h7 : P 7) (h8 : P 8) (h9 : P 9) : ∀ i, 1 ≤ i → i ≤ 9 → P i := by
  intro i a b
  match i, a, b with
  | 1, _, _ => exact h1
  | 2, _, _ => exact h2
  | 3, _, _ => exact h3
  | 4, _, _ => exact h4
  | 5, _, _ => exact h5
  | 6, _, _ => exact h6
  | 7, _, _ => exact h7
  | 8, _, _ => exact h8
  | 9, _, _ => exact h9
theorem kind_byte {k : Int} {fl : List Fld} (h : fieldsOf k = some fl) : (((UInt8.ofNat k.toNat).toNat : Nat) : Int) = k := by
  have := fields_kind h
  rw [UInt8.toNat_ofNat', Nat.mod_eq_of_lt (by omega)]
  omega

set_option maxHeartbeats 1000000 in
theorem set_req {w : World} {x : RcD} (hx : x.At w) {fl : List Fld} (h : fieldsOf x.k = some fl) (he : emptyB (fl.foldl zeroF x) = true) : Req (fl.foldl (setP x.p) ⟨x.k, fun _ => 0, Vl.none, Vl.none⟩) x := by
  have ho := noneV_p hx.1
  have hv := noneV_p hx.2
  unfold fieldsOf at h
  repeat' split at h
  all_goals first
    | (injection h with h; subst h
       simp [emptyB, zeroF, upd] at he
       refine ⟨by simp [setP], ten ?_ ?_ ?_ ?_ ?_ ?_ ?_ ?_ ?_, ?_, ?_⟩ <;> simp [setP, upd, RcD.p, he, ho, hv])
    | cases h

theorem dec_enc {w : World} {x : RcD} (hx : x.At w) (h : mayB x = true) : ∃ r, decode (encB x) = (0, r) ∧ Req r x := by
  obtain ⟨fl, hfl, hok, he⟩ := mayB_kind h
  refine ⟨_, ?_, set_req hx hfl he⟩
  have e1 : encB x = UInt8.ofNat x.k.toNat :: (fl.flatMap (encP x.p) ++ []) := by
    unfold encB
    rw [hfl, List.append_nil]
    show UInt8.ofNat x.k.toNat :: fl.flatMap (encF x) = _
    rw [show encF x = encP x.p from funext (encF_p x)]
  rw [e1]
  have hk := kind_byte hfl
  have e2 : decode (UInt8.ofNat x.k.toNat :: (fl.flatMap (encP x.p) ++ [])) = (0, fl.foldl (setP x.p) ⟨x.k, fun _ => 0, Vl.none, Vl.none⟩) := by
    simp only [decode, hk, hfl, foldl_enc (fun f hf => (okF_p hx f).1 (hok f hf))]
  exact e2

/-- Is a field apart from others? -/
def apart : Fld → List Fld → Prop
  | .num i _, l => ∀ wd, Fld.num i wd ∉ l
  | .old, l => Fld.old ∉ l
  | .new, l => Fld.new ∉ l
def Dist : List Fld → Prop
  | [] => True
  | f :: l => apart f l ∧ Dist l
/-- Two records agree but at some fields. -/
structure Agr (S : List Fld) (r r' : Rc) : Prop where
  k : r'.k = r.k
  f : ∀ i, (∀ wd, Fld.num i wd ∉ S) → r'.f i = r.f i
  o : Fld.old ∉ S → r'.o = r.o
  v : Fld.new ∉ S → r'.v = r.v
theorem Agr.trans {S T : List Fld} {a b c : Rc} (h : Agr S a b) (k : Agr T b c) : Agr (S ++ T) a c :=
  ⟨k.k.trans h.k, fun i hi => (k.f i (fun wd hm => hi wd (List.mem_append_right _ hm))).trans (h.f i (fun wd hm => hi wd (List.mem_append_left _ hm))),
    fun hi => (k.o (fun hm => hi (List.mem_append_right _ hm))).trans (h.o (fun hm => hi (List.mem_append_left _ hm))),
    fun hi => (k.v (fun hm => hi (List.mem_append_right _ hm))).trans (h.v (fun hm => hi (List.mem_append_left _ hm)))⟩
theorem Agr.enc {S : List Fld} {r r' : Rc} (h : Agr S r r') {f : Fld} (hf : apart f S) : encP r' f = encP r f ∧ (okP r f → okP r' f) := by
  cases f with
  | num i wd => have := h.f i hf; constructor <;> simp only [encP, okP, this]; exact id
  | old => have := h.o hf; constructor <;> simp only [encP, okP, this]; exact id
  | new => have := h.v hf; constructor <;> simp only [encP, okP, this]; exact id

/-- What a value's reading takes: how many bytes, which they are, and what fewer of them, or more, would do. -/
structure Took {α : Type} (d : List UInt8 → Rdn α) (xs : List UInt8) (a : α) (ys E : List UInt8) : Prop where
  app : xs = E ++ ys
  short : ∀ n, n < E.length → d (xs.take n) = .bad 6
  long : ∀ n, E.length ≤ n → d (xs.take n) = .got a (ys.take (n - E.length))
theorem decV_took {xs ys : List UInt8} {v : Vl} (h : decV xs = .got v ys) : Took decV xs v ys (encVP v) ∧ okVP v := by
  cases xs with
  | nil => cases h
  | cons b zs =>
    have hd : ∀ (c : UInt8) (ys : List UInt8), decV (c :: ys) = if c = 255 then .got Vl.none ys else if 32 < c.toNat then .bad 7 else if ys.length < c.toNat then .bad 6 else .got ⟨true, ys.take c.toNat⟩ (ys.drop c.toNat) := fun _ _ => rfl
    rw [hd] at h
    split at h
    · rename_i hb
      subst hb
      injection h with h1 h2
      subst h1 h2
      refine ⟨⟨rfl, fun n hn => ?_, fun n hn => ?_⟩, .inl ⟨rfl, rfl⟩⟩
      · have : n = 0 := by simp [encVP, Vl.none] at hn; omega
        subst this
        rfl
      · obtain ⟨m, rfl⟩ : ∃ m, n = m + 1 := ⟨n - 1, by simp [encVP, Vl.none] at hn; omega⟩
        rw [List.take_succ_cons, hd, if_pos rfl]
        simp [encVP, Vl.none]
    · rename_i hb
      split at h
      · cases h
      · rename_i h32
        split at h
        · cases h
        · rename_i hl
          injection h with h1 h2
          subst h1 h2
          have hlen : (zs.take b.toNat).length = b.toNat := by rw [List.length_take]; omega
          have he : encVP ⟨true, zs.take b.toNat⟩ = b :: zs.take b.toNat := by
            show UInt8.ofNat (zs.take b.toNat).length :: _ = _
            rw [hlen]
            simp
          rw [he]
          refine ⟨⟨by simp, fun n hn => ?_, fun n hn => ?_⟩, .inr ⟨rfl, by simp only; omega⟩⟩
          · cases n with
            | zero => rfl
            | succ m =>
              rw [List.length_cons, hlen] at hn
              rw [List.take_succ_cons, hd, if_neg hb, if_neg h32, if_pos (by rw [List.length_take]; omega)]
          · rw [List.length_cons, hlen] at hn
            obtain ⟨m, rfl⟩ : ∃ m, n = m + 1 := ⟨n - 1, by omega⟩
            rw [List.take_succ_cons, hd, if_neg hb, if_neg h32, if_neg (by rw [List.length_take]; omega), List.length_cons, hlen, List.take_take, Nat.min_eq_left (by omega), List.drop_take]
            congr 2
            omega
theorem decF_took {r r' : Rc} {xs ys : List UInt8} {f : Fld} (hg : f.good) (h : decF r xs f = .got r' ys) : Took (fun zs => decF r zs f) xs r' ys (encP r' f) ∧ okP r' f ∧ Agr [f] r r' := by
  cases f with
  | num i wd =>
    have hd : ∀ zs : List UInt8, decF r zs (.num i wd) = if zs.length < wd then .bad 6 else .got { r with f := upd r.f i (unle (zs.take wd)) } (zs.drop wd) := fun _ => rfl
    rw [hd] at h
    split at h
    · cases h
    · rename_i hl
      injection h with h1 h2
      subst h1 h2
      have hlen : (xs.take wd).length = wd := by rw [List.length_take]; omega
      have hlt := unle_lt (xs.take wd)
      rw [hlen] at hlt
      have hle : ∀ (l : List UInt8), le l.length (unle l) = l := by
        intro l
        induction l with
        | nil => rfl
        | cons a l ih =>
          have := a.toNat_lt
          show UInt8.ofNat (a.toNat + 256 * unle l) :: le l.length ((a.toNat + 256 * unle l) / 256) = _
          rw [show (a.toNat + 256 * unle l) / 256 = unle l by omega, ih]
          congr 1
          apply UInt8.toNat_inj.1
          rw [UInt8.toNat_ofNat']
          omega
      have he : encP { r with f := upd r.f i (unle (xs.take wd)) } (.num i wd) = xs.take wd := by
        show le wd (upd r.f i (unle (xs.take wd)) i).toNat = _
        have : upd r.f i (unle (xs.take wd)) i = (unle (xs.take wd) : Int) := by simp [upd]
        rw [this, Int.toNat_natCast]
        have := hle (xs.take wd)
        rw [hlen] at this
        exact this
      rw [he]
      refine ⟨⟨by simp, fun n hn => ?_, fun n hn => ?_⟩, ⟨?_, ?_⟩, rfl, fun j hj => ?_, fun _ => rfl, fun _ => rfl⟩
      · rw [hlen] at hn
        show decF r (xs.take n) _ = _
        rw [hd, if_pos (by rw [List.length_take]; omega)]
      · rw [hlen] at hn
        show decF r (xs.take n) _ = _
        rw [hd, if_neg (by rw [List.length_take]; omega), hlen, List.take_take, Nat.min_eq_left (by omega), List.drop_take]
      · show 0 ≤ upd r.f i _ i
        simp [upd]
      · show upd r.f i _ i < _
        have : upd r.f i (unle (xs.take wd)) i = (unle (xs.take wd) : Int) := by simp [upd]
        rw [this]
        have e : ((256 : Int) ^ wd) = ((256 ^ wd : Nat) : Int) := by rw [Int.natCast_pow]; rfl
        rw [e]
        generalize (256 : Nat) ^ wd = q at *
        omega
      · have : j ≠ i := by rintro rfl; exact hj wd (by simp)
        show upd r.f i _ j = _
        simp [upd, this]
  | old =>
    have hd : ∀ zs : List UInt8, decF r zs .old = match decV zs with | .bad e => .bad e | .got v ys => .got { r with o := v } ys := fun _ => rfl
    rw [hd] at h
    cases hv : decV xs with
    | bad e => rw [hv] at h; cases h
    | got v zs =>
      rw [hv] at h
      injection h with h1 h2
      subst h1 h2
      obtain ⟨ht, ho⟩ := decV_took hv
      refine ⟨⟨ht.app, fun n hn => ?_, fun n hn => ?_⟩, ho, rfl, fun _ _ => rfl, fun hn => absurd (by simp) hn, fun _ => rfl⟩
      · show decF r (xs.take n) _ = _
        rw [hd, ht.short n hn]
      · show decF r (xs.take n) _ = _
        rw [hd, ht.long n hn]
        rfl
  | new =>
    have hd : ∀ zs : List UInt8, decF r zs .new = match decV zs with | .bad e => .bad e | .got v ys => .got { r with v := v } ys := fun _ => rfl
    rw [hd] at h
    cases hv : decV xs with
    | bad e => rw [hv] at h; cases h
    | got v zs =>
      rw [hv] at h
      injection h with h1 h2
      subst h1 h2
      obtain ⟨ht, ho⟩ := decV_took hv
      refine ⟨⟨ht.app, fun n hn => ?_, fun n hn => ?_⟩, ho, rfl, fun _ _ => rfl, fun _ => rfl, fun hn => absurd (by simp) hn⟩
      · show decF r (xs.take n) _ = _
        rw [hd, ht.short n hn]
      · show decF r (xs.take n) _ = _
        rw [hd, ht.long n hn]
        rfl
end Go.Proofs.YtnbamljaiahmdaaGreat

namespace Go.Proofs.YtnbamljaiahmdaaGreat
open Go Go.RowKit

theorem foldl_bad (fl : List Fld) (e : Int) : fl.foldl decStep (.bad e) = .bad e := by
  induction fl with
  | nil => rfl
  | cons f fl ih => rw [List.foldl_cons]; exact ih
theorem decV_bad {xs : List UInt8} {e : Int} (h : decV xs = .bad e) : e = 6 ∨ e = 7 := by
  unfold decV at h
  repeat' split at h
  all_goals first | (injection h with h; omega) | cases h
theorem decF_bad {r : Rc} {xs : List UInt8} {f : Fld} {e : Int} (h : decF r xs f = .bad e) : e = 6 ∨ e = 7 := by
  cases f with
  | num i wd =>
    have hd : decF r xs (.num i wd) = if xs.length < wd then .bad 6 else .got { r with f := upd r.f i (unle (xs.take wd)) } (xs.drop wd) := rfl
    rw [hd] at h
    split at h
    · injection h with h; omega
    · cases h
  | old =>
    cases hv : decV xs with
    | bad e' => simp only [decF, hv] at h; injection h with h; subst h; exact decV_bad hv
    | got v ys => simp only [decF, hv] at h; cases h
  | new =>
    cases hv : decV xs with
    | bad e' => simp only [decF, hv] at h; injection h with h; subst h; exact decV_bad hv
    | got v ys => simp only [decF, hv] at h; cases h
theorem foldl_err {e : Int} : ∀ {fl : List Fld} {r : Rc} {xs : List UInt8}, fl.foldl decStep (.got r xs) = .bad e → e = 6 ∨ e = 7
  | [], r, xs, h => by cases h
  | f :: fl, r, xs, h => by
    rw [List.foldl_cons] at h
    cases hd : decF r xs f with
    | bad e' =>
      have : decStep (.got r xs) f = .bad e' := hd
      rw [this, foldl_bad] at h
      injection h with h
      subst h
      exact decF_bad hd
    | got r1 zs =>
      have : decStep (.got r xs) f = .got r1 zs := hd
      rw [this] at h
      exact foldl_err h

theorem foldl_took : ∀ {fl : List Fld} (_ : ∀ f ∈ fl, f.good) (_ : Dist fl) {r r' : Rc} {xs ys : List UInt8}, fl.foldl decStep (.got r xs) = .got r' ys →
    xs = fl.flatMap (encP r') ++ ys ∧ (∀ f ∈ fl, okP r' f) ∧ Agr fl r r' ∧ ∀ n, n < (fl.flatMap (encP r')).length → fl.foldl decStep (.got r (xs.take n)) = .bad 6
  | [], _, _, r, r', xs, ys, h => by
    injection h with h1 h2
    subst h1 h2
    exact ⟨rfl, by simp, ⟨rfl, fun _ _ => rfl, fun _ => rfl, fun _ => rfl⟩, fun n hn => by simp at hn⟩
  | f :: fl, hg, hD, r, r', xs, ys, h => by
    rw [List.foldl_cons] at h
    cases hd : decF r xs f with
    | bad e =>
      have : decStep (.got r xs) f = .bad e := hd
      rw [this, foldl_bad] at h
      cases h
    | got r1 zs =>
      have e1 : decStep (.got r xs) f = .got r1 zs := hd
      rw [e1] at h
      obtain ⟨ht, ho, ha⟩ := decF_took (hg f (List.mem_cons_self ..)) hd
      obtain ⟨i1, i2, i3, i4⟩ := foldl_took (fun g hg' => hg g (List.mem_cons_of_mem _ hg')) hD.2 h
      obtain ⟨k1, k2⟩ := i3.enc hD.1
      refine ⟨?_, ?_, ?_, ?_⟩
      · rw [List.flatMap_cons, List.append_assoc, ← i1, k1]
        exact ht.app
      · intro g hg'
        rcases List.mem_cons.1 hg' with e | e
        · subst e; exact k2 ho
        · exact i2 g e
      · exact ha.trans i3
      · intro n hn
        rw [List.flatMap_cons, List.length_append, k1] at hn
        rw [List.foldl_cons]
        rcases Nat.lt_or_ge n (encP r1 f).length with hlt | hge
        · have : decStep (.got r (xs.take n)) f = .bad 6 := ht.short n hlt
          rw [this, foldl_bad]
        · have : decStep (.got r (xs.take n)) f = .got r1 (zs.take (n - (encP r1 f).length)) := ht.long n hge
          rw [this]
          exact i4 _ (by omega)

theorem fields_dist {k : Int} {fl : List Fld} (h : fieldsOf k = some fl) : Dist fl := by
  unfold fieldsOf at h
  repeat' split at h
  all_goals first | (injection h with h; subst h; simp [Dist, apart]) | cases h

theorem none_p {w : World} {v : VlD} (hv : v.At w) (h : v.p = Vl.none) : noneV v = true := by
  have hl := Sl.len hv
  obtain ⟨is, B, m, d, vs⟩ := v
  simp only at hl
  subst hl
  injection h with h1 h2
  simp only at h1 h2
  subst h1 h2
  rfl
set_option maxHeartbeats 1000000 in
theorem agr_empty {w : World} {y : RcD} (hy : y.At w) {k : Int} {fl : List Fld} (h : fieldsOf k = some fl) {k' : Int} (ha : Agr fl ⟨k', fun _ => 0, Vl.none, Vl.none⟩ y.p) : emptyB (fl.foldl zeroF y) = true := by
  have hf : ∀ i, (∀ wd, Fld.num i wd ∉ fl) → y.f i = 0 := ha.f
  have ho : Fld.old ∉ fl → noneV y.o = true := fun h => none_p hy.1 (ha.o h)
  have hv : Fld.new ∉ fl → noneV y.v = true := fun h => none_p hy.2 (ha.v h)
  have hn : noneV VlD.none = true := rfl
  unfold fieldsOf at h
  repeat' split at h
  all_goals first
    | (injection h with h; subst h
       have f1 := hf 1; have f2 := hf 2; have f3 := hf 3; have f4 := hf 4; have f5 := hf 5; have f6 := hf 6; have f7 := hf 7; have f8 := hf 8; have f9 := hf 9
       simp at f1 f2 f3 f4 f5 f6 f7 f8 f9 ho hv
       simp [emptyB, zeroF, upd, *])
    | cases h

/-- What decode says of bytes. -/
theorem decode_err {xs : List UInt8} (h : (decode xs).1 ≠ 0) : ((decode xs).1 = 6 ∨ (decode xs).1 = 7) ∧ (decode xs).2 = Rc.zero := by
  cases xs with
  | nil => exact ⟨.inl rfl, rfl⟩
  | cons b ys =>
    simp only [decode] at h ⊢
    cases hfl : fieldsOf (b.toNat : Int) with
    | none => simp
    | some fl =>
      simp only [hfl] at h ⊢
      cases hs : fl.foldl decStep (.got ⟨b.toNat, fun _ => 0, Vl.none, Vl.none⟩ ys) with
      | bad e => exact ⟨foldl_err hs, rfl⟩
      | got r rest =>
        simp only [hs] at h ⊢
        cases rest with
        | nil => simp at h
        | cons c cs => simp
theorem dec_only {w : World} {y : RcD} (hy : y.At w) {xs : List UInt8} (h : decode xs = (0, y.p)) : mayB y = true ∧ encB y = xs ∧ ∀ n, n < xs.length → (decode (xs.take n)).1 = 6 := by
  cases xs with
  | nil => injection h with h1 h2; cases h1
  | cons b ys =>
    have hdec : ∀ zs : List UInt8, decode (b :: zs) = match fieldsOf (b.toNat : Int) with
      | none => (7, Rc.zero)
      | some fl => match fl.foldl decStep (.got ⟨b.toNat, fun _ => 0, Vl.none, Vl.none⟩ zs) with
        | .bad e => (e, Rc.zero)
        | .got r [] => (0, r)
        | .got _ (_ :: _) => (7, Rc.zero) := fun _ => rfl
    rw [hdec] at h
    cases hfl : fieldsOf (b.toNat : Int) with
    | none => simp only [hfl] at h; injection h with h1 h2; cases h1
    | some fl =>
      simp only [hfl] at h
      cases hs : fl.foldl decStep (.got ⟨b.toNat, fun _ => 0, Vl.none, Vl.none⟩ ys) with
      | bad e =>
        simp only [hs] at h
        injection h with h1 h2
        have := foldl_err hs
        omega
      | got r rest =>
        cases rest with
        | cons c cs => simp only [hs] at h; injection h with h1 h2; cases h1
        | nil =>
          simp only [hs] at h
          injection h with h1 h2
          subst h2
          obtain ⟨t1, t2, t3, t4⟩ := foldl_took (fields_good hfl) (fields_dist hfl) hs
          rw [List.append_nil] at t1
          have hk : y.k = (b.toNat : Int) := t3.k
          have hfy : fieldsOf y.k = some fl := by rw [hk]; exact hfl
          refine ⟨?_, ?_, ?_⟩
          · rw [mayB_split hfy, Bool.and_eq_true]
            exact ⟨List.all_eq_true.2 (fun f hf => (okF_p hy f).2 (t2 f hf)), agr_empty hy hfl t3⟩
          · unfold encB
            rw [hfy]
            show UInt8.ofNat y.k.toNat :: fl.flatMap (encF y) = _
            rw [show encF y = encP y.p from funext (encF_p y), ← t1, hk, Int.toNat_natCast, UInt8.ofNat_toNat]
          · intro n hn
            cases n with
            | zero => rfl
            | succ m =>
              rw [List.take_succ_cons, hdec]
              simp only [hfl]
              rw [t4 m (by rw [← t1]; simpa using hn)]
end Go.Proofs.YtnbamljaiahmdaaGreat

namespace Go.Proofs.YtnbamljaiahmdaaGreat
open Go Go.RowKit

/-- Bytes in a block of their own. -/
theorem Sl.of_block {w : World} {q : Nat} {xs : List UInt8} (h : w.heap[q]? = some (.cells (xs.map bv).toArray 5 (0, 0))) : Sl w (some ⟨q, 0, none⟩) xs.length xs.length xs := Sl.lit xs h

def sameR (x y : RcD) : Bool := sameN x y && (sameV x.o y.o && sameV x.v y.v && (x.k == y.k))
theorem sameV_p {x y : VlD} (h : x.p = y.p) : sameV x y = true := by
  injection h with h1 h2
  unfold sameV
  rw [h1, h2, eqB_self]
  simp
theorem sameR_of {x y : RcD} (hk : x.k = y.k) (hf : ∀ i, 1 ≤ i → i ≤ 9 → x.f i = y.f i) (ho : x.o.p = y.o.p) (hv : x.v.p = y.v.p) : sameR x y = true := by
  unfold sameR
  rw [sameN_yes hf, sameV_p ho, sameV_p hv, hk]
  simp
theorem sameR_req {x y : RcD} {r : Rc} (hr : Req r x) (hy : y.p = r) : sameR x y = true := by
  subst hy
  exact sameR_of hr.k.symm (fun i a b => (hr.f i a b).symm) hr.o.symm hr.v.symm
theorem At.len {w : World} {x y : VlD} (hx : x.At w) {w' : World} (hy : y.At w') (h : x.p = y.p) : x.m = y.m := by
  injection h with h1 h2
  rw [← Sl.len hx, ← Sl.len hy, h2]
theorem Mod.end_ {w w' : World} (h : Mod (fun _ => False) w w') : Below w.heap.size w w' := h.below (Nat.le_refl _) (fun _ _ => id)

/-- How many bytes a record of a kind has. -/
def szB (k : Int) (m n : Nat) : Nat :=
  if k = 1 then 11 + m + n else if k = 2 then 10 + n else if k = 3 ∨ k = 4 ∨ k = 5 then 2 else if k = 6 ∨ k = 10 then 8 else if k = 7 then 1 else if k = 8 then 11 else if k = 9 then 6 else 5
theorem encV_size {w : World} {v : VlD} (hv : v.At w) (ho : okV v = true) : (encV v).length = 1 + v.m ∧ v.m ≤ 32 := by
  have hl := Sl.len hv
  unfold okV noneV at ho
  unfold encV
  cases hi : v.is with
  | true => rw [hi] at ho; simp at ho; simp [hl]; omega
  | false => rw [hi] at ho; simp at ho; simp [ho]
theorem encB_size {w : World} {x : RcD} (hx : x.At w) (h : mayB x = true) : (encB x).length = szB x.k x.o.m x.v.m ∧ (encB x).length ≤ 75 := by
  obtain ⟨fl, hfl, hok, _⟩ := mayB_kind h
  have ho := fun h => encV_size hx.1 (hok .old h)
  have hv := fun h => encV_size hx.2 (hok .new h)
  unfold encB
  rw [hfl]
  show (encR fl x).length = _ ∧ (encR fl x).length ≤ 75
  unfold encR szB
  unfold fieldsOf at hfl
  split at hfl
  · rename_i hk
    injection hfl with hfl; subst hfl
    have h1 := ho (by simp)
    have h2 := hv (by simp)
    simp [encF, le_length, hk, h1.1, h2.1]
    omega
  split at hfl
  · rename_i hk1 hk
    injection hfl with hfl; subst hfl
    have h2 := hv (by simp)
    simp [encF, le_length, hk, h2.1]
    omega
  split at hfl
  · rename_i hk1 hk2 hk
    injection hfl with hfl; subst hfl
    simp [encF, le_length, hk1, hk2, hk]
  split at hfl
  · rename_i hk1 hk2 hk3 hk
    injection hfl with hfl; subst hfl
    simp [encF, le_length, hk1, hk2, hk3, hk]
  split at hfl
  · rename_i hk1 hk2 hk3 hk4 hk
    injection hfl with hfl; subst hfl
    simp [hk]
  split at hfl
  · rename_i hk1 hk2 hk3 hk4 hk5 hk
    injection hfl with hfl; subst hfl
    simp [encF, le_length, hk]
  split at hfl
  · rename_i hk1 hk2 hk3 hk4 hk5 hk6 hk
    injection hfl with hfl; subst hfl
    simp [encF, le_length, hk]
  split at hfl
  · rename_i hk1 hk2 hk3 hk4 hk5 hk6 hk7 hk
    injection hfl with hfl; subst hfl
    simp [encF, le_length, hk]
  · cases hfl
theorem encB_head {x : RcD} (h : mayB x = true) : ∃ ys, encB x = UInt8.ofNat x.k.toNat :: ys := by
  obtain ⟨fl, hfl, _⟩ := mayB_kind h
  refine ⟨fl.flatMap (encF x), ?_⟩
  unfold encB
  rw [hfl]
  rfl
end Go.Proofs.YtnbamljaiahmdaaGreat
