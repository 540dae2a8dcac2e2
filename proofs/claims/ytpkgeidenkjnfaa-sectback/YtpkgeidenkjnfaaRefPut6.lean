/-
  The contracts of bobbinref01.power and Put.
-/
import Derived.Test.YtpkgeidenkjnfaaSame5
import Derived.Test.YtpkgeidenkjnfaaByt1
namespace Go.Proofs.Ytpkgeidenkjnfaa
open Go Go.RowKit


/-- 256 by itself, k times. -/
def pw (k : Nat) : Int := ((256 ^ k : Nat) : Int)
theorem pw_bd (k : Nat) (hk : k ≤ 4) : 0 < pw k ∧ pw k ≤ 4294967296 := by
  unfold pw
  have h1 : (256 : Nat) ^ k ≤ 256 ^ 4 := Nat.pow_le_pow_right (by omega) hk
  have h2 : 0 < (256 : Nat) ^ k := Nat.pow_pos (by omega)
  generalize (256 : Nat) ^ k = q at *
  omega
theorem pw_succ (k : Nat) : pw (k + 1) = pw k * 256 := by
  unfold pw
  rw [Nat.pow_succ, Int.natCast_mul]
  rfl

set_option maxRecDepth 100000 in
theorem power_ok (w : World) (k : Nat) (hk : k ≤ 4) :
    Calls Try.prog 55 #[.int .i64 k] w fun e w' => e = .returned (.int .i64 (pw k)) ∧ w = w' := by
  go_enter Try.func55, Try.ntmps55
  go_wp2
  go_loop [3, 4] (fun a i => ∃ j : Nat, j ≤ k ∧ i = .int .i64 j ∧ a = .int .i64 (pw j)) (fun _ i => 4 - (intOf i).toNat)
  case atStart => exact ⟨0, by omega, rfl, rfl⟩
  case round =>
    obtain ⟨j, hj, rfl, rfl⟩ := hrel
    by_cases hlt : j < k
    · obtain ⟨hb0, hb1⟩ := pw_bd j (by omega)
      go_wp2
      go_round
      case rel => exact ⟨j + 1, by omega, by go_num, by rw [pw_succ]⟩
      case measure => simp [intOf]; omega
    · obtain rfl : j = k := by omega
      go_wp2
      go_ret
      exact ⟨rfl, rfl⟩

theorem power_okI (w : World) (k : Int) (h0 : 0 ≤ k) (h4 : k ≤ 4) :
    Calls Try.prog 55 #[.int .i64 k] w fun e w' => e = .returned (.int .i64 (pw k.toNat)) ∧ w = w' := by
  obtain ⟨m, rfl⟩ := Int.eq_ofNat_of_zero_le h0
  exact power_ok w m (by omega)

theorem widthOk_cases {k : Int} (h : widthOk k = true) : k = 1 ∨ k = 2 ∨ k = 4 := by simpa [widthOk, or_assoc] using h
theorem widthOk_ne {k : Int} (h : widthOk k = false) : (k != 1) = true ∧ (k != 2) = true ∧ (k != 4) = true := by
  simp only [widthOk, Bool.or_eq_false_iff, decide_eq_false_iff_not] at h
  simp only [bne_iff_ne]
  exact ⟨h.1.1, h.1.2, h.2⟩

set_option maxRecDepth 100000 in
set_option maxHeartbeats 400000 in
theorem refPut_no (w : World) (n k : Int) (h : widthOk k = false ∨ n < 0 ∨ pw k.toNat ≤ n) :
    Calls Try.prog 40 #[.int .i64 n, .int .i64 k] w fun e w' => e = .returned (.tuple #[.slice none 0 0, .int .i64 1]) ∧ w = w' := by
  by_cases hk : widthOk k = false
  · obtain ⟨k1, k2, k4⟩ := widthOk_ne hk
    clear h hk
    go_enter Try.func40, Try.ntmps40
    go_wp2_with fail
    go_ret2
    exact ⟨rfl, rfl⟩
  · have h' := h.resolve_left hk
    have hk3 := widthOk_cases (by simpa using hk)
    clear h hk
    by_cases hn : n < 0
    · have hd : decide (n < 0) = true := by simpa using hn
      clear h' hn
      rcases hk3 with rfl | rfl | rfl
      all_goals
        go_enter Try.func40, Try.ntmps40
        go_wp2_with fail
        go_ret2
        exact ⟨rfl, rfl⟩
    · have hd : decide (n < 0) = false := by simpa using hn
      have h2 := h'.resolve_left hn
      clear h' hn
      rcases hk3 with rfl | rfl | rfl
      all_goals
        simp only [Int.reduceToNat] at h2
        go_enter Try.func40, Try.ntmps40
        go_wp2_with (go_at_call 55; refine (power_okI _ _ (by omega) (by omega)).mono ?_; rintro e w' ⟨rfl, rfl⟩)
        go_ret2
        exact ⟨rfl, rfl⟩

/-- What is left of n behind j bytes. -/
def sh (n : Int) (j : Nat) : Int := ((n.toNat / 256 ^ j : Nat) : Int)
theorem sh_bd (n : Int) (j : Nat) (h0 : 0 ≤ n) : 0 ≤ sh n j ∧ sh n j ≤ n := by
  unfold sh
  have := Nat.div_le_self n.toNat (256 ^ j)
  generalize n.toNat / 256 ^ j = q at *
  omega
theorem sh_zero (n : Int) (h0 : 0 ≤ n) : sh n 0 = n := by unfold sh; simp; omega
theorem sh_succ (n : Int) (j : Nat) : sh n (j + 1) = sh n j / 256 := by
  unfold sh
  rw [Nat.pow_succ, ← Nat.div_div_eq_div_mul, Int.natCast_ediv]
  rfl
theorem sh_byte (n : Int) (j : Nat) : sh n j % 256 = ((UInt8.ofNat (n.toNat / 256 ^ j)).toNat : Int) := by
  unfold sh
  rw [UInt8.toNat_ofNat', Int.natCast_emod]
  rfl

set_option maxRecDepth 100000 in
set_option maxHeartbeats 800000 in
theorem refPut_ok1 (w : World) (n : Int) (hn0 : 0 ≤ n) (hn : n < pw 1) :
    Calls Try.prog 40 #[.int .i64 n, .int .i64 1] w fun e w' => ∃ A c, e = .returned (.tuple #[.slice A 1 c, .int .i64 0]) ∧ FreshR w w' A 1 c (le 1 n.toNat) := by
  have hd : decide (n < 0) = false := by simpa using hn0
  have hle : n ≤ 4294967296 := by have := pw_bd 1 (by omega); omega
  have hsb := fun j => sh_bd n j hn0
  have Hsb := Lib.hid hsb
  have Hs0 := Lib.hid (sh_zero n hn0)
  clear hsb
  go_enter Try.func40, Try.ntmps40
  go_wp2_with (go_at_call 55; refine (power_okI _ _ (by omega) (by omega)).mono ?_; rintro e w' ⟨rfl, rfl⟩)
  clear hd
  go_loopw [6, 7, 0] (fun out i v wr => ∃ (j : Nat) (A : Option Addr) (c : Nat), j ≤ 1 ∧ i = .int .i64 j ∧ out = .slice A j c ∧ v = .int .i64 (sh n j) ∧ OwV wr w.heap.size 5 A j c ((le j n.toNat).map bv) ∧ Mod (fun _ => False) w wr) (fun _ i _ _ => 4 - (intOf i).toNat)
  case atStart => exact ⟨0, none, 0, by omega, rfl, rfl, by rw [Hs0.out], OwV.nil _ _ _, Mod.refl _ _⟩
  case round =>
    obtain ⟨j, A, c, hj, rfl, rfl, rfl, hown, hmod⟩ := hrel
    by_cases hlt : j < 1
    · obtain ⟨hs1, hs2⟩ := Hsb.out j
      have hsz := hmod.size
      have hown1 : OwV (wr.alloc (.cells #[.int .u8 (sh n j % 256)] 5)) w.heap.size 5 A j c ((le j n.toNat).map bv) := hown.alloc _
      have hsrc := Src.one wr (.int .u8 (sh n j % 256)) 5 rfl
      have hml : j + 1 ≤ maxLen := by unfold maxLen; omega
      have hbase : w.heap.size ≤ (wr.alloc (.cells #[.int .u8 (sh n j % 256)] 5)).heap.size := by simp; omega
      go_wp2_with (at_builtin; refine wpList_app (.tmp 33) (.tmp 37) byteElem rfl rfl rfl rfl hown1 hsrc (by omega) hml hbase ?_)
      intro A' c' w' hown' hgr hat
      have hm2 : Mod (fun _ => False) w w' := (hmod.alloc (.cells #[.int .u8 (sh n j % 256)] 5)).grown hgr (fun k e hk => by have := (hown.lt k e).1; omega)
      clear hat hown1 hsrc hown hgr
      go_wp2
      go_roundw
      case rel =>
        refine ⟨j + 1, A', c', by omega, by go_num, rfl, by rw [sh_succ], ?_, hm2⟩
        rw [le_snoc, List.map_append, List.map_cons, List.map_nil]
        rw [sh_byte] at hown'
        exact hown'
      case measure => simp [intOf]; omega
    · obtain rfl : j = 1 := by omega
      go_wp2
      go_ret2
      exact ⟨A, c, rfl, hown, hmod⟩

set_option maxRecDepth 100000 in
set_option maxHeartbeats 800000 in
theorem refPut_ok2 (w : World) (n : Int) (hn0 : 0 ≤ n) (hn : n < pw 2) :
    Calls Try.prog 40 #[.int .i64 n, .int .i64 2] w fun e w' => ∃ A c, e = .returned (.tuple #[.slice A 2 c, .int .i64 0]) ∧ FreshR w w' A 2 c (le 2 n.toNat) := by
  have hd : decide (n < 0) = false := by simpa using hn0
  have hle : n ≤ 4294967296 := by have := pw_bd 2 (by omega); omega
  have hsb := fun j => sh_bd n j hn0
  have Hsb := Lib.hid hsb
  have Hs0 := Lib.hid (sh_zero n hn0)
  clear hsb
  go_enter Try.func40, Try.ntmps40
  go_wp2_with (go_at_call 55; refine (power_okI _ _ (by omega) (by omega)).mono ?_; rintro e w' ⟨rfl, rfl⟩)
  clear hd
  go_loopw [6, 7, 0] (fun out i v wr => ∃ (j : Nat) (A : Option Addr) (c : Nat), j ≤ 2 ∧ i = .int .i64 j ∧ out = .slice A j c ∧ v = .int .i64 (sh n j) ∧ OwV wr w.heap.size 5 A j c ((le j n.toNat).map bv) ∧ Mod (fun _ => False) w wr) (fun _ i _ _ => 4 - (intOf i).toNat)
  case atStart => exact ⟨0, none, 0, by omega, rfl, rfl, by rw [Hs0.out], OwV.nil _ _ _, Mod.refl _ _⟩
  case round =>
    obtain ⟨j, A, c, hj, rfl, rfl, rfl, hown, hmod⟩ := hrel
    by_cases hlt : j < 2
    · obtain ⟨hs1, hs2⟩ := Hsb.out j
      have hsz := hmod.size
      have hown1 : OwV (wr.alloc (.cells #[.int .u8 (sh n j % 256)] 5)) w.heap.size 5 A j c ((le j n.toNat).map bv) := hown.alloc _
      have hsrc := Src.one wr (.int .u8 (sh n j % 256)) 5 rfl
      have hml : j + 1 ≤ maxLen := by unfold maxLen; omega
      have hbase : w.heap.size ≤ (wr.alloc (.cells #[.int .u8 (sh n j % 256)] 5)).heap.size := by simp; omega
      go_wp2_with (at_builtin; refine wpList_app (.tmp 33) (.tmp 37) byteElem rfl rfl rfl rfl hown1 hsrc (by omega) hml hbase ?_)
      intro A' c' w' hown' hgr hat
      have hm2 : Mod (fun _ => False) w w' := (hmod.alloc (.cells #[.int .u8 (sh n j % 256)] 5)).grown hgr (fun k e hk => by have := (hown.lt k e).1; omega)
      clear hat hown1 hsrc hown hgr
      go_wp2
      go_roundw
      case rel =>
        refine ⟨j + 1, A', c', by omega, by go_num, rfl, by rw [sh_succ], ?_, hm2⟩
        rw [le_snoc, List.map_append, List.map_cons, List.map_nil]
        rw [sh_byte] at hown'
        exact hown'
      case measure => simp [intOf]; omega
    · obtain rfl : j = 2 := by omega
      go_wp2
      go_ret2
      exact ⟨A, c, rfl, hown, hmod⟩

set_option maxRecDepth 100000 in
set_option maxHeartbeats 800000 in
theorem refPut_ok4 (w : World) (n : Int) (hn0 : 0 ≤ n) (hn : n < pw 4) :
    Calls Try.prog 40 #[.int .i64 n, .int .i64 4] w fun e w' => ∃ A c, e = .returned (.tuple #[.slice A 4 c, .int .i64 0]) ∧ FreshR w w' A 4 c (le 4 n.toNat) := by
  have hd : decide (n < 0) = false := by simpa using hn0
  have hle : n ≤ 4294967296 := by have := pw_bd 4 (by omega); omega
  have hsb := fun j => sh_bd n j hn0
  have Hsb := Lib.hid hsb
  have Hs0 := Lib.hid (sh_zero n hn0)
  clear hsb
  go_enter Try.func40, Try.ntmps40
  go_wp2_with (go_at_call 55; refine (power_okI _ _ (by omega) (by omega)).mono ?_; rintro e w' ⟨rfl, rfl⟩)
  clear hd
  go_loopw [6, 7, 0] (fun out i v wr => ∃ (j : Nat) (A : Option Addr) (c : Nat), j ≤ 4 ∧ i = .int .i64 j ∧ out = .slice A j c ∧ v = .int .i64 (sh n j) ∧ OwV wr w.heap.size 5 A j c ((le j n.toNat).map bv) ∧ Mod (fun _ => False) w wr) (fun _ i _ _ => 4 - (intOf i).toNat)
  case atStart => exact ⟨0, none, 0, by omega, rfl, rfl, by rw [Hs0.out], OwV.nil _ _ _, Mod.refl _ _⟩
  case round =>
    obtain ⟨j, A, c, hj, rfl, rfl, rfl, hown, hmod⟩ := hrel
    by_cases hlt : j < 4
    · obtain ⟨hs1, hs2⟩ := Hsb.out j
      have hsz := hmod.size
      have hown1 : OwV (wr.alloc (.cells #[.int .u8 (sh n j % 256)] 5)) w.heap.size 5 A j c ((le j n.toNat).map bv) := hown.alloc _
      have hsrc := Src.one wr (.int .u8 (sh n j % 256)) 5 rfl
      have hml : j + 1 ≤ maxLen := by unfold maxLen; omega
      have hbase : w.heap.size ≤ (wr.alloc (.cells #[.int .u8 (sh n j % 256)] 5)).heap.size := by simp; omega
      go_wp2_with (at_builtin; refine wpList_app (.tmp 33) (.tmp 37) byteElem rfl rfl rfl rfl hown1 hsrc (by omega) hml hbase ?_)
      intro A' c' w' hown' hgr hat
      have hm2 : Mod (fun _ => False) w w' := (hmod.alloc (.cells #[.int .u8 (sh n j % 256)] 5)).grown hgr (fun k e hk => by have := (hown.lt k e).1; omega)
      clear hat hown1 hsrc hown hgr
      go_wp2
      go_roundw
      case rel =>
        refine ⟨j + 1, A', c', by omega, by go_num, rfl, by rw [sh_succ], ?_, hm2⟩
        rw [le_snoc, List.map_append, List.map_cons, List.map_nil]
        rw [sh_byte] at hown'
        exact hown'
      case measure => simp [intOf]; omega
    · obtain rfl : j = 4 := by omega
      go_wp2
      go_ret2
      exact ⟨A, c, rfl, hown, hmod⟩

theorem refPut_ok (w : World) (n k : Int) (hk : widthOk k = true) (hn0 : 0 ≤ n) (hn : n < pw k.toNat) :
    Calls Try.prog 40 #[.int .i64 n, .int .i64 k] w fun e w' => ∃ A c, e = .returned (.tuple #[.slice A k.toNat c, .int .i64 0]) ∧ FreshR w w' A k.toNat c (le k.toNat n.toNat) := by
  rcases widthOk_cases hk with rfl | rfl | rfl
  · exact refPut_ok1 w n hn0 hn
  · exact refPut_ok2 w n hn0 hn
  · exact refPut_ok4 w n hn0 hn
end Go.Proofs.Ytpkgeidenkjnfaa
