/-
  The contracts of bobbinref01.power and Put.
  The contract of bobbinref01.Get.
  The contract of bobbinref01.Take; the capacity of a row of the call's own.
  The contract of bobbinref02.Open.
-/
import Derived.Test.YtkigpicjhklioaaQA
import Derived.Deep.RegionLaw
import Derived.Test.YtkigpicjhklioaaQB
namespace Go.Proofs.Ytkigpicjhklioaa
open Go Go.RowKit


/-- 256 by itself, k times. -/
def pw (k : Nat) : Int := ((256 ^ k : Nat) : Int)
theorem pw_bd (k : Nat) (hk : k ≤ 4) : 0 < pw k ∧ pw k ≤ 4294967296 := by
  unfold pw
  have h1 : (256 : Nat) ^ k ≤ 256 ^ 4 := Nat.pow_le_pow_right (by omega) hk
  have h2 : 0 < (256 : Nat) ^ k := Nat.pow_pos (by omega)
  generalize (256 : Nat) ^ k = q at *
  omega
theorem pw_succ (k : Nat) : pw (k + 1) = pw k * 256 := by
  unfold pw
  rw [Nat.pow_succ, Int.natCast_mul]
  rfl

set_option maxRecDepth 100000 in
theorem power_ok (w : World) (k : Nat) (hk : k ≤ 4) :
    Calls Try.prog 48 #[.int .i64 k] w fun e w' => e = .returned (.int .i64 (pw k)) ∧ w = w' := by
  go_enter Try.func48, Try.ntmps48
  go_wp2
  go_loop [3, 4] (fun a i => ∃ j : Nat, j ≤ k ∧ i = .int .i64 j ∧ a = .int .i64 (pw j)) (fun _ i => 4 - (intOf i).toNat)
  case atStart => exact ⟨0, by omega, rfl, rfl⟩
  case round =>
    obtain ⟨j, hj, rfl, rfl⟩ := hrel
    by_cases hlt : j < k
    · obtain ⟨hb0, hb1⟩ := pw_bd j (by omega)
      go_wp2
      go_round
      case rel => exact ⟨j + 1, by omega, by go_num, by rw [pw_succ]⟩
      case measure => simp [intOf]; omega
    · obtain rfl : j = k := by omega
      go_wp2
      go_ret
      exact ⟨rfl, rfl⟩

theorem power_okI (w : World) (k : Int) (h0 : 0 ≤ k) (h4 : k ≤ 4) :
    Calls Try.prog 48 #[.int .i64 k] w fun e w' => e = .returned (.int .i64 (pw k.toNat)) ∧ w = w' := by
  obtain ⟨m, rfl⟩ := Int.eq_ofNat_of_zero_le h0
  exact power_ok w m (by omega)

theorem widthOk_cases {k : Int} (h : widthOk k = true) : k = 1 ∨ k = 2 ∨ k = 4 := by simpa [widthOk, or_assoc] using h
theorem widthOk_ne {k : Int} (h : widthOk k = false) : (k != 1) = true ∧ (k != 2) = true ∧ (k != 4) = true := by
  simp only [widthOk, Bool.or_eq_false_iff, decide_eq_false_iff_not] at h
  simp only [bne_iff_ne]
  exact ⟨h.1.1, h.1.2, h.2⟩

set_option maxRecDepth 100000 in
set_option maxHeartbeats 400000 in
theorem refPut_no (w : World) (n k : Int) (h : widthOk k = false ∨ n < 0 ∨ pw k.toNat ≤ n) :
    Calls Try.prog 36 #[.int .i64 n, .int .i64 k] w fun e w' => e = .returned (.tuple #[.slice none 0 0, .int .i64 1]) ∧ w = w' := by
  by_cases hk : widthOk k = false
  · obtain ⟨k1, k2, k4⟩ := widthOk_ne hk
    clear h hk
    go_enter Try.func36, Try.ntmps36
    go_wp2_with fail
    go_ret2
    exact ⟨rfl, rfl⟩
  · have h' := h.resolve_left hk
    have hk3 := widthOk_cases (by simpa using hk)
    clear h hk
    by_cases hn : n < 0
    · have hd : decide (n < 0) = true := by simpa using hn
      clear h' hn
      rcases hk3 with rfl | rfl | rfl
      all_goals
        go_enter Try.func36, Try.ntmps36
        go_wp2_with fail
        go_ret2
        exact ⟨rfl, rfl⟩
    · have hd : decide (n < 0) = false := by simpa using hn
      have h2 := h'.resolve_left hn
      clear h' hn
      rcases hk3 with rfl | rfl | rfl
      all_goals
        simp only [Int.reduceToNat] at h2
        go_enter Try.func36, Try.ntmps36
        go_wp2_with (go_at_call 48; refine (power_okI _ _ (by omega) (by omega)).mono ?_; rintro e w' ⟨rfl, rfl⟩)
        go_ret2
        exact ⟨rfl, rfl⟩

/-- What is left of n behind j bytes. -/
def sh (n : Int) (j : Nat) : Int := ((n.toNat / 256 ^ j : Nat) : Int)
theorem sh_bd (n : Int) (j : Nat) (h0 : 0 ≤ n) : 0 ≤ sh n j ∧ sh n j ≤ n := by
  unfold sh
  have := Nat.div_le_self n.toNat (256 ^ j)
  generalize n.toNat / 256 ^ j = q at *
  omega
theorem sh_zero (n : Int) (h0 : 0 ≤ n) : sh n 0 = n := by unfold sh; simp; omega
theorem sh_succ (n : Int) (j : Nat) : sh n (j + 1) = sh n j / 256 := by
  unfold sh
  rw [Nat.pow_succ, ← Nat.div_div_eq_div_mul, Int.natCast_ediv]
  rfl
theorem sh_byte (n : Int) (j : Nat) : sh n j % 256 = ((UInt8.ofNat (n.toNat / 256 ^ j)).toNat : Int) := by
  unfold sh
  rw [UInt8.toNat_ofNat', Int.natCast_emod]
  rfl

set_option maxRecDepth 100000 in
set_option maxHeartbeats 800000 in
theorem refPut_ok1 (w : World) (n : Int) (hn0 : 0 ≤ n) (hn : n < pw 1) :
    Calls Try.prog 36 #[.int .i64 n, .int .i64 1] w fun e w' => ∃ A c, e = .returned (.tuple #[.slice A 1 c, .int .i64 0]) ∧ FreshR w w' A 1 c (le 1 n.toNat) := by
  have hd : decide (n < 0) = false := by simpa using hn0
  have hle : n ≤ 4294967296 := by have := pw_bd 1 (by omega); omega
  have hsb := fun j => sh_bd n j hn0
  have Hsb := Lib.hid hsb
  have Hs0 := Lib.hid (sh_zero n hn0)
  clear hsb
  go_enter Try.func36, Try.ntmps36
  go_wp2_with (go_at_call 48; refine (power_okI _ _ (by omega) (by omega)).mono ?_; rintro e w' ⟨rfl, rfl⟩)
  clear hd
  go_loopw [6, 7, 0] (fun out i v wr => ∃ (j : Nat) (A : Option Addr) (c : Nat), j ≤ 1 ∧ i = .int .i64 j ∧ out = .slice A j c ∧ v = .int .i64 (sh n j) ∧ OwV wr w.heap.size 5 A j c ((le j n.toNat).map bv) ∧ Mod (fun _ => False) w wr) (fun _ i _ _ => 4 - (intOf i).toNat)
  case atStart => exact ⟨0, none, 0, by omega, rfl, rfl, by rw [Hs0.out], OwV.nil _ _ _, Mod.refl _ _⟩
  case round =>
    obtain ⟨j, A, c, hj, rfl, rfl, rfl, hown, hmod⟩ := hrel
    by_cases hlt : j < 1
    · obtain ⟨hs1, hs2⟩ := Hsb.out j
      have hsz := hmod.size
      have hown1 : OwV (wr.alloc (.cells #[.int .u8 (sh n j % 256)] 5)) w.heap.size 5 A j c ((le j n.toNat).map bv) := hown.alloc _
      have hsrc := Src.one wr (.int .u8 (sh n j % 256)) 5 rfl
      have hml : j + 1 ≤ maxLen := by unfold maxLen; omega
      have hbase : w.heap.size ≤ (wr.alloc (.cells #[.int .u8 (sh n j % 256)] 5)).heap.size := by simp; omega
      go_wp2_with (at_builtin; refine wpList_app (.tmp 33) (.tmp 37) byteElem rfl rfl rfl rfl hown1 hsrc (by omega) hml hbase ?_)
      intro A' c' w' hown' hgr hat
      have hm2 : Mod (fun _ => False) w w' := (hmod.alloc (.cells #[.int .u8 (sh n j % 256)] 5)).grown hgr (fun k e hk => by have := (hown.lt k e).1; omega)
      clear hat hown1 hsrc hown hgr
      go_wp2
      go_roundw
      case rel =>
        refine ⟨j + 1, A', c', by omega, by go_num, rfl, by rw [sh_succ], ?_, hm2⟩
        rw [le_snoc, List.map_append, List.map_cons, List.map_nil]
        rw [sh_byte] at hown'
        exact hown'
      case measure => simp [intOf]; omega
    · obtain rfl : j = 1 := by omega
      go_wp2
      go_ret2
      exact ⟨A, c, rfl, hown, hmod⟩

set_option maxRecDepth 100000 in
set_option maxHeartbeats 800000 in
theorem refPut_ok2 (w : World) (n : Int) (hn0 : 0 ≤ n) (hn : n < pw 2) :
    Calls Try.prog 36 #[.int .i64 n, .int .i64 2] w fun e w' => ∃ A c, e = .returned (.tuple #[.slice A 2 c, .int .i64 0]) ∧ FreshR w w' A 2 c (le 2 n.toNat) := by
  have hd : decide (n < 0) = false := by simpa using hn0
  have hle : n ≤ 4294967296 := by have := pw_bd 2 (by omega); omega
  have hsb := fun j => sh_bd n j hn0
  have Hsb := Lib.hid hsb
  have Hs0 := Lib.hid (sh_zero n hn0)
  clear hsb
  go_enter Try.func36, Try.ntmps36
  go_wp2_with (go_at_call 48; refine (power_okI _ _ (by omega) (by omega)).mono ?_; rintro e w' ⟨rfl, rfl⟩)
  clear hd
  go_loopw [6, 7, 0] (fun out i v wr => ∃ (j : Nat) (A : Option Addr) (c : Nat), j ≤ 2 ∧ i = .int .i64 j ∧ out = .slice A j c ∧ v = .int .i64 (sh n j) ∧ OwV wr w.heap.size 5 A j c ((le j n.toNat).map bv) ∧ Mod (fun _ => False) w wr) (fun _ i _ _ => 4 - (intOf i).toNat)
  case atStart => exact ⟨0, none, 0, by omega, rfl, rfl, by rw [Hs0.out], OwV.nil _ _ _, Mod.refl _ _⟩
  case round =>
    obtain ⟨j, A, c, hj, rfl, rfl, rfl, hown, hmod⟩ := hrel
    by_cases hlt : j < 2
    · obtain ⟨hs1, hs2⟩ := Hsb.out j
      have hsz := hmod.size
      have hown1 : OwV (wr.alloc (.cells #[.int .u8 (sh n j % 256)] 5)) w.heap.size 5 A j c ((le j n.toNat).map bv) := hown.alloc _
      have hsrc := Src.one wr (.int .u8 (sh n j % 256)) 5 rfl
      have hml : j + 1 ≤ maxLen := by unfold maxLen; omega
      have hbase : w.heap.size ≤ (wr.alloc (.cells #[.int .u8 (sh n j % 256)] 5)).heap.size := by simp; omega
      go_wp2_with (at_builtin; refine wpList_app (.tmp 33) (.tmp 37) byteElem rfl rfl rfl rfl hown1 hsrc (by omega) hml hbase ?_)
      intro A' c' w' hown' hgr hat
      have hm2 : Mod (fun _ => False) w w' := (hmod.alloc (.cells #[.int .u8 (sh n j % 256)] 5)).grown hgr (fun k e hk => by have := (hown.lt k e).1; omega)
      clear hat hown1 hsrc hown hgr
      go_wp2
      go_roundw
      case rel =>
        refine ⟨j + 1, A', c', by omega, by go_num, rfl, by rw [sh_succ], ?_, hm2⟩
        rw [le_snoc, List.map_append, List.map_cons, List.map_nil]
        rw [sh_byte] at hown'
        exact hown'
      case measure => simp [intOf]; omega
    · obtain rfl : j = 2 := by omega
      go_wp2
      go_ret2
      exact ⟨A, c, rfl, hown, hmod⟩

set_option maxRecDepth 100000 in
set_option maxHeartbeats 800000 in
theorem refPut_ok4 (w : World) (n : Int) (hn0 : 0 ≤ n) (hn : n < pw 4) :
    Calls Try.prog 36 #[.int .i64 n, .int .i64 4] w fun e w' => ∃ A c, e = .returned (.tuple #[.slice A 4 c, .int .i64 0]) ∧ FreshR w w' A 4 c (le 4 n.toNat) := by
  have hd : decide (n < 0) = false := by simpa using hn0
  have hle : n ≤ 4294967296 := by have := pw_bd 4 (by omega); omega
  have hsb := fun j => sh_bd n j hn0
  have Hsb := Lib.hid hsb
  have Hs0 := Lib.hid (sh_zero n hn0)
  clear hsb
  go_enter Try.func36, Try.ntmps36
  go_wp2_with (go_at_call 48; refine (power_okI _ _ (by omega) (by omega)).mono ?_; rintro e w' ⟨rfl, rfl⟩)
  clear hd
  go_loopw [6, 7, 0] (fun out i v wr => ∃ (j : Nat) (A : Option Addr) (c : Nat), j ≤ 4 ∧ i = .int .i64 j ∧ out = .slice A j c ∧ v = .int .i64 (sh n j) ∧ OwV wr w.heap.size 5 A j c ((le j n.toNat).map bv) ∧ Mod (fun _ => False) w wr) (fun _ i _ _ => 4 - (intOf i).toNat)
  case atStart => exact ⟨0, none, 0, by omega, rfl, rfl, by rw [Hs0.out], OwV.nil _ _ _, Mod.refl _ _⟩
  case round =>
    obtain ⟨j, A, c, hj, rfl, rfl, rfl, hown, hmod⟩ := hrel
    by_cases hlt : j < 4
    · obtain ⟨hs1, hs2⟩ := Hsb.out j
      have hsz := hmod.size
      have hown1 : OwV (wr.alloc (.cells #[.int .u8 (sh n j % 256)] 5)) w.heap.size 5 A j c ((le j n.toNat).map bv) := hown.alloc _
      have hsrc := Src.one wr (.int .u8 (sh n j % 256)) 5 rfl
      have hml : j + 1 ≤ maxLen := by unfold maxLen; omega
      have hbase : w.heap.size ≤ (wr.alloc (.cells #[.int .u8 (sh n j % 256)] 5)).heap.size := by simp; omega
      go_wp2_with (at_builtin; refine wpList_app (.tmp 33) (.tmp 37) byteElem rfl rfl rfl rfl hown1 hsrc (by omega) hml hbase ?_)
      intro A' c' w' hown' hgr hat
      have hm2 : Mod (fun _ => False) w w' := (hmod.alloc (.cells #[.int .u8 (sh n j % 256)] 5)).grown hgr (fun k e hk => by have := (hown.lt k e).1; omega)
      clear hat hown1 hsrc hown hgr
      go_wp2
      go_roundw
      case rel =>
        refine ⟨j + 1, A', c', by omega, by go_num, rfl, by rw [sh_succ], ?_, hm2⟩
        rw [le_snoc, List.map_append, List.map_cons, List.map_nil]
        rw [sh_byte] at hown'
        exact hown'
      case measure => simp [intOf]; omega
    · obtain rfl : j = 4 := by omega
      go_wp2
      go_ret2
      exact ⟨A, c, rfl, hown, hmod⟩

theorem refPut_ok (w : World) (n k : Int) (hk : widthOk k = true) (hn0 : 0 ≤ n) (hn : n < pw k.toNat) :
    Calls Try.prog 36 #[.int .i64 n, .int .i64 k] w fun e w' => ∃ A c, e = .returned (.tuple #[.slice A k.toNat c, .int .i64 0]) ∧ FreshR w w' A k.toNat c (le k.toNat n.toNat) := by
  rcases widthOk_cases hk with rfl | rfl | rfl
  · exact refPut_ok1 w n hn0 hn
  · exact refPut_ok2 w n hn0 hn
  · exact refPut_ok4 w n hn0 hn
end Go.Proofs.Ytkigpicjhklioaa

namespace Go.Proofs.Ytkigpicjhklioaa
open Go Go.RowKit

theorem calls_quiet {P : Program} {f : FuncId} {args : Array Value} {w : World} {n : Nat} {v : Value}
    (h : Calls P f args (w.drewN n) fun e w' => e = .returned v ∧ w.drewN n = w') : Calls P f args (w.drewN n) fun e w'' => e = .returned v ∧ ∃ m, w'' = w.drewN m :=
  h.mono fun _ _ ⟨he, hw⟩ => ⟨he, n, hw.symm⟩

set_option maxRecDepth 100000 in
theorem refGet_arg (w : World) (A : Option Addr) (n c : Nat) (k : Int) (hk : widthOk k = false) :
    Calls Try.prog 53 #[.slice A n c, .int .i64 k] w fun e w' => e = .returned (.tuple #[.int .i64 0, .slice A n c, .int .i64 1]) ∧ w = w' := by
  obtain ⟨k1, k2, k4⟩ := widthOk_ne hk
  go_enter Try.func53, Try.ntmps53
  go_wp2
  go_ret3
  exact ⟨rfl, rfl⟩

set_option maxRecDepth 100000 in
theorem refGet_short (w : World) (A : Option Addr) (n c : Nat) (k : Int) (hk : widthOk k = true) (hn : (n : Int) < k) :
    Calls Try.prog 53 #[.slice A n c, .int .i64 k] w fun e w' => e = .returned (.tuple #[.int .i64 0, .slice A n c, .int .i64 6]) ∧ w = w' := by
  rcases widthOk_cases hk with rfl | rfl | rfl
  all_goals
    go_enter Try.func53, Try.ntmps53
    go_wp2
    go_ret3
    exact ⟨rfl, rfl⟩

/-- What is left of a slice behind k bytes. -/
def Tail (w : World) (A : Option Addr) (n c k : Nat) (xs : List UInt8) (A' : Option Addr) : Prop := Sl w A' (n - k) (c - k) (xs.drop k) ∧ blkOf A' = blkOf A

theorem Sl.tail {w : World} {b o n c : Nat} {xs : List UInt8} (h : Sl w (some ⟨b, o, none⟩) n c xs) (k : Nat) (hk : k ≤ n) :
    Tail w (some ⟨b, o, none⟩) n c k xs (if c = k then some ⟨b, o, none⟩ else some ⟨b, o + k, none⟩) := by
  have hc := h.cap
  refine ⟨⟨by simp [h.len], by omega, fun hn => ?_⟩, by split <;> rfl⟩
  rw [if_neg (by omega)]
  obtain ⟨b', o', e, hcell⟩ := h.2.2 (by omega)
  injection e with e; injection e with e1 e2; subst e1; subst e2
  refine ⟨b, o + k, rfl, fun j hj => ?_⟩
  rw [Nat.add_assoc, hcell (k + j) (by omega)]
  simp

theorem unle_take (xs : List UInt8) (j : Nat) (hj : j < xs.length) : unle (xs.take (j + 1)) = unle (xs.take j) + (xs[j]?.getD 0).toNat * 256 ^ j := by
  rw [List.take_succ_eq_append_getElem hj, unle_snoc, List.length_take, Nat.min_eq_left (by omega), List.getElem?_eq_getElem hj]
  rfl

theorem wrap_sum {t y p : Int} (h0 : 0 ≤ t) (h1 : t ≤ 4294967296) (h2 : 0 ≤ y) (h3 : y < 256) (h4 : 0 ≤ p) (h5 : p ≤ 4294967296) : wrap64 (t + wrap64 (y * p)) = t + y * p := by
  have a0 : 0 ≤ y * p := Int.mul_nonneg h2 h4
  have a1 : y * p ≤ 256 * 4294967296 := Int.mul_le_mul (by omega) h5 h4 (by omega)
  generalize y * p = q at *
  unfold wrap64
  omega

set_option maxRecDepth 100000 in
set_option maxHeartbeats 800000 in
theorem refGet_ok1 (w : World) (A : Option Addr) (n c : Nat) (xs : List UInt8) (h : Sl w A n c xs) (hc : c ≤ maxLen) (hn : 1 ≤ n) :
    Calls Try.prog 53 #[.slice A n c, .int .i64 1] w fun e w' => ∃ A' q, e = .returned (.tuple #[.int .i64 (unle (xs.take 1)), .slice A' (n - 1) (c - 1), .int .i64 0]) ∧ Tail w A n c 1 xs A' ∧ w' = w.drewN q := by
  obtain ⟨b, o, rfl, hcell⟩ := h.2.2 (by omega)
  have Htl := Lib.hid (h.tail 1 hn)
  have hC := h.cap
  have HL := Lib.hid h.len
  unfold maxLen at hc
  obtain ⟨T, HT⟩ : ∃ T : Nat → Int, Hid (∀ j, T j = (unle (xs.take j) : Int)) := ⟨_, fun _ => rfl⟩
  go_enter Try.func53, Try.ntmps53
  go_wp2
  go_loopw [7, 8] (fun a i wr => ∃ (j q : Nat), j ≤ 1 ∧ i = .int .i64 j ∧ a = .int .i64 (T j) ∧ wr = w.drewN q) (fun _ i _ => 4 - (intOf i).toNat)
  case atStart => exact ⟨0, 0, by omega, rfl, by rw [HT.out]; rfl, rfl⟩
  case round =>
    obtain ⟨j, q, hj, rfl, rfl, rfl⟩ := hrel
    by_cases hlt : j < 1
    · have hcj : (w.drewN q).cell? ⟨b, o + j, none⟩ = some (.int .u8 ((xs.getD j 0).toNat : Int)) := hcell j (by omega)
      have hpj := pw_bd j (by omega)
      have hx := (xs.getD j 0).toNat_lt
      have Hsum : Hid (T (j + 1) = T j + ((xs.getD j 0).toNat : Int) * pw j) := by
        show _ = _
        rw [HT.out, HT.out, unle_take xs j (by rw [HL.out]; omega), Int.natCast_add, Int.natCast_mul]
        rfl
      have hTb : 0 ≤ T j ∧ T j ≤ 4294967296 := by
        rw [HT.out]
        have h1 := unle_lt (xs.take j)
        have h2 : (xs.take j).length = j := by rw [List.length_take, HL.out]; omega
        rw [h2] at h1
        have h3 := pw_bd j (by omega)
        unfold pw at h3
        omega
      obtain ⟨hT0, hT1⟩ := hTb
      obtain ⟨hp0, hp1⟩ := hpj
      have HS := Lib.hid (wrap_sum hT0 hT1 (Int.natCast_nonneg (xs.getD j 0).toNat) (by omega) (by omega) hp1)
      generalize (xs.getD j 0).toNat = y at *
      obtain ⟨w9, hw9⟩ : ∃ w9, w9 = w.drewN q := ⟨_, rfl⟩
      rw [← hw9] at hcj ⊢
      have Hw9 := Lib.hid hw9
      clear hcell hw9
      go_wp2_with fail
      go_quiet ((go_at_call 48; exact calls_quiet (power_ok _ j (by omega))))
      go_wp2
      go_roundw
      case rel => exact ⟨j + 1, _, by omega, by go_num, by rw [Hsum.out, ← HS.out], by rw [Hw9.out]; exact World.drewN_drewN _ _ _⟩
      case measure => simp [intOf]; omega
    · obtain rfl : j = 1 := by omega
      obtain ⟨w9, hw9⟩ : ∃ w9, w9 = w.drewN q := ⟨_, rfl⟩
      rw [← hw9]
      have Hw9 := Lib.hid hw9
      clear hcell hw9
      by_cases hck : c = 1
      · obtain rfl : n = 1 := by omega
        subst hck
        have ht := Htl.out
        rw [if_pos rfl] at ht
        have Ht := Lib.hid ht
        clear ht Htl
        go_wp2_with fail
        go_quiet (fail)
        go_wp2
        go_ret3
        exact ⟨_, _, by rw [← HT.out]; rfl, Ht.out, by rw [Hw9.out]; exact World.drewN_drewN _ _ _⟩
      · have ht := Htl.out
        rw [if_neg hck] at ht
        have Ht := Lib.hid ht
        clear ht Htl
        go_wp2_with fail
        go_quiet (fail)
        go_wp2
        go_ret3
        exact ⟨_, _, by rw [← HT.out]; rfl, Ht.out, by rw [Hw9.out]; exact World.drewN_drewN _ _ _⟩

set_option maxRecDepth 100000 in
set_option maxHeartbeats 800000 in
theorem refGet_ok2 (w : World) (A : Option Addr) (n c : Nat) (xs : List UInt8) (h : Sl w A n c xs) (hc : c ≤ maxLen) (hn : 2 ≤ n) :
    Calls Try.prog 53 #[.slice A n c, .int .i64 2] w fun e w' => ∃ A' q, e = .returned (.tuple #[.int .i64 (unle (xs.take 2)), .slice A' (n - 2) (c - 2), .int .i64 0]) ∧ Tail w A n c 2 xs A' ∧ w' = w.drewN q := by
  obtain ⟨b, o, rfl, hcell⟩ := h.2.2 (by omega)
  have Htl := Lib.hid (h.tail 2 hn)
  have hC := h.cap
  have HL := Lib.hid h.len
  unfold maxLen at hc
  obtain ⟨T, HT⟩ : ∃ T : Nat → Int, Hid (∀ j, T j = (unle (xs.take j) : Int)) := ⟨_, fun _ => rfl⟩
  go_enter Try.func53, Try.ntmps53
  go_wp2
  go_loopw [7, 8] (fun a i wr => ∃ (j q : Nat), j ≤ 2 ∧ i = .int .i64 j ∧ a = .int .i64 (T j) ∧ wr = w.drewN q) (fun _ i _ => 4 - (intOf i).toNat)
  case atStart => exact ⟨0, 0, by omega, rfl, by rw [HT.out]; rfl, rfl⟩
  case round =>
    obtain ⟨j, q, hj, rfl, rfl, rfl⟩ := hrel
    by_cases hlt : j < 2
    · have hcj : (w.drewN q).cell? ⟨b, o + j, none⟩ = some (.int .u8 ((xs.getD j 0).toNat : Int)) := hcell j (by omega)
      have hpj := pw_bd j (by omega)
      have hx := (xs.getD j 0).toNat_lt
      have Hsum : Hid (T (j + 1) = T j + ((xs.getD j 0).toNat : Int) * pw j) := by
        show _ = _
        rw [HT.out, HT.out, unle_take xs j (by rw [HL.out]; omega), Int.natCast_add, Int.natCast_mul]
        rfl
      have hTb : 0 ≤ T j ∧ T j ≤ 4294967296 := by
        rw [HT.out]
        have h1 := unle_lt (xs.take j)
        have h2 : (xs.take j).length = j := by rw [List.length_take, HL.out]; omega
        rw [h2] at h1
        have h3 := pw_bd j (by omega)
        unfold pw at h3
        omega
      obtain ⟨hT0, hT1⟩ := hTb
      obtain ⟨hp0, hp1⟩ := hpj
      have HS := Lib.hid (wrap_sum hT0 hT1 (Int.natCast_nonneg (xs.getD j 0).toNat) (by omega) (by omega) hp1)
      generalize (xs.getD j 0).toNat = y at *
      obtain ⟨w9, hw9⟩ : ∃ w9, w9 = w.drewN q := ⟨_, rfl⟩
      rw [← hw9] at hcj ⊢
      have Hw9 := Lib.hid hw9
      clear hcell hw9
      go_wp2_with fail
      go_quiet ((go_at_call 48; exact calls_quiet (power_ok _ j (by omega))))
      go_wp2
      go_roundw
      case rel => exact ⟨j + 1, _, by omega, by go_num, by rw [Hsum.out, ← HS.out], by rw [Hw9.out]; exact World.drewN_drewN _ _ _⟩
      case measure => simp [intOf]; omega
    · obtain rfl : j = 2 := by omega
      obtain ⟨w9, hw9⟩ : ∃ w9, w9 = w.drewN q := ⟨_, rfl⟩
      rw [← hw9]
      have Hw9 := Lib.hid hw9
      clear hcell hw9
      by_cases hck : c = 2
      · obtain rfl : n = 2 := by omega
        subst hck
        have ht := Htl.out
        rw [if_pos rfl] at ht
        have Ht := Lib.hid ht
        clear ht Htl
        go_wp2_with fail
        go_quiet (fail)
        go_wp2
        go_ret3
        exact ⟨_, _, by rw [← HT.out]; rfl, Ht.out, by rw [Hw9.out]; exact World.drewN_drewN _ _ _⟩
      · have ht := Htl.out
        rw [if_neg hck] at ht
        have Ht := Lib.hid ht
        clear ht Htl
        go_wp2_with fail
        go_quiet (fail)
        go_wp2
        go_ret3
        exact ⟨_, _, by rw [← HT.out]; rfl, Ht.out, by rw [Hw9.out]; exact World.drewN_drewN _ _ _⟩

set_option maxRecDepth 100000 in
set_option maxHeartbeats 800000 in
theorem refGet_ok4 (w : World) (A : Option Addr) (n c : Nat) (xs : List UInt8) (h : Sl w A n c xs) (hc : c ≤ maxLen) (hn : 4 ≤ n) :
    Calls Try.prog 53 #[.slice A n c, .int .i64 4] w fun e w' => ∃ A' q, e = .returned (.tuple #[.int .i64 (unle (xs.take 4)), .slice A' (n - 4) (c - 4), .int .i64 0]) ∧ Tail w A n c 4 xs A' ∧ w' = w.drewN q := by
  obtain ⟨b, o, rfl, hcell⟩ := h.2.2 (by omega)
  have Htl := Lib.hid (h.tail 4 hn)
  have hC := h.cap
  have HL := Lib.hid h.len
  unfold maxLen at hc
  obtain ⟨T, HT⟩ : ∃ T : Nat → Int, Hid (∀ j, T j = (unle (xs.take j) : Int)) := ⟨_, fun _ => rfl⟩
  go_enter Try.func53, Try.ntmps53
  go_wp2
  go_loopw [7, 8] (fun a i wr => ∃ (j q : Nat), j ≤ 4 ∧ i = .int .i64 j ∧ a = .int .i64 (T j) ∧ wr = w.drewN q) (fun _ i _ => 4 - (intOf i).toNat)
  case atStart => exact ⟨0, 0, by omega, rfl, by rw [HT.out]; rfl, rfl⟩
  case round =>
    obtain ⟨j, q, hj, rfl, rfl, rfl⟩ := hrel
    by_cases hlt : j < 4
    · have hcj : (w.drewN q).cell? ⟨b, o + j, none⟩ = some (.int .u8 ((xs.getD j 0).toNat : Int)) := hcell j (by omega)
      have hpj := pw_bd j (by omega)
      have hx := (xs.getD j 0).toNat_lt
      have Hsum : Hid (T (j + 1) = T j + ((xs.getD j 0).toNat : Int) * pw j) := by
        show _ = _
        rw [HT.out, HT.out, unle_take xs j (by rw [HL.out]; omega), Int.natCast_add, Int.natCast_mul]
        rfl
      have hTb : 0 ≤ T j ∧ T j ≤ 4294967296 := by
        rw [HT.out]
        have h1 := unle_lt (xs.take j)
        have h2 : (xs.take j).length = j := by rw [List.length_take, HL.out]; omega
        rw [h2] at h1
        have h3 := pw_bd j (by omega)
        unfold pw at h3
        omega
      obtain ⟨hT0, hT1⟩ := hTb
      obtain ⟨hp0, hp1⟩ := hpj
      have HS := Lib.hid (wrap_sum hT0 hT1 (Int.natCast_nonneg (xs.getD j 0).toNat) (by omega) (by omega) hp1)
      generalize (xs.getD j 0).toNat = y at *
      obtain ⟨w9, hw9⟩ : ∃ w9, w9 = w.drewN q := ⟨_, rfl⟩
      rw [← hw9] at hcj ⊢
      have Hw9 := Lib.hid hw9
      clear hcell hw9
      go_wp2_with fail
      go_quiet ((go_at_call 48; exact calls_quiet (power_ok _ j (by omega))))
      go_wp2
      go_roundw
      case rel => exact ⟨j + 1, _, by omega, by go_num, by rw [Hsum.out, ← HS.out], by rw [Hw9.out]; exact World.drewN_drewN _ _ _⟩
      case measure => simp [intOf]; omega
    · obtain rfl : j = 4 := by omega
      obtain ⟨w9, hw9⟩ : ∃ w9, w9 = w.drewN q := ⟨_, rfl⟩
      rw [← hw9]
      have Hw9 := Lib.hid hw9
      clear hcell hw9
      by_cases hck : c = 4
      · obtain rfl : n = 4 := by omega
        subst hck
        have ht := Htl.out
        rw [if_pos rfl] at ht
        have Ht := Lib.hid ht
        clear ht Htl
        go_wp2_with fail
        go_quiet (fail)
        go_wp2
        go_ret3
        exact ⟨_, _, by rw [← HT.out]; rfl, Ht.out, by rw [Hw9.out]; exact World.drewN_drewN _ _ _⟩
      · have ht := Htl.out
        rw [if_neg hck] at ht
        have Ht := Lib.hid ht
        clear ht Htl
        go_wp2_with fail
        go_quiet (fail)
        go_wp2
        go_ret3
        exact ⟨_, _, by rw [← HT.out]; rfl, Ht.out, by rw [Hw9.out]; exact World.drewN_drewN _ _ _⟩

theorem refGet_ok (w : World) (A : Option Addr) (n c : Nat) (xs : List UInt8) (h : Sl w A n c xs) (hc : c ≤ maxLen) (k : Int) (hk : widthOk k = true) (hn : k ≤ n) :
    Calls Try.prog 53 #[.slice A n c, .int .i64 k] w fun e w' => ∃ A' q, e = .returned (.tuple #[.int .i64 (unle (xs.take k.toNat)), .slice A' (n - k.toNat) (c - k.toNat), .int .i64 0]) ∧ Tail w A n c k.toNat xs A' ∧ w' = w.drewN q := by
  rcases widthOk_cases hk with rfl | rfl | rfl
  · exact refGet_ok1 w A n c xs h hc (by omega)
  · exact refGet_ok2 w A n c xs h hc (by omega)
  · exact refGet_ok4 w A n c xs h hc (by omega)

end Go.Proofs.Ytkigpicjhklioaa

namespace Go.Proofs.Ytkigpicjhklioaa
open Go Go.RowKit

/-- The capacity of a row of the call's own has a bound. -/
theorem OwV.capM {w : World} {base : Nat} {e : TypeId} {A : Option Addr} {n c : Nat} {vs : List Value} (h : OwV w base e A n c vs) : c ≤ maxLen := by
  rcases h.2 with ⟨hv, _⟩ | ⟨g, cap, cur, hv, _, _, _, hc, _⟩
  · injection hv with _ _ hc; subst hc; unfold maxLen; omega
  · injection hv with _ _ hc'; subst hc'; exact hc

section
variable {P : Program} {w : World}
/-- append, the operation by itself (for a region that draws its order). -/
theorem wp_app {o : Oper} {a : Act} {K : Act → World → Prop} {Q : Exit → Act → World → Prop} (s x : Operand) {t e : TypeId} {z : Value} {bytes : Nat}
    {base : Nat} {A : Option Addr} {n c : Nat} {vs : List Value} {A2 : Option Addr} {m c2 : Nat} {news : List Value}
    (he : Elem P t e z bytes)
    (ho : o.op = .call { callee := .builtin .append, args := #[s, x], argTypes := #[t, t] })
    (hes : a.eval s = .slice A n c) (hex : a.eval x = .slice A2 m c2)
    (hown : OwV w base e A n c vs) (hs : Src w A2 m news)
    (hb : (n + m) * bytes ≤ 140737488355328) (h63 : n + m ≤ maxLen) (hbase : base ≤ w.heap.size)
    (h : ∀ A' c' w', OwV w' base e A' (n + m) c' (vs ++ news) → w.grownBy w' (blkOf A) → (blkOf A' = blkOf A ∨ blkOf A' = some w.heap.size) → K (a.put o.dst (.slice A' (n + m) c')) w') :
    Oper.wp P o a w K Q := by
  obtain ⟨A', c', w', hr, h2, h3, h4⟩ := run_app (P := P) (w := w) he o.type hown (c2 := c2) hs hb h63 hbase
  unfold Oper.wp execOp
  simp only [ho, resolve, invoke, builtin, Sem.run_bind, Sem.run_pure, Result.andThen_ok, List.map_toArray, List.map_cons, List.map_nil, hes, hex, hr]
  exact h A' c' w' h2 h3 h4
end

end Go.Proofs.Ytkigpicjhklioaa

namespace Go.Proofs.Ytkigpicjhklioaa
open Go Go.RowKit

def openB (n : Nat) (xs : List UInt8) : Bool := decide (n = 256) && decide (xs.take 4 = xs.drop 252)
def openBytes (n : Nat) (xs : List UInt8) : List UInt8 := if openB n xs then (xs.drop 4).take 248 else []
def openStamp (n : Nat) (xs : List UInt8) : Int := if openB n xs then (unle (xs.take 4) : Int) else 0
def openErr (n : Nat) (xs : List UInt8) : Int := if n = 256 then if openB n xs then 0 else 20 else 1
def Gives (w w' : World) (A : Option Addr) (n c : Nat) (ys : List UInt8) : Prop := Sl w' A n c ys ∧ Mod (fun _ => False) w w'

theorem unle_inj : ∀ (xs ys : List UInt8), xs.length = ys.length → unle xs = unle ys → xs = ys
  | [], [], _, _ => rfl
  | [], _ :: _, h, _ => by simp at h
  | _ :: _, [], h, _ => by simp at h
  | x :: xs, y :: ys, h, e => by
    have hx := x.toNat_lt
    have hy := y.toNat_lt
    simp only [unle] at e
    have e1 : x = y := UInt8.toNat_inj.1 (by omega)
    have e2 := unle_inj xs ys (by simpa using h) (by omega)
    rw [e1, e2]

/-- A part of a slice. -/
theorem Sl.sub {w : World} {b o n c : Nat} {xs : List UInt8} (h : Sl w (some ⟨b, o, none⟩) n c xs) (k m : Nat) (hk : k + m ≤ n) : Sl w (some ⟨b, o + k, none⟩) m (c - k) ((xs.drop k).take m) := by
  have hc := h.cap
  refine ⟨by simp [h.len]; omega, by omega, fun hp => ⟨b, o + k, rfl, fun j hj => ?_⟩⟩
  obtain ⟨b', o', e, hcell⟩ := h.2.2 (by omega)
  injection e with e
  injection e with e1 e2
  subst e1; subst e2
  rw [Nat.add_assoc, hcell (k + j) (by omega)]
  simp [hj]

set_option maxRecDepth 100000 in
set_option maxHeartbeats 1600000 in
theorem refOpen_any (w : World) (A : Option Addr) (n c : Nat) (xs : List UInt8) (h : Sl w A n c xs) (hc : c ≤ maxLen) :
    Calls Try.prog 52 #[.slice A n c] w fun e w' => ∃ A' k c', e = .returned (.tuple #[.slice A' k c', .int .i64 (openStamp n xs), .int .i64 (openErr n xs)]) ∧ k ≤ 256 ∧ c' ≤ maxLen ∧ Gives w w' A' k c' (openBytes n xs) := by
  by_cases h1 : n = 256
  · subst h1
    obtain ⟨b, o, rfl, hb⟩ := h.lt (by omega)
    have hcap := h.cap
    have hcap' : (256 : Int) ≤ c := by omega
    have hc4 : ¬ c = 4 := by omega
    have hc252 : ¬ c = 252 := by omega
    have Hc := Lib.hid hc
    have HL := Lib.hid h.len
    have Hu : ∀ l : List UInt8, l.length = 4 → unle l < 4294967296 := fun l hl => by have := unle_lt l; rw [hl] at this; exact this
    have HA : Hid ((unle (xs.take 4) : Int) = unle ((xs.drop 252).take 4) ↔ xs.take 4 = xs.drop 252) := by
      show _ ↔ _
      rw [drop252 HL.out]
      constructor
      · intro e
        exact unle_inj _ _ (by simp [HL.out]) (by omega)
      · intro e
        rw [e]
    have hga := Lib.hid (refGet_ok4 w _ 256 c xs h hc (by omega))
    have hs2 := Lib.hid (h.sub 252 4 (by omega))
    have hs3 := Lib.hid (h.sub 4 248 (by omega))
    clear hc
    go_enter Try.func52, Try.ntmps52
    go_wp2_with fail
    refine hga.out.mono ?_
    rintro e w1 ⟨A1, q1, rfl, _, rfl⟩
    clear hga
    generalize hua : unle (xs.take 4) = ua at *
    have Hua := Lib.hid hua
    clear hua
    go_wp2_with fail
    have hmx : c - 252 ≤ maxLen := by have := Hc.out; omega
    refine (refGet_ok4 _ _ 4 (c - 252) _ (Sl.drewN hs2.out q1) hmx (by omega)).mono ?_
    rintro e w2 ⟨A2, q2, rfl, _, rfl⟩
    rw [List.take_take, Nat.min_self]
    generalize hub : unle ((xs.drop 252).take 4) = ub at *
    have Hub := Lib.hid hub
    clear hub hs2 hmx
    rw [World.drewN_drewN]
    have hs4 := Lib.hid (Sl.drewN hs3.out (q1 + q2))
    have hM4 := (Mod.refl (fun _ => False) w).drewN (q1 + q2)
    generalize w.drewN (q1 + q2) = w4 at *
    clear hs3
    by_cases heq : xs.take 4 = xs.drop 252
    · have hbb : openB 256 xs = true := by simp [openB, heq]
      have hab : ub = ua := by have := HA.out.2 heq; omega
      subst hab
      have HE : Hid (openStamp 256 xs = (ub : Int) ∧ openErr 256 xs = 0 ∧ openBytes 256 xs = (xs.drop 4).take 248) := by
        refine ⟨?_, ?_, ?_⟩
        · rw [openStamp, hbb, ← Hua.out]; rfl
        · rw [openErr, hbb]; rfl
        · rw [openBytes, hbb]; rfl
      clear hbb heq HA
      have hsrc := hs4.out.src
      have hown0 := OwV.nil w4 w4.heap.size 5
      have hml : 0 + 248 ≤ maxLen := by unfold maxLen; omega
      go_wp2_with (at_builtin; refine wpList_app (.const (.slice none 0 0)) (.tmp 31) byteElem rfl rfl rfl rfl hown0 hsrc (by omega) hml (Nat.le_refl _) ?_)
      intro A5 c5 w5 hown5 hg5 _
      have hM5 : Mod (fun _ => False) w w5 := hM4.grown hg5 (fun k e _ => by simp [blkOf] at e)
      have hsl5 : Sl w5 A5 248 c5 ((xs.drop 4).take 248) := by
        have := OwV.sl (xs := (xs.drop 4).take 248) (by simpa using hown5)
        simpa using this
      have H5 := Lib.hid hsl5
      have Hc5 := Lib.hid hown5.capM
      clear hown5 hg5 hsrc hown0 hsl5
      go_wp2
      go_ret3
      refine ⟨A5, 248, c5, ?_, by omega, Hc5.out, ?_, hM5⟩
      · rw [HE.out.1, HE.out.2.1]; rfl
      · rw [HE.out.2.2]; exact H5.out
    · have hbb : openB 256 xs = false := by simp [openB, heq]
      have hne : ((ua : Int) != (ub : Int)) = true := by
        rw [bne_iff_ne]
        exact fun e => heq (HA.out.1 e)
      have HE : Hid (openStamp 256 xs = 0 ∧ openErr 256 xs = 20 ∧ openBytes 256 xs = []) := by
        refine ⟨?_, ?_, ?_⟩
        · rw [openStamp, hbb]; rfl
        · rw [openErr, hbb]; rfl
        · rw [openBytes, hbb]; rfl
      clear hbb heq HA
      go_wp2_with fail
      go_ret3
      refine ⟨none, 0, 0, ?_, by omega, Nat.zero_le _, ?_, hM4⟩
      · rw [HE.out.1, HE.out.2.1]; rfl
      · rw [HE.out.2.2]; exact Sl.none_ _ _ _
  · have hb : openB n xs = false := by simp [openB, h1]
    have hne : ((n : Int) != 256) = true := by rw [bne_iff_ne]; omega
    rw [openStamp, openErr, openBytes, hb, if_neg h1]
    clear h1 hb
    go_enter Try.func52, Try.ntmps52
    go_wp2_with fail
    go_ret3
    exact ⟨none, 0, 0, rfl, by omega, Nat.zero_le _, Sl.none_ _ _ _, Mod.refl _ _⟩
end Go.Proofs.Ytkigpicjhklioaa
