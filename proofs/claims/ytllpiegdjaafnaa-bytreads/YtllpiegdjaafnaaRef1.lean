/-
  The contracts of package bobbinref01's functions.
-/
import Derived.Test.YtllpiegdjaafnaaByt2
namespace Go.Proofs.Ytllpiegdjaafnaa
open Go Go.RowKit

/-- A row in new memory that holds xs; nothing old has turned. -/
def FreshR (w w' : World) (A : Option Addr) (n c : Nat) (xs : List UInt8) : Prop :=
  OwV w' w.heap.size 5 A n c (xs.map bv) ∧ Mod (fun _ => False) w w'

/-- 256 by itself, k times. -/
def pw (k : Nat) : Int := ((256 ^ k : Nat) : Int)
theorem pw_bd (k : Nat) (hk : k ≤ 4) : 0 < pw k ∧ pw k ≤ 4294967296 := by
  unfold pw
  have h1 : (256 : Nat) ^ k ≤ 256 ^ 4 := Nat.pow_le_pow_right (by omega) hk
  have h2 : 0 < (256 : Nat) ^ k := Nat.pow_pos (by omega)
  generalize (256 : Nat) ^ k = q at *
  omega
theorem pw_succ (k : Nat) : pw (k + 1) = pw k * 256 := by
  unfold pw
  rw [Nat.pow_succ, Int.natCast_mul]
  rfl

set_option maxRecDepth 100000 in
theorem power_ok (w : World) (k : Nat) (hk : k ≤ 4) :
    Calls Try.prog 26 #[.int .i64 k] w fun e w' => e = .returned (.int .i64 (pw k)) ∧ w = w' := by
  go_enter Try.func26, Try.ntmps26
  go_wp2
  go_loop [3, 4] (fun a i => ∃ j : Nat, j ≤ k ∧ i = .int .i64 j ∧ a = .int .i64 (pw j)) (fun _ i => 4 - (intOf i).toNat)
  case atStart => exact ⟨0, by omega, rfl, rfl⟩
  case round =>
    obtain ⟨j, hj, rfl, rfl⟩ := hrel
    by_cases hlt : j < k
    · obtain ⟨hb0, hb1⟩ := pw_bd j (by omega)
      go_wp2
      go_round
      case rel => exact ⟨j + 1, by omega, by go_num, by rw [pw_succ]⟩
      case measure => simp [intOf]; omega
    · obtain rfl : j = k := by omega
      go_wp2
      go_ret
      exact ⟨rfl, rfl⟩

/-- Are two lists of bytes the same? -/
def eqB (xs ys : List UInt8) : Bool := decide (xs = ys)
theorem eqB_ne {xs ys : List UInt8} (h : xs.length ≠ ys.length) : eqB xs ys = false := by
  unfold eqB; rw [decide_eq_false_iff_not]; rintro rfl; exact h rfl
theorem take_eq_snoc {xs ys : List UInt8} {j : Nat} (h : xs.take j = ys.take j) (hx : j < xs.length) (hy : j < ys.length) (e : xs.getD j 0 = ys.getD j 0) : xs.take (j + 1) = ys.take (j + 1) := by
  rw [List.take_succ_eq_append_getElem hx, List.take_succ_eq_append_getElem hy, h]
  simp [List.getD_eq_getElem?_getD, List.getElem?_eq_getElem hx, List.getElem?_eq_getElem hy] at e
  rw [e]
theorem eqB_at {xs ys : List UInt8} {j : Nat} (h : xs.getD j 0 ≠ ys.getD j 0) : eqB xs ys = false := by
  unfold eqB; rw [decide_eq_false_iff_not]; rintro rfl; exact h rfl

set_option maxRecDepth 100000 in
theorem same_ok (w : World) (A B : Option Addr) (n m c d : Nat) (xs ys : List UInt8) (h : Sl w A n c xs) (k : Sl w B m d ys) (hc : n ≤ 140737488355328) (hd : m ≤ 140737488355328) :
    Calls Try.prog 15 #[.slice A n c, .slice B m d] w fun e w' => e = .returned (.bool (eqB xs ys)) ∧ ∃ q, w' = w.drewN q := by
  have h1 := h.len
  have k1 := k.len
  by_cases hne : n = m
  · subst hne
    have H1 := Lib.hid h1
    have K1 := Lib.hid k1
    clear h1 k1
    go_enter Try.func15, Try.ntmps15
    go_wp2
    go_loopw [5] (fun i wr => ∃ j q : Nat, j ≤ n ∧ i = .int .i64 j ∧ wr = w.drewN q ∧ xs.take j = ys.take j) (fun i _ => n - (intOf i).toNat)
    case atStart => exact ⟨0, 0, by omega, rfl, rfl, rfl⟩
    case round =>
      obtain ⟨j, q, hj, rfl, rfl, heq⟩ := hrel
      have Heq := Lib.hid heq
      clear heq
      by_cases hlt : j < n
      · obtain ⟨b, o, rfl, hcx⟩ := h.2.2 (by omega)
        obtain ⟨b', o', rfl, hcy⟩ := k.2.2 (by omega)
        have hx := hcx j hlt
        have hy := hcy j hlt
        clear hcx hcy
        by_cases hxy : xs.getD j 0 = ys.getD j 0
        · have Hs := Lib.hid (take_eq_snoc Heq.out (by rw [H1.out]; exact hlt) (by rw [K1.out]; exact hlt) hxy)
          rw [hxy] at hx
          clear hxy
          go_wp2
          go_quiet (fail)
          go_wp2
          go_roundw
          case rel => exact ⟨j + 1, _, by omega, by go_num, rfl, Hs.out⟩
          case measure => simp [intOf]; omega
        · have Hs := Lib.hid (eqB_at hxy)
          have hne : (((xs.getD j 0).toNat : Int) != ((ys.getD j 0).toNat : Int)) = true := by
            rw [bne_iff_ne]
            intro e
            exact hxy (UInt8.toNat_inj.1 (by omega))
          generalize xs.getD j 0 = x at *
          generalize ys.getD j 0 = y at *
          clear hxy
          go_wp2
          go_quiet (fail)
          go_wp2
          go_ret
          exact ⟨by rw [Hs.out]; rfl, _, World.drewN_drewN _ _ _⟩
      · obtain rfl : j = n := by omega
        go_wp2
        go_ret
        have e : eqB xs ys = true := by
          unfold eqB
          have := Heq.out
          rw [List.take_of_length_le (by rw [H1.out]; omega), List.take_of_length_le (by rw [K1.out]; omega)] at this
          simpa using this
        exact ⟨by rw [e]; rfl, _, rfl⟩
  · have hne' : ((n : Int) != (m : Int)) = true := by rw [bne_iff_ne]; omega
    have Hs := Lib.hid (eqB_ne (xs := xs) (ys := ys) (by rw [h1, k1]; exact hne))
    clear h1 k1
    go_enter Try.func15, Try.ntmps15
    go_wp2
    go_ret
    exact ⟨by rw [Hs.out]; rfl, 0, rfl⟩

theorem refLay_long (w : World) (B : Option Addr) (m d : Nat) (hm : 255 < m) :
    Calls Try.prog 12 #[.slice B m d] w fun e w' => e = .returned (.tuple #[.slice none 0 0, .int .i64 2]) ∧ w = w' := by
  go_enter Try.func12, Try.ntmps12
  go_wp2_with fail
  go_ret2
  exact ⟨rfl, rfl⟩

set_option maxRecDepth 100000 in
theorem refLay_ok (w : World) (B : Option Addr) (m d : Nat) (ys : List UInt8) (hs : Sl w B m d ys) (hm : m ≤ 255) :
    Calls Try.prog 12 #[.slice B m d] w fun e w' => ∃ A c, e = .returned (.tuple #[.slice A (m + 1) c, .int .i64 0]) ∧ FreshR w w' A (m + 1) c (UInt8.ofNat m :: ys) := by
  have hbl := Lib.hid (byte_len m hm)
  have hsrc : Src (w.alloc (.cells #[bv (UInt8.ofNat m)] 5)) B m (ys.map bv) := (hs.alloc _).src
  have hown : OwV (w.alloc (.cells #[bv (UInt8.ofNat m)] 5)) w.heap.size 5 (some ⟨w.heap.size, 0, none⟩) 1 1 [bv (UInt8.ofNat m)] :=
    OwV.of_block (cur := [bv (UInt8.ofNat m)]) (Nat.le_refl _) (heap_alloc_new w _) (by simp; unfold maxLen; omega)
  have e8 : bv (UInt8.ofNat m) = .int .u8 (m : Int) := congrArg _ hbl.out.symm
  rw [e8] at hsrc hown
  have hml : 1 + m ≤ maxLen := by unfold maxLen; omega
  have hbase : w.heap.size ≤ (w.alloc (.cells #[.int .u8 (m : Int)] 5)).heap.size := by simp
  have He8 := Lib.hid e8
  clear e8
  go_enter Try.func12, Try.ntmps12
  go_wp2_with (at_builtin; refine wpList_app (.tmp 10) (.tmp 11) byteElem rfl rfl rfl rfl hown hsrc (by omega) hml hbase ?_)
  intro A' c' w' hown' hgr hat
  clear hat hown hsrc
  go_wp2
  go_ret2
  rw [show m + 1 = 1 + m by omega]
  refine ⟨A', c', rfl, ?_, ((Mod.refl _ w).alloc _).grown hgr (fun k e hk => ?_)⟩
  · rw [List.map_cons, He8.out]; exact hown'
  · simp [blkOf] at e; omega

theorem power_okI (w : World) (k : Int) (h0 : 0 ≤ k) (h4 : k ≤ 4) :
    Calls Try.prog 26 #[.int .i64 k] w fun e w' => e = .returned (.int .i64 (pw k.toNat)) ∧ w = w' := by
  obtain ⟨m, rfl⟩ := Int.eq_ofNat_of_zero_le h0
  exact power_ok w m (by omega)

theorem widthOk_cases {k : Int} (h : widthOk k = true) : k = 1 ∨ k = 2 ∨ k = 4 := by simpa [widthOk, or_assoc] using h
theorem widthOk_ne {k : Int} (h : widthOk k = false) : (k != 1) = true ∧ (k != 2) = true ∧ (k != 4) = true := by
  simp only [widthOk, Bool.or_eq_false_iff, decide_eq_false_iff_not] at h
  simp only [bne_iff_ne]
  exact ⟨h.1.1, h.1.2, h.2⟩

set_option maxRecDepth 100000 in
set_option maxHeartbeats 400000 in
theorem refPut_no (w : World) (n k : Int) (h : widthOk k = false ∨ n < 0 ∨ pw k.toNat ≤ n) :
    Calls Try.prog 14 #[.int .i64 n, .int .i64 k] w fun e w' => e = .returned (.tuple #[.slice none 0 0, .int .i64 1]) ∧ w = w' := by
  by_cases hk : widthOk k = false
  · obtain ⟨k1, k2, k4⟩ := widthOk_ne hk
    clear h hk
    go_enter Try.func14, Try.ntmps14
    go_wp2_with fail
    go_ret2
    exact ⟨rfl, rfl⟩
  · have h' := h.resolve_left hk
    have hk3 := widthOk_cases (by simpa using hk)
    clear h hk
    by_cases hn : n < 0
    · have hd : decide (n < 0) = true := by simpa using hn
      clear h' hn
      rcases hk3 with rfl | rfl | rfl
      all_goals
        go_enter Try.func14, Try.ntmps14
        go_wp2_with fail
        go_ret2
        exact ⟨rfl, rfl⟩
    · have hd : decide (n < 0) = false := by simpa using hn
      have h2 := h'.resolve_left hn
      clear h' hn
      rcases hk3 with rfl | rfl | rfl
      all_goals
        simp only [Int.reduceToNat] at h2
        go_enter Try.func14, Try.ntmps14
        go_wp2_with (go_at_call 26; refine (power_okI _ _ (by omega) (by omega)).mono ?_; rintro e w' ⟨rfl, rfl⟩)
        go_ret2
        exact ⟨rfl, rfl⟩

/-- What is left of n behind j bytes. -/
def sh (n : Int) (j : Nat) : Int := ((n.toNat / 256 ^ j : Nat) : Int)
theorem sh_bd (n : Int) (j : Nat) (h0 : 0 ≤ n) : 0 ≤ sh n j ∧ sh n j ≤ n := by
  unfold sh
  have := Nat.div_le_self n.toNat (256 ^ j)
  generalize n.toNat / 256 ^ j = q at *
  omega
theorem sh_zero (n : Int) (h0 : 0 ≤ n) : sh n 0 = n := by unfold sh; simp; omega
theorem sh_succ (n : Int) (j : Nat) : sh n (j + 1) = sh n j / 256 := by
  unfold sh
  rw [Nat.pow_succ, ← Nat.div_div_eq_div_mul, Int.natCast_ediv]
  rfl
theorem sh_byte (n : Int) (j : Nat) : sh n j % 256 = ((UInt8.ofNat (n.toNat / 256 ^ j)).toNat : Int) := by
  unfold sh
  rw [UInt8.toNat_ofNat', Int.natCast_emod]
  rfl

set_option maxRecDepth 100000 in
set_option maxHeartbeats 800000 in
theorem refPut_ok1 (w : World) (n : Int) (hn0 : 0 ≤ n) (hn : n < pw 1) :
    Calls Try.prog 14 #[.int .i64 n, .int .i64 1] w fun e w' => ∃ A c, e = .returned (.tuple #[.slice A 1 c, .int .i64 0]) ∧ FreshR w w' A 1 c (le 1 n.toNat) := by
  have hd : decide (n < 0) = false := by simpa using hn0
  have hle : n ≤ 4294967296 := by have := pw_bd 1 (by omega); omega
  have hsb := fun j => sh_bd n j hn0
  have Hsb := Lib.hid hsb
  have Hs0 := Lib.hid (sh_zero n hn0)
  clear hsb
  go_enter Try.func14, Try.ntmps14
  go_wp2_with (go_at_call 26; refine (power_okI _ _ (by omega) (by omega)).mono ?_; rintro e w' ⟨rfl, rfl⟩)
  clear hd
  go_loopw [6, 7, 0] (fun out i v wr => ∃ (j : Nat) (A : Option Addr) (c : Nat), j ≤ 1 ∧ i = .int .i64 j ∧ out = .slice A j c ∧ v = .int .i64 (sh n j) ∧ OwV wr w.heap.size 5 A j c ((le j n.toNat).map bv) ∧ Mod (fun _ => False) w wr) (fun _ i _ _ => 4 - (intOf i).toNat)
  case atStart => exact ⟨0, none, 0, by omega, rfl, rfl, by rw [Hs0.out], OwV.nil _ _ _, Mod.refl _ _⟩
  case round =>
    obtain ⟨j, A, c, hj, rfl, rfl, rfl, hown, hmod⟩ := hrel
    by_cases hlt : j < 1
    · obtain ⟨hs1, hs2⟩ := Hsb.out j
      have hsz := hmod.size
      have hown1 : OwV (wr.alloc (.cells #[.int .u8 (sh n j % 256)] 5)) w.heap.size 5 A j c ((le j n.toNat).map bv) := hown.alloc _
      have hsrc := Src.one wr (.int .u8 (sh n j % 256)) 5 rfl
      have hml : j + 1 ≤ maxLen := by unfold maxLen; omega
      have hbase : w.heap.size ≤ (wr.alloc (.cells #[.int .u8 (sh n j % 256)] 5)).heap.size := by simp; omega
      go_wp2_with (at_builtin; refine wpList_app (.tmp 33) (.tmp 37) byteElem rfl rfl rfl rfl hown1 hsrc (by omega) hml hbase ?_)
      intro A' c' w' hown' hgr hat
      have hm2 : Mod (fun _ => False) w w' := (hmod.alloc (.cells #[.int .u8 (sh n j % 256)] 5)).grown hgr (fun k e hk => by have := (hown.lt k e).1; omega)
      clear hat hown1 hsrc hown hgr
      go_wp2
      go_roundw
      case rel =>
        refine ⟨j + 1, A', c', by omega, by go_num, rfl, by rw [sh_succ], ?_, hm2⟩
        rw [le_snoc, List.map_append, List.map_cons, List.map_nil]
        rw [sh_byte] at hown'
        exact hown'
      case measure => simp [intOf]; omega
    · obtain rfl : j = 1 := by omega
      go_wp2
      go_ret2
      exact ⟨A, c, rfl, hown, hmod⟩

set_option maxRecDepth 100000 in
set_option maxHeartbeats 800000 in
theorem refPut_ok2 (w : World) (n : Int) (hn0 : 0 ≤ n) (hn : n < pw 2) :
    Calls Try.prog 14 #[.int .i64 n, .int .i64 2] w fun e w' => ∃ A c, e = .returned (.tuple #[.slice A 2 c, .int .i64 0]) ∧ FreshR w w' A 2 c (le 2 n.toNat) := by
  have hd : decide (n < 0) = false := by simpa using hn0
  have hle : n ≤ 4294967296 := by have := pw_bd 2 (by omega); omega
  have hsb := fun j => sh_bd n j hn0
  have Hsb := Lib.hid hsb
  have Hs0 := Lib.hid (sh_zero n hn0)
  clear hsb
  go_enter Try.func14, Try.ntmps14
  go_wp2_with (go_at_call 26; refine (power_okI _ _ (by omega) (by omega)).mono ?_; rintro e w' ⟨rfl, rfl⟩)
  clear hd
  go_loopw [6, 7, 0] (fun out i v wr => ∃ (j : Nat) (A : Option Addr) (c : Nat), j ≤ 2 ∧ i = .int .i64 j ∧ out = .slice A j c ∧ v = .int .i64 (sh n j) ∧ OwV wr w.heap.size 5 A j c ((le j n.toNat).map bv) ∧ Mod (fun _ => False) w wr) (fun _ i _ _ => 4 - (intOf i).toNat)
  case atStart => exact ⟨0, none, 0, by omega, rfl, rfl, by rw [Hs0.out], OwV.nil _ _ _, Mod.refl _ _⟩
  case round =>
    obtain ⟨j, A, c, hj, rfl, rfl, rfl, hown, hmod⟩ := hrel
    by_cases hlt : j < 2
    · obtain ⟨hs1, hs2⟩ := Hsb.out j
      have hsz := hmod.size
      have hown1 : OwV (wr.alloc (.cells #[.int .u8 (sh n j % 256)] 5)) w.heap.size 5 A j c ((le j n.toNat).map bv) := hown.alloc _
      have hsrc := Src.one wr (.int .u8 (sh n j % 256)) 5 rfl
      have hml : j + 1 ≤ maxLen := by unfold maxLen; omega
      have hbase : w.heap.size ≤ (wr.alloc (.cells #[.int .u8 (sh n j % 256)] 5)).heap.size := by simp; omega
      go_wp2_with (at_builtin; refine wpList_app (.tmp 33) (.tmp 37) byteElem rfl rfl rfl rfl hown1 hsrc (by omega) hml hbase ?_)
      intro A' c' w' hown' hgr hat
      have hm2 : Mod (fun _ => False) w w' := (hmod.alloc (.cells #[.int .u8 (sh n j % 256)] 5)).grown hgr (fun k e hk => by have := (hown.lt k e).1; omega)
      clear hat hown1 hsrc hown hgr
      go_wp2
      go_roundw
      case rel =>
        refine ⟨j + 1, A', c', by omega, by go_num, rfl, by rw [sh_succ], ?_, hm2⟩
        rw [le_snoc, List.map_append, List.map_cons, List.map_nil]
        rw [sh_byte] at hown'
        exact hown'
      case measure => simp [intOf]; omega
    · obtain rfl : j = 2 := by omega
      go_wp2
      go_ret2
      exact ⟨A, c, rfl, hown, hmod⟩

set_option maxRecDepth 100000 in
set_option maxHeartbeats 800000 in
theorem refPut_ok4 (w : World) (n : Int) (hn0 : 0 ≤ n) (hn : n < pw 4) :
    Calls Try.prog 14 #[.int .i64 n, .int .i64 4] w fun e w' => ∃ A c, e = .returned (.tuple #[.slice A 4 c, .int .i64 0]) ∧ FreshR w w' A 4 c (le 4 n.toNat) := by
  have hd : decide (n < 0) = false := by simpa using hn0
  have hle : n ≤ 4294967296 := by have := pw_bd 4 (by omega); omega
  have hsb := fun j => sh_bd n j hn0
  have Hsb := Lib.hid hsb
  have Hs0 := Lib.hid (sh_zero n hn0)
  clear hsb
  go_enter Try.func14, Try.ntmps14
  go_wp2_with (go_at_call 26; refine (power_okI _ _ (by omega) (by omega)).mono ?_; rintro e w' ⟨rfl, rfl⟩)
  clear hd
  go_loopw [6, 7, 0] (fun out i v wr => ∃ (j : Nat) (A : Option Addr) (c : Nat), j ≤ 4 ∧ i = .int .i64 j ∧ out = .slice A j c ∧ v = .int .i64 (sh n j) ∧ OwV wr w.heap.size 5 A j c ((le j n.toNat).map bv) ∧ Mod (fun _ => False) w wr) (fun _ i _ _ => 4 - (intOf i).toNat)
  case atStart => exact ⟨0, none, 0, by omega, rfl, rfl, by rw [Hs0.out], OwV.nil _ _ _, Mod.refl _ _⟩
  case round =>
    obtain ⟨j, A, c, hj, rfl, rfl, rfl, hown, hmod⟩ := hrel
    by_cases hlt : j < 4
    · obtain ⟨hs1, hs2⟩ := Hsb.out j
      have hsz := hmod.size
      have hown1 : OwV (wr.alloc (.cells #[.int .u8 (sh n j % 256)] 5)) w.heap.size 5 A j c ((le j n.toNat).map bv) := hown.alloc _
      have hsrc := Src.one wr (.int .u8 (sh n j % 256)) 5 rfl
      have hml : j + 1 ≤ maxLen := by unfold maxLen; omega
      have hbase : w.heap.size ≤ (wr.alloc (.cells #[.int .u8 (sh n j % 256)] 5)).heap.size := by simp; omega
      go_wp2_with (at_builtin; refine wpList_app (.tmp 33) (.tmp 37) byteElem rfl rfl rfl rfl hown1 hsrc (by omega) hml hbase ?_)
      intro A' c' w' hown' hgr hat
      have hm2 : Mod (fun _ => False) w w' := (hmod.alloc (.cells #[.int .u8 (sh n j % 256)] 5)).grown hgr (fun k e hk => by have := (hown.lt k e).1; omega)
      clear hat hown1 hsrc hown hgr
      go_wp2
      go_roundw
      case rel =>
        refine ⟨j + 1, A', c', by omega, by go_num, rfl, by rw [sh_succ], ?_, hm2⟩
        rw [le_snoc, List.map_append, List.map_cons, List.map_nil]
        rw [sh_byte] at hown'
        exact hown'
      case measure => simp [intOf]; omega
    · obtain rfl : j = 4 := by omega
      go_wp2
      go_ret2
      exact ⟨A, c, rfl, hown, hmod⟩

theorem refPut_ok (w : World) (n k : Int) (hk : widthOk k = true) (hn0 : 0 ≤ n) (hn : n < pw k.toNat) :
    Calls Try.prog 14 #[.int .i64 n, .int .i64 k] w fun e w' => ∃ A c, e = .returned (.tuple #[.slice A k.toNat c, .int .i64 0]) ∧ FreshR w w' A k.toNat c (le k.toNat n.toNat) := by
  rcases widthOk_cases hk with rfl | rfl | rfl
  · exact refPut_ok1 w n hn0 hn
  · exact refPut_ok2 w n hn0 hn
  · exact refPut_ok4 w n hn0 hn
end Go.Proofs.Ytllpiegdjaafnaa
