/-
  The contract of bobbinref01.Get.
-/
import Derived.Test.YtmgimilcnjlpeaaRefPut6
import Derived.Deep.RegionLaw
namespace Go.Proofs.Ytmgimilcnjlpeaa
open Go Go.RowKit

theorem calls_quiet {P : Program} {f : FuncId} {args : Array Value} {w : World} {n : Nat} {v : Value}
    (h : Calls P f args (w.drewN n) fun e w' => e = .returned v ∧ w.drewN n = w') : Calls P f args (w.drewN n) fun e w'' => e = .returned v ∧ ∃ m, w'' = w.drewN m :=
  h.mono fun _ _ ⟨he, hw⟩ => ⟨he, n, hw.symm⟩

set_option maxRecDepth 100000 in
theorem refGet_arg (w : World) (A : Option Addr) (n c : Nat) (k : Int) (hk : widthOk k = false) :
    Calls Try.prog 40 #[.slice A n c, .int .i64 k] w fun e w' => e = .returned (.tuple #[.int .i64 0, .slice A n c, .int .i64 1]) ∧ w = w' := by
  obtain ⟨k1, k2, k4⟩ := widthOk_ne hk
  go_enter Try.func40, Try.ntmps40
  go_wp2
  go_ret3
  exact ⟨rfl, rfl⟩

set_option maxRecDepth 100000 in
theorem refGet_short (w : World) (A : Option Addr) (n c : Nat) (k : Int) (hk : widthOk k = true) (hn : (n : Int) < k) :
    Calls Try.prog 40 #[.slice A n c, .int .i64 k] w fun e w' => e = .returned (.tuple #[.int .i64 0, .slice A n c, .int .i64 6]) ∧ w = w' := by
  rcases widthOk_cases hk with rfl | rfl | rfl
  all_goals
    go_enter Try.func40, Try.ntmps40
    go_wp2
    go_ret3
    exact ⟨rfl, rfl⟩

/-- What is left of a slice behind k bytes. -/
def Tail (w : World) (A : Option Addr) (n c k : Nat) (xs : List UInt8) (A' : Option Addr) : Prop := Sl w A' (n - k) (c - k) (xs.drop k) ∧ blkOf A' = blkOf A

theorem Sl.tail {w : World} {b o n c : Nat} {xs : List UInt8} (h : Sl w (some ⟨b, o, none⟩) n c xs) (k : Nat) (hk : k ≤ n) :
    Tail w (some ⟨b, o, none⟩) n c k xs (if c = k then some ⟨b, o, none⟩ else some ⟨b, o + k, none⟩) := by
  have hc := h.cap
  refine ⟨⟨by simp [h.len], by omega, fun hn => ?_⟩, by split <;> rfl⟩
  rw [if_neg (by omega)]
  obtain ⟨b', o', e, hcell⟩ := h.2.2 (by omega)
  injection e with e; injection e with e1 e2; subst e1; subst e2
  refine ⟨b, o + k, rfl, fun j hj => ?_⟩
  rw [Nat.add_assoc, hcell (k + j) (by omega)]
  simp

theorem unle_take (xs : List UInt8) (j : Nat) (hj : j < xs.length) : unle (xs.take (j + 1)) = unle (xs.take j) + (xs[j]?.getD 0).toNat * 256 ^ j := by
  rw [List.take_succ_eq_append_getElem hj, unle_snoc, List.length_take, Nat.min_eq_left (by omega), List.getElem?_eq_getElem hj]
  rfl

theorem wrap_sum {t y p : Int} (h0 : 0 ≤ t) (h1 : t ≤ 4294967296) (h2 : 0 ≤ y) (h3 : y < 256) (h4 : 0 ≤ p) (h5 : p ≤ 4294967296) : wrap64 (t + wrap64 (y * p)) = t + y * p := by
  have a0 : 0 ≤ y * p := Int.mul_nonneg h2 h4
  have a1 : y * p ≤ 256 * 4294967296 := Int.mul_le_mul (by omega) h5 h4 (by omega)
  generalize y * p = q at *
  unfold wrap64
  omega

set_option maxRecDepth 100000 in
set_option maxHeartbeats 800000 in
theorem refGet_ok1 (w : World) (A : Option Addr) (n c : Nat) (xs : List UInt8) (h : Sl w A n c xs) (hc : c ≤ maxLen) (hn : 1 ≤ n) :
    Calls Try.prog 40 #[.slice A n c, .int .i64 1] w fun e w' => ∃ A' q, e = .returned (.tuple #[.int .i64 (unle (xs.take 1)), .slice A' (n - 1) (c - 1), .int .i64 0]) ∧ Tail w A n c 1 xs A' ∧ w' = w.drewN q := by
  obtain ⟨b, o, rfl, hcell⟩ := h.2.2 (by omega)
  have Htl := Lib.hid (h.tail 1 hn)
  have hC := h.cap
  have HL := Lib.hid h.len
  unfold maxLen at hc
  obtain ⟨T, HT⟩ : ∃ T : Nat → Int, Hid (∀ j, T j = (unle (xs.take j) : Int)) := ⟨_, fun _ => rfl⟩
  go_enter Try.func40, Try.ntmps40
  go_wp2
  go_loopw [7, 8] (fun a i wr => ∃ (j q : Nat), j ≤ 1 ∧ i = .int .i64 j ∧ a = .int .i64 (T j) ∧ wr = w.drewN q) (fun _ i _ => 4 - (intOf i).toNat)
  case atStart => exact ⟨0, 0, by omega, rfl, by rw [HT.out]; rfl, rfl⟩
  case round =>
    obtain ⟨j, q, hj, rfl, rfl, rfl⟩ := hrel
    by_cases hlt : j < 1
    · have hcj : (w.drewN q).cell? ⟨b, o + j, none⟩ = some (.int .u8 ((xs.getD j 0).toNat : Int)) := hcell j (by omega)
      have hpj := pw_bd j (by omega)
      have hx := (xs.getD j 0).toNat_lt
      have Hsum : Hid (T (j + 1) = T j + ((xs.getD j 0).toNat : Int) * pw j) := by
        show _ = _
        rw [HT.out, HT.out, unle_take xs j (by rw [HL.out]; omega), Int.natCast_add, Int.natCast_mul]
        rfl
      have hTb : 0 ≤ T j ∧ T j ≤ 4294967296 := by
        rw [HT.out]
        have h1 := unle_lt (xs.take j)
        have h2 : (xs.take j).length = j := by rw [List.length_take, HL.out]; omega
        rw [h2] at h1
        have h3 := pw_bd j (by omega)
        unfold pw at h3
        omega
      obtain ⟨hT0, hT1⟩ := hTb
      obtain ⟨hp0, hp1⟩ := hpj
      have HS := Lib.hid (wrap_sum hT0 hT1 (Int.natCast_nonneg (xs.getD j 0).toNat) (by omega) (by omega) hp1)
      generalize (xs.getD j 0).toNat = y at *
      obtain ⟨w9, hw9⟩ : ∃ w9, w9 = w.drewN q := ⟨_, rfl⟩
      rw [← hw9] at hcj ⊢
      have Hw9 := Lib.hid hw9
      clear hcell hw9
      go_wp2_with fail
      go_quiet ((go_at_call 47; exact calls_quiet (power_ok _ j (by omega))))
      go_wp2
      go_roundw
      case rel => exact ⟨j + 1, _, by omega, by go_num, by rw [Hsum.out, ← HS.out], by rw [Hw9.out]; exact World.drewN_drewN _ _ _⟩
      case measure => simp [intOf]; omega
    · obtain rfl : j = 1 := by omega
      obtain ⟨w9, hw9⟩ : ∃ w9, w9 = w.drewN q := ⟨_, rfl⟩
      rw [← hw9]
      have Hw9 := Lib.hid hw9
      clear hcell hw9
      by_cases hck : c = 1
      · obtain rfl : n = 1 := by omega
        subst hck
        have ht := Htl.out
        rw [if_pos rfl] at ht
        have Ht := Lib.hid ht
        clear ht Htl
        go_wp2_with fail
        go_quiet (fail)
        go_wp2
        go_ret3
        exact ⟨_, _, by rw [← HT.out]; rfl, Ht.out, by rw [Hw9.out]; exact World.drewN_drewN _ _ _⟩
      · have ht := Htl.out
        rw [if_neg hck] at ht
        have Ht := Lib.hid ht
        clear ht Htl
        go_wp2_with fail
        go_quiet (fail)
        go_wp2
        go_ret3
        exact ⟨_, _, by rw [← HT.out]; rfl, Ht.out, by rw [Hw9.out]; exact World.drewN_drewN _ _ _⟩

set_option maxRecDepth 100000 in
set_option maxHeartbeats 800000 in
theorem refGet_ok2 (w : World) (A : Option Addr) (n c : Nat) (xs : List UInt8) (h : Sl w A n c xs) (hc : c ≤ maxLen) (hn : 2 ≤ n) :
    Calls Try.prog 40 #[.slice A n c, .int .i64 2] w fun e w' => ∃ A' q, e = .returned (.tuple #[.int .i64 (unle (xs.take 2)), .slice A' (n - 2) (c - 2), .int .i64 0]) ∧ Tail w A n c 2 xs A' ∧ w' = w.drewN q := by
  obtain ⟨b, o, rfl, hcell⟩ := h.2.2 (by omega)
  have Htl := Lib.hid (h.tail 2 hn)
  have hC := h.cap
  have HL := Lib.hid h.len
  unfold maxLen at hc
  obtain ⟨T, HT⟩ : ∃ T : Nat → Int, Hid (∀ j, T j = (unle (xs.take j) : Int)) := ⟨_, fun _ => rfl⟩
  go_enter Try.func40, Try.ntmps40
  go_wp2
  go_loopw [7, 8] (fun a i wr => ∃ (j q : Nat), j ≤ 2 ∧ i = .int .i64 j ∧ a = .int .i64 (T j) ∧ wr = w.drewN q) (fun _ i _ => 4 - (intOf i).toNat)
  case atStart => exact ⟨0, 0, by omega, rfl, by rw [HT.out]; rfl, rfl⟩
  case round =>
    obtain ⟨j, q, hj, rfl, rfl, rfl⟩ := hrel
    by_cases hlt : j < 2
    · have hcj : (w.drewN q).cell? ⟨b, o + j, none⟩ = some (.int .u8 ((xs.getD j 0).toNat : Int)) := hcell j (by omega)
      have hpj := pw_bd j (by omega)
      have hx := (xs.getD j 0).toNat_lt
      have Hsum : Hid (T (j + 1) = T j + ((xs.getD j 0).toNat : Int) * pw j) := by
        show _ = _
        rw [HT.out, HT.out, unle_take xs j (by rw [HL.out]; omega), Int.natCast_add, Int.natCast_mul]
        rfl
      have hTb : 0 ≤ T j ∧ T j ≤ 4294967296 := by
        rw [HT.out]
        have h1 := unle_lt (xs.take j)
        have h2 : (xs.take j).length = j := by rw [List.length_take, HL.out]; omega
        rw [h2] at h1
        have h3 := pw_bd j (by omega)
        unfold pw at h3
        omega
      obtain ⟨hT0, hT1⟩ := hTb
      obtain ⟨hp0, hp1⟩ := hpj
      have HS := Lib.hid (wrap_sum hT0 hT1 (Int.natCast_nonneg (xs.getD j 0).toNat) (by omega) (by omega) hp1)
      generalize (xs.getD j 0).toNat = y at *
      obtain ⟨w9, hw9⟩ : ∃ w9, w9 = w.drewN q := ⟨_, rfl⟩
      rw [← hw9] at hcj ⊢
      have Hw9 := Lib.hid hw9
      clear hcell hw9
      go_wp2_with fail
      go_quiet ((go_at_call 47; exact calls_quiet (power_ok _ j (by omega))))
      go_wp2
      go_roundw
      case rel => exact ⟨j + 1, _, by omega, by go_num, by rw [Hsum.out, ← HS.out], by rw [Hw9.out]; exact World.drewN_drewN _ _ _⟩
      case measure => simp [intOf]; omega
    · obtain rfl : j = 2 := by omega
      obtain ⟨w9, hw9⟩ : ∃ w9, w9 = w.drewN q := ⟨_, rfl⟩
      rw [← hw9]
      have Hw9 := Lib.hid hw9
      clear hcell hw9
      by_cases hck : c = 2
      · obtain rfl : n = 2 := by omega
        subst hck
        have ht := Htl.out
        rw [if_pos rfl] at ht
        have Ht := Lib.hid ht
        clear ht Htl
        go_wp2_with fail
        go_quiet (fail)
        go_wp2
        go_ret3
        exact ⟨_, _, by rw [← HT.out]; rfl, Ht.out, by rw [Hw9.out]; exact World.drewN_drewN _ _ _⟩
      · have ht := Htl.out
        rw [if_neg hck] at ht
        have Ht := Lib.hid ht
        clear ht Htl
        go_wp2_with fail
        go_quiet (fail)
        go_wp2
        go_ret3
        exact ⟨_, _, by rw [← HT.out]; rfl, Ht.out, by rw [Hw9.out]; exact World.drewN_drewN _ _ _⟩

set_option maxRecDepth 100000 in
set_option maxHeartbeats 800000 in
theorem refGet_ok4 (w : World) (A : Option Addr) (n c : Nat) (xs : List UInt8) (h : Sl w A n c xs) (hc : c ≤ maxLen) (hn : 4 ≤ n) :
    Calls Try.prog 40 #[.slice A n c, .int .i64 4] w fun e w' => ∃ A' q, e = .returned (.tuple #[.int .i64 (unle (xs.take 4)), .slice A' (n - 4) (c - 4), .int .i64 0]) ∧ Tail w A n c 4 xs A' ∧ w' = w.drewN q := by
  obtain ⟨b, o, rfl, hcell⟩ := h.2.2 (by omega)
  have Htl := Lib.hid (h.tail 4 hn)
  have hC := h.cap
  have HL := Lib.hid h.len
  unfold maxLen at hc
  obtain ⟨T, HT⟩ : ∃ T : Nat → Int, Hid (∀ j, T j = (unle (xs.take j) : Int)) := ⟨_, fun _ => rfl⟩
  go_enter Try.func40, Try.ntmps40
  go_wp2
  go_loopw [7, 8] (fun a i wr => ∃ (j q : Nat), j ≤ 4 ∧ i = .int .i64 j ∧ a = .int .i64 (T j) ∧ wr = w.drewN q) (fun _ i _ => 4 - (intOf i).toNat)
  case atStart => exact ⟨0, 0, by omega, rfl, by rw [HT.out]; rfl, rfl⟩
  case round =>
    obtain ⟨j, q, hj, rfl, rfl, rfl⟩ := hrel
    by_cases hlt : j < 4
    · have hcj : (w.drewN q).cell? ⟨b, o + j, none⟩ = some (.int .u8 ((xs.getD j 0).toNat : Int)) := hcell j (by omega)
      have hpj := pw_bd j (by omega)
      have hx := (xs.getD j 0).toNat_lt
      have Hsum : Hid (T (j + 1) = T j + ((xs.getD j 0).toNat : Int) * pw j) := by
        show _ = _
        rw [HT.out, HT.out, unle_take xs j (by rw [HL.out]; omega), Int.natCast_add, Int.natCast_mul]
        rfl
      have hTb : 0 ≤ T j ∧ T j ≤ 4294967296 := by
        rw [HT.out]
        have h1 := unle_lt (xs.take j)
        have h2 : (xs.take j).length = j := by rw [List.length_take, HL.out]; omega
        rw [h2] at h1
        have h3 := pw_bd j (by omega)
        unfold pw at h3
        omega
      obtain ⟨hT0, hT1⟩ := hTb
      obtain ⟨hp0, hp1⟩ := hpj
      have HS := Lib.hid (wrap_sum hT0 hT1 (Int.natCast_nonneg (xs.getD j 0).toNat) (by omega) (by omega) hp1)
      generalize (xs.getD j 0).toNat = y at *
      obtain ⟨w9, hw9⟩ : ∃ w9, w9 = w.drewN q := ⟨_, rfl⟩
      rw [← hw9] at hcj ⊢
      have Hw9 := Lib.hid hw9
      clear hcell hw9
      go_wp2_with fail
      go_quiet ((go_at_call 47; exact calls_quiet (power_ok _ j (by omega))))
      go_wp2
      go_roundw
      case rel => exact ⟨j + 1, _, by omega, by go_num, by rw [Hsum.out, ← HS.out], by rw [Hw9.out]; exact World.drewN_drewN _ _ _⟩
      case measure => simp [intOf]; omega
    · obtain rfl : j = 4 := by omega
      obtain ⟨w9, hw9⟩ : ∃ w9, w9 = w.drewN q := ⟨_, rfl⟩
      rw [← hw9]
      have Hw9 := Lib.hid hw9
      clear hcell hw9
      by_cases hck : c = 4
      · obtain rfl : n = 4 := by omega
        subst hck
        have ht := Htl.out
        rw [if_pos rfl] at ht
        have Ht := Lib.hid ht
        clear ht Htl
        go_wp2_with fail
        go_quiet (fail)
        go_wp2
        go_ret3
        exact ⟨_, _, by rw [← HT.out]; rfl, Ht.out, by rw [Hw9.out]; exact World.drewN_drewN _ _ _⟩
      · have ht := Htl.out
        rw [if_neg hck] at ht
        have Ht := Lib.hid ht
        clear ht Htl
        go_wp2_with fail
        go_quiet (fail)
        go_wp2
        go_ret3
        exact ⟨_, _, by rw [← HT.out]; rfl, Ht.out, by rw [Hw9.out]; exact World.drewN_drewN _ _ _⟩

theorem refGet_ok (w : World) (A : Option Addr) (n c : Nat) (xs : List UInt8) (h : Sl w A n c xs) (hc : c ≤ maxLen) (k : Int) (hk : widthOk k = true) (hn : k ≤ n) :
    Calls Try.prog 40 #[.slice A n c, .int .i64 k] w fun e w' => ∃ A' q, e = .returned (.tuple #[.int .i64 (unle (xs.take k.toNat)), .slice A' (n - k.toNat) (c - k.toNat), .int .i64 0]) ∧ Tail w A n c k.toNat xs A' ∧ w' = w.drewN q := by
  rcases widthOk_cases hk with rfl | rfl | rfl
  · exact refGet_ok1 w A n c xs h hc (by omega)
  · exact refGet_ok2 w A n c xs h hc (by omega)
  · exact refGet_ok4 w A n c xs h hc (by omega)

end Go.Proofs.Ytmgimilcnjlpeaa
