/-
  The contract of bobbinref01.Get.
  The contract of bobbinref01.Take; the capacity of a row of the call's own.
  The contract of bobbinref02.Open.
-/
import Derived.Test.YtnbamljaiahmdaaGreatQDecE
import Derived.Deep.RegionLaw
import Derived.Test.YtnbamljaiahmdaaGreatQB
namespace Go.Proofs.YtnbamljaiahmdaaGreat
open Go Go.RowKit

theorem calls_quiet {P : Program} {f : FuncId} {args : Array Value} {w : World} {n : Nat} {v : Value}
    (h : Calls P f args (w.drewN n) fun e w' => e = .returned v ∧ w.drewN n = w') : Calls P f args (w.drewN n) fun e w'' => e = .returned v ∧ ∃ m, w'' = w.drewN m :=
  h.mono fun _ _ ⟨he, hw⟩ => ⟨he, n, hw.symm⟩

set_option maxRecDepth 100000 in
theorem refGet_arg (w : World) (A : Option Addr) (n c : Nat) (k : Int) (hk : widthOk k = false) :
    Calls Tryz.prog 45 #[.slice A n c, .int .i64 k] w fun e w' => e = .returned (.tuple #[.int .i64 0, .slice A n c, .int .i64 1]) ∧ w = w' := by
  obtain ⟨k1, k2, k4⟩ := widthOk_ne hk
  go_enter Tryz.func45, Tryz.ntmps45
  go_wp2
  go_ret3
  exact ⟨rfl, rfl⟩

set_option maxRecDepth 100000 in
theorem refGet_short (w : World) (A : Option Addr) (n c : Nat) (k : Int) (hk : widthOk k = true) (hn : (n : Int) < k) :
    Calls Tryz.prog 45 #[.slice A n c, .int .i64 k] w fun e w' => e = .returned (.tuple #[.int .i64 0, .slice A n c, .int .i64 6]) ∧ w = w' := by
  rcases widthOk_cases hk with rfl | rfl | rfl
  all_goals
    go_enter Tryz.func45, Tryz.ntmps45
    go_wp2
    go_ret3
    exact ⟨rfl, rfl⟩

/-- What is left of a slice behind k bytes. -/
def Tail (w : World) (A : Option Addr) (n c k : Nat) (xs : List UInt8) (A' : Option Addr) : Prop := Sl w A' (n - k) (c - k) (xs.drop k) ∧ blkOf A' = blkOf A

theorem Sl.tail {w : World} {b o n c : Nat} {xs : List UInt8} (h : Sl w (some ⟨b, o, none⟩) n c xs) (k : Nat) (hk : k ≤ n) :
    Tail w (some ⟨b, o, none⟩) n c k xs (if c = k then some ⟨b, o, none⟩ else some ⟨b, o + k, none⟩) := by
  have hc := h.cap
  refine ⟨⟨by simp [h.len], by omega, fun hn => ?_⟩, by split <;> rfl⟩
  rw [if_neg (by omega)]
  obtain ⟨b', o', e, hcell⟩ := h.2.2 (by omega)
  injection e with e; injection e with e1 e2; subst e1; subst e2
  refine ⟨b, o + k, rfl, fun j hj => ?_⟩
  rw [Nat.add_assoc, hcell (k + j) (by omega)]
  simp

theorem unle_take (xs : List UInt8) (j : Nat) (hj : j < xs.length) : unle (xs.take (j + 1)) = unle (xs.take j) + (xs[j]?.getD 0).toNat * 256 ^ j := by
  rw [List.take_succ_eq_append_getElem hj, unle_snoc, List.length_take, Nat.min_eq_left (by omega), List.getElem?_eq_getElem hj]
  rfl

theorem wrap_sum {t y p : Int} (h0 : 0 ≤ t) (h1 : t ≤ 4294967296) (h2 : 0 ≤ y) (h3 : y < 256) (h4 : 0 ≤ p) (h5 : p ≤ 4294967296) : wrap64 (t + wrap64 (y * p)) = t + y * p := by
  have a0 : 0 ≤ y * p := Int.mul_nonneg h2 h4
  have a1 : y * p ≤ 256 * 4294967296 := Int.mul_le_mul (by omega) h5 h4 (by omega)
  generalize y * p = q at *
  unfold wrap64
  omega

set_option maxRecDepth 100000 in
set_option maxHeartbeats 800000 in
theorem refGet_ok1 (w : World) (A : Option Addr) (n c : Nat) (xs : List UInt8) (h : Sl w A n c xs) (hc : c ≤ maxLen) (hn : 1 ≤ n) :
    Calls Tryz.prog 45 #[.slice A n c, .int .i64 1] w fun e w' => ∃ A' q, e = .returned (.tuple #[.int .i64 (unle (xs.take 1)), .slice A' (n - 1) (c - 1), .int .i64 0]) ∧ Tail w A n c 1 xs A' ∧ w' = w.drewN q := by
  obtain ⟨b, o, rfl, hcell⟩ := h.2.2 (by omega)
  have Htl := Lib.hid (h.tail 1 hn)
  have hC := h.cap
  have HL := Lib.hid h.len
  unfold maxLen at hc
  obtain ⟨T, HT⟩ : ∃ T : Nat → Int, Hid (∀ j, T j = (unle (xs.take j) : Int)) := ⟨_, fun _ => rfl⟩
  go_enter Tryz.func45, Tryz.ntmps45
  go_wp2
  go_loopw [7, 8] (fun a i wr => ∃ (j q : Nat), j ≤ 1 ∧ i = .int .i64 j ∧ a = .int .i64 (T j) ∧ wr = w.drewN q) (fun _ i _ => 4 - (intOf i).toNat)
  case atStart => exact ⟨0, 0, by omega, rfl, by rw [HT.out]; rfl, rfl⟩
  case round =>
    obtain ⟨j, q, hj, rfl, rfl, rfl⟩ := hrel
    by_cases hlt : j < 1
    · have hcj : (w.drewN q).cell? ⟨b, o + j, none⟩ = some (.int .u8 ((xs.getD j 0).toNat : Int)) := hcell j (by omega)
      have hpj := pw_bd j (by omega)
      have hx := (xs.getD j 0).toNat_lt
      have Hsum : Hid (T (j + 1) = T j + ((xs.getD j 0).toNat : Int) * pw j) := by
        show _ = _
        rw [HT.out, HT.out, unle_take xs j (by rw [HL.out]; omega), Int.natCast_add, Int.natCast_mul]
        rfl
      have hTb : 0 ≤ T j ∧ T j ≤ 4294967296 := by
        rw [HT.out]
        have h1 := unle_lt (xs.take j)
        have h2 : (xs.take j).length = j := by rw [List.length_take, HL.out]; omega
        rw [h2] at h1
        have h3 := pw_bd j (by omega)
        unfold pw at h3
        omega
      obtain ⟨hT0, hT1⟩ := hTb
      obtain ⟨hp0, hp1⟩ := hpj
      have HS := Lib.hid (wrap_sum hT0 hT1 (Int.natCast_nonneg (xs.getD j 0).toNat) (by omega) (by omega) hp1)
      generalize (xs.getD j 0).toNat = y at *
      obtain ⟨w9, hw9⟩ : ∃ w9, w9 = w.drewN q := ⟨_, rfl⟩
      rw [← hw9] at hcj ⊢
      have Hw9 := Lib.hid hw9
      clear hcell hw9
      go_wp2_with fail
      go_quiet ((go_at_call 65; exact calls_quiet (power_ok _ j (by omega))))
      go_wp2
      go_roundw
      case rel => exact ⟨j + 1, _, by omega, by go_num, by rw [Hsum.out, ← HS.out], by rw [Hw9.out]; exact World.drewN_drewN _ _ _⟩
      case measure => simp [intOf]; omega
    · obtain rfl : j = 1 := by omega
      obtain ⟨w9, hw9⟩ : ∃ w9, w9 = w.drewN q := ⟨_, rfl⟩
      rw [← hw9]
      have Hw9 := Lib.hid hw9
      clear hcell hw9
      by_cases hck : c = 1
      · obtain rfl : n = 1 := by omega
        subst hck
        have ht := Htl.out
        rw [if_pos rfl] at ht
        have Ht := Lib.hid ht
        clear ht Htl
        go_wp2_with fail
        go_quiet (fail)
        go_wp2
        go_ret3
        exact ⟨_, _, by rw [← HT.out]; rfl, Ht.out, by rw [Hw9.out]; exact World.drewN_drewN _ _ _⟩
      · have ht := Htl.out
        rw [if_neg hck] at ht
        have Ht := Lib.hid ht
        clear ht Htl
        go_wp2_with fail
        go_quiet (fail)
        go_wp2
        go_ret3
        exact ⟨_, _, by rw [← HT.out]; rfl, Ht.out, by rw [Hw9.out]; exact World.drewN_drewN _ _ _⟩

set_option maxRecDepth 100000 in
set_option maxHeartbeats 800000 in
theorem refGet_ok2 (w : World) (A : Option Addr) (n c : Nat) (xs : List UInt8) (h : Sl w A n c xs) (hc : c ≤ maxLen) (hn : 2 ≤ n) :
    Calls Tryz.prog 45 #[.slice A n c, .int .i64 2] w fun e w' => ∃ A' q, e = .returned (.tuple #[.int .i64 (unle (xs.take 2)), .slice A' (n - 2) (c - 2), .int .i64 0]) ∧ Tail w A n c 2 xs A' ∧ w' = w.drewN q := by
  obtain ⟨b, o, rfl, hcell⟩ := h.2.2 (by omega)
  have Htl := Lib.hid (h.tail 2 hn)
  have hC := h.cap
  have HL := Lib.hid h.len
  unfold maxLen at hc
  obtain ⟨T, HT⟩ : ∃ T : Nat → Int, Hid (∀ j, T j = (unle (xs.take j) : Int)) := ⟨_, fun _ => rfl⟩
  go_enter Tryz.func45, Tryz.ntmps45
  go_wp2
  go_loopw [7, 8] (fun a i wr => ∃ (j q : Nat), j ≤ 2 ∧ i = .int .i64 j ∧ a = .int .i64 (T j) ∧ wr = w.drewN q) (fun _ i _ => 4 - (intOf i).toNat)
  case atStart => exact ⟨0, 0, by omega, rfl, by rw [HT.out]; rfl, rfl⟩
  case round =>
    obtain ⟨j, q, hj, rfl, rfl, rfl⟩ := hrel
    by_cases hlt : j < 2
    · have hcj : (w.drewN q).cell? ⟨b, o + j, none⟩ = some (.int .u8 ((xs.getD j 0).toNat : Int)) := hcell j (by omega)
      have hpj := pw_bd j (by omega)
      have hx := (xs.getD j 0).toNat_lt
      have Hsum : Hid (T (j + 1) = T j + ((xs.getD j 0).toNat : Int) * pw j) := by
        show _ = _
        rw [HT.out, HT.out, unle_take xs j (by rw [HL.out]; omega), Int.natCast_add, Int.natCast_mul]
        rfl
      have hTb : 0 ≤ T j ∧ T j ≤ 4294967296 := by
        rw [HT.out]
        have h1 := unle_lt (xs.take j)
        have h2 : (xs.take j).length = j := by rw [List.length_take, HL.out]; omega
        rw [h2] at h1
        have h3 := pw_bd j (by omega)
        unfold pw at h3
        omega
      obtain ⟨hT0, hT1⟩ := hTb
      obtain ⟨hp0, hp1⟩ := hpj
      have HS := Lib.hid (wrap_sum hT0 hT1 (Int.natCast_nonneg (xs.getD j 0).toNat) (by omega) (by omega) hp1)
      generalize (xs.getD j 0).toNat = y at *
      obtain ⟨w9, hw9⟩ : ∃ w9, w9 = w.drewN q := ⟨_, rfl⟩
      rw [← hw9] at hcj ⊢
      have Hw9 := Lib.hid hw9
      clear hcell hw9
      go_wp2_with fail
      go_quiet ((go_at_call 65; exact calls_quiet (power_ok _ j (by omega))))
      go_wp2
      go_roundw
      case rel => exact ⟨j + 1, _, by omega, by go_num, by rw [Hsum.out, ← HS.out], by rw [Hw9.out]; exact World.drewN_drewN _ _ _⟩
      case measure => simp [intOf]; omega
    · obtain rfl : j = 2 := by omega
      obtain ⟨w9, hw9⟩ : ∃ w9, w9 = w.drewN q := ⟨_, rfl⟩
      rw [← hw9]
      have Hw9 := Lib.hid hw9
      clear hcell hw9
      by_cases hck : c = 2
      · obtain rfl : n = 2 := by omega
        subst hck
        have ht := Htl.out
        rw [if_pos rfl] at ht
        have Ht := Lib.hid ht
        clear ht Htl
        go_wp2_with fail
        go_quiet (fail)
        go_wp2
        go_ret3
        exact ⟨_, _, by rw [← HT.out]; rfl, Ht.out, by rw [Hw9.out]; exact World.drewN_drewN _ _ _⟩
      · have ht := Htl.out
        rw [if_neg hck] at ht
        have Ht := Lib.hid ht
        clear ht Htl
        go_wp2_with fail
        go_quiet (fail)
        go_wp2
        go_ret3
        exact ⟨_, _, by rw [← HT.out]; rfl, Ht.out, by rw [Hw9.out]; exact World.drewN_drewN _ _ _⟩

set_option maxRecDepth 100000 in
set_option maxHeartbeats 800000 in
theorem refGet_ok4 (w : World) (A : Option Addr) (n c : Nat) (xs : List UInt8) (h : Sl w A n c xs) (hc : c ≤ maxLen) (hn : 4 ≤ n) :
    Calls Tryz.prog 45 #[.slice A n c, .int .i64 4] w fun e w' => ∃ A' q, e = .returned (.tuple #[.int .i64 (unle (xs.take 4)), .slice A' (n - 4) (c - 4), .int .i64 0]) ∧ Tail w A n c 4 xs A' ∧ w' = w.drewN q := by
  obtain ⟨b, o, rfl, hcell⟩ := h.2.2 (by omega)
  have Htl := Lib.hid (h.tail 4 hn)
  have hC := h.cap
  have HL := Lib.hid h.len
  unfold maxLen at hc
  obtain ⟨T, HT⟩ : ∃ T : Nat → Int, Hid (∀ j, T j = (unle (xs.take j) : Int)) := ⟨_, fun _ => rfl⟩
  go_enter Tryz.func45, Tryz.ntmps45
  go_wp2
  go_loopw [7, 8] (fun a i wr => ∃ (j q : Nat), j ≤ 4 ∧ i = .int .i64 j ∧ a = .int .i64 (T j) ∧ wr = w.drewN q) (fun _ i _ => 4 - (intOf i).toNat)
  case atStart => exact ⟨0, 0, by omega, rfl, by rw [HT.out]; rfl, rfl⟩
  case round =>
    obtain ⟨j, q, hj, rfl, rfl, rfl⟩ := hrel
    by_cases hlt : j < 4
    · have hcj : (w.drewN q).cell? ⟨b, o + j, none⟩ = some (.int .u8 ((xs.getD j 0).toNat : Int)) := hcell j (by omega)
      have hpj := pw_bd j (by omega)
      have hx := (xs.getD j 0).toNat_lt
      have Hsum : Hid (T (j + 1) = T j + ((xs.getD j 0).toNat : Int) * pw j) := by
        show _ = _
        rw [HT.out, HT.out, unle_take xs j (by rw [HL.out]; omega), Int.natCast_add, Int.natCast_mul]
        rfl
      have hTb : 0 ≤ T j ∧ T j ≤ 4294967296 := by
        rw [HT.out]
        have h1 := unle_lt (xs.take j)
        have h2 : (xs.take j).length = j := by rw [List.length_take, HL.out]; omega
        rw [h2] at h1
        have h3 := pw_bd j (by omega)
        unfold pw at h3
        omega
      obtain ⟨hT0, hT1⟩ := hTb
      obtain ⟨hp0, hp1⟩ := hpj
      have HS := Lib.hid (wrap_sum hT0 hT1 (Int.natCast_nonneg (xs.getD j 0).toNat) (by omega) (by omega) hp1)
      generalize (xs.getD j 0).toNat = y at *
      obtain ⟨w9, hw9⟩ : ∃ w9, w9 = w.drewN q := ⟨_, rfl⟩
      rw [← hw9] at hcj ⊢
      have Hw9 := Lib.hid hw9
      clear hcell hw9
      go_wp2_with fail
      go_quiet ((go_at_call 65; exact calls_quiet (power_ok _ j (by omega))))
      go_wp2
      go_roundw
      case rel => exact ⟨j + 1, _, by omega, by go_num, by rw [Hsum.out, ← HS.out], by rw [Hw9.out]; exact World.drewN_drewN _ _ _⟩
      case measure => simp [intOf]; omega
    · obtain rfl : j = 4 := by omega
      obtain ⟨w9, hw9⟩ : ∃ w9, w9 = w.drewN q := ⟨_, rfl⟩
      rw [← hw9]
      have Hw9 := Lib.hid hw9
      clear hcell hw9
      by_cases hck : c = 4
      · obtain rfl : n = 4 := by omega
        subst hck
        have ht := Htl.out
        rw [if_pos rfl] at ht
        have Ht := Lib.hid ht
        clear ht Htl
        go_wp2_with fail
        go_quiet (fail)
        go_wp2
        go_ret3
        exact ⟨_, _, by rw [← HT.out]; rfl, Ht.out, by rw [Hw9.out]; exact World.drewN_drewN _ _ _⟩
      · have ht := Htl.out
        rw [if_neg hck] at ht
        have Ht := Lib.hid ht
        clear ht Htl
        go_wp2_with fail
        go_quiet (fail)
        go_wp2
        go_ret3
        exact ⟨_, _, by rw [← HT.out]; rfl, Ht.out, by rw [Hw9.out]; exact World.drewN_drewN _ _ _⟩

theorem refGet_ok (w : World) (A : Option Addr) (n c : Nat) (xs : List UInt8) (h : Sl w A n c xs) (hc : c ≤ maxLen) (k : Int) (hk : widthOk k = true) (hn : k ≤ n) :
    Calls Tryz.prog 45 #[.slice A n c, .int .i64 k] w fun e w' => ∃ A' q, e = .returned (.tuple #[.int .i64 (unle (xs.take k.toNat)), .slice A' (n - k.toNat) (c - k.toNat), .int .i64 0]) ∧ Tail w A n c k.toNat xs A' ∧ w' = w.drewN q := by
  rcases widthOk_cases hk with rfl | rfl | rfl
  · exact refGet_ok1 w A n c xs h hc (by omega)
  · exact refGet_ok2 w A n c xs h hc (by omega)
  · exact refGet_ok4 w A n c xs h hc (by omega)

end Go.Proofs.YtnbamljaiahmdaaGreat

namespace Go.Proofs.YtnbamljaiahmdaaGreat
open Go Go.RowKit

/-- The capacity of a row of the call's own has a bound. -/
theorem OwV.capM {w : World} {base : Nat} {e : TypeId} {A : Option Addr} {n c : Nat} {vs : List Value} (h : OwV w base e A n c vs) : c ≤ maxLen := by
  rcases h.2 with ⟨hv, _⟩ | ⟨g, cap, cur, hv, _, _, _, hc, _⟩
  · injection hv with _ _ hc; subst hc; unfold maxLen; omega
  · injection hv with _ _ hc'; subst hc'; exact hc

section
variable {P : Program} {w : World}
/-- append, the operation by itself (for a region that draws its order). -/
theorem wp_app {o : Oper} {a : Act} {K : Act → World → Prop} {Q : Exit → Act → World → Prop} (s x : Operand) {t e : TypeId} {z : Value} {bytes : Nat}
    {base : Nat} {A : Option Addr} {n c : Nat} {vs : List Value} {A2 : Option Addr} {m c2 : Nat} {news : List Value}
    (he : Elem P t e z bytes)
    (ho : o.op = .call { callee := .builtin .append, args := #[s, x], argTypes := #[t, t] })
    (hes : a.eval s = .slice A n c) (hex : a.eval x = .slice A2 m c2)
    (hown : OwV w base e A n c vs) (hs : Src w A2 m news)
    (hb : (n + m) * bytes ≤ 140737488355328) (h63 : n + m ≤ maxLen) (hbase : base ≤ w.heap.size)
    (h : ∀ A' c' w', OwV w' base e A' (n + m) c' (vs ++ news) → w.grownBy w' (blkOf A) → (blkOf A' = blkOf A ∨ blkOf A' = some w.heap.size) → K (a.put o.dst (.slice A' (n + m) c')) w') :
    Oper.wp P o a w K Q := by
  obtain ⟨A', c', w', hr, h2, h3, h4⟩ := run_app (P := P) (w := w) he o.type hown (c2 := c2) hs hb h63 hbase
  unfold Oper.wp execOp
  simp only [ho, resolve, invoke, builtin, Sem.run_bind, Sem.run_pure, Result.andThen_ok, List.map_toArray, List.map_cons, List.map_nil, hes, hex, hr]
  exact h A' c' w' h2 h3 h4
end

set_option maxRecDepth 100000 in
theorem refTake_short (w : World) (A : Option Addr) (n c : Nat) (xs : List UInt8) (h : Sl w A n c xs) (hn : n < 1 + (xs.getD 0 0).toNat) :
    Calls Tryz.prog 46 #[.slice A n c] w fun e w' => e = .returned (.tuple #[.slice none 0 0, .slice A n c, .int .i64 6]) ∧ w = w' := by
  by_cases h0 : n = 0
  · subst h0
    clear hn
    go_enter Tryz.func46, Tryz.ntmps46
    go_wp2
    go_ret3
    exact ⟨rfl, rfl⟩
  · obtain ⟨b, o, rfl, hcell⟩ := h.2.2 (by omega)
    obtain ⟨x, hx⟩ : ∃ x : Nat, (xs.getD 0 0).toNat = x := ⟨_, rfl⟩
    have hc0 : w.cell? ⟨b, o, none⟩ = some (.int .u8 (x : Int)) := by rw [← hx]; exact hcell 0 (by omega)
    have hb : ((n : Int) == 0) = false := by simp; omega
    rw [hx] at hn
    have hlt : (n : Int) - 1 < (x : Int) := by omega
    have hn0 : (0 : Int) < n := by omega
    have hx1 := (xs.getD 0 0).toNat_lt
    rw [hx] at hx1
    have hx2 : (x : Int) < 256 := by omega
    clear hcell hn hx h0 hx1
    go_enter Tryz.func46, Tryz.ntmps46
    go_wp2
    go_ret3
    exact ⟨rfl, rfl⟩

set_option maxRecDepth 100000 in
set_option maxHeartbeats 800000 in
theorem refTake_ok1 (w : World) (A : Option Addr) (n c : Nat) (xs : List UInt8) (h : Sl w A n c xs) (hc : c ≤ maxLen) (h0 : 0 < n) (x : Nat) (hx : (xs.getD 0 0).toNat = x) (hn : 1 + x ≤ n) (hc1 : c = 1) :
    Calls Tryz.prog 46 #[.slice A n c] w fun e w' => ∃ A1 c1 A', e = .returned (.tuple #[.slice A1 x c1, .slice A' (n - (1 + x)) (c - (1 + x)), .int .i64 0]) ∧
      FreshR w w' A1 x c1 ((xs.drop 1).take x) ∧ Tail w A n c (1 + x) xs A' := by
  obtain ⟨b, o, rfl, hcell⟩ := h.2.2 (by omega)
  have hc0 : w.cell? ⟨b, o, none⟩ = some (.int .u8 (x : Int)) := by rw [← hx]; exact hcell 0 (by omega)
  have hb : ((n : Int) == 0) = false := by simp; omega
  have hx1 := (xs.getD 0 0).toNat_lt
  rw [hx] at hx1
  have hx2 : (x : Int) < 256 := by omega
  have hn0 : (0 : Int) < n := by omega
  have hn1 : ¬ (n : Int) - 1 < (x : Int) := by omega
  have hn2 : 1 + (x : Int) ≤ n := by omega
  have hC := h.cap
  have hn3 : 1 + (x : Int) ≤ c := by omega
  have ht : (1 + (x : Int)).toNat = 1 + x := by omega
  have Htl := Lib.hid (h.tail (1 + x) hn)
  have hsub : Sl w (if c = 1 then some ⟨b, o, none⟩ else some ⟨b, o + 1, none⟩) x (c - 1) ((xs.drop 1).take x) := by
    refine ⟨by simp [h.len]; omega, by omega, fun hp => ?_⟩
    rw [if_neg (by omega)]
    refine ⟨b, o + 1, rfl, fun j hj => ?_⟩
    rw [Nat.add_assoc, hcell (1 + j) (by omega)]
    simp [hj, Nat.add_comm]
  have Hsub := Lib.hid hsub
  clear hcell hx hx1 hsub
  unfold maxLen at hc
  have hml : 0 + x ≤ maxLen := by unfold maxLen; omega
  have hwr : IntKind.i64.wrap (1 + (x : Int)) = 1 + (x : Int) := IntWalk.i64_in _ (by omega)
  have hp1 : (0 : Int) ≤ 1 + (x : Int) := by omega
  have h11 : (1 : Int) ≤ 1 + (x : Int) := by omega
  have hs := Hsub.out
  rw [if_pos hc1] at hs
  obtain rfl : x = 0 := by omega
  obtain rfl : n = 1 := by omega
  subst hc1
  have hw1 : IntKind.i64.wrap 1 = 1 := IntWalk.i64_in 1 (by omega)
  clear hwr hp1 h11 hn1 hn2 hn3 ht hb hn0
  have hsrc : Src w.drew _ _ _ := (hs).src
  have hnil : OwV w.drew w.heap.size 5 none 0 0 [] := OwV.nil _ _ _
  have hbase : w.heap.size ≤ w.drew.heap.size := Nat.le_refl _
  have hbb : (0 + 0) * 1 ≤ 140737488355328 := by omega
  have Ht := Lib.hid (show Tail w (some ⟨b, o, none⟩) 1 1 (1 + 0) xs (some ⟨b, o, none⟩) from by have := Htl.out; simpa using this)
  clear Htl Hsub
  go_enter Tryz.func46, Tryz.ntmps46
  go_wp2_with fail
  go_region_law ((rw [if_pos (by simp [Region.wanted])]); refine wp_app (A2 := some ⟨b, o, none⟩) (m := 0) (c2 := 0) (.const (.slice none 0 0)) (.tmp 27) byteElem rfl rfl (by go_simp) hnil hsrc hbb hml hbase ?_; intro A1 c1 w1 ho1 hg1 _)
  all_goals
    go_wp2
    go_ret3
    refine ⟨A1, c1, _, rfl, ⟨?_, (Mod.refl _ w).drew.grown hg1 (fun k e _ => by simp [blkOf] at e)⟩, Ht.out⟩
    simpa using ho1

set_option maxRecDepth 100000 in
set_option maxHeartbeats 800000 in
theorem refTake_ok2 (w : World) (A : Option Addr) (n c : Nat) (xs : List UInt8) (h : Sl w A n c xs) (hc : c ≤ maxLen) (h0 : 0 < n) (x : Nat) (hx : (xs.getD 0 0).toNat = x) (hn : 1 + x ≤ n) (hc1 : ¬ c = 1) (hc2 : c = 1 + x) :
    Calls Tryz.prog 46 #[.slice A n c] w fun e w' => ∃ A1 c1 A', e = .returned (.tuple #[.slice A1 x c1, .slice A' (n - (1 + x)) (c - (1 + x)), .int .i64 0]) ∧
      FreshR w w' A1 x c1 ((xs.drop 1).take x) ∧ Tail w A n c (1 + x) xs A' := by
  obtain ⟨b, o, rfl, hcell⟩ := h.2.2 (by omega)
  have hc0 : w.cell? ⟨b, o, none⟩ = some (.int .u8 (x : Int)) := by rw [← hx]; exact hcell 0 (by omega)
  have hb : ((n : Int) == 0) = false := by simp; omega
  have hx1 := (xs.getD 0 0).toNat_lt
  rw [hx] at hx1
  have hx2 : (x : Int) < 256 := by omega
  have hn0 : (0 : Int) < n := by omega
  have hn1 : ¬ (n : Int) - 1 < (x : Int) := by omega
  have hn2 : 1 + (x : Int) ≤ n := by omega
  have hC := h.cap
  have hn3 : 1 + (x : Int) ≤ c := by omega
  have ht : (1 + (x : Int)).toNat = 1 + x := by omega
  have Htl := Lib.hid (h.tail (1 + x) hn)
  have hsub : Sl w (if c = 1 then some ⟨b, o, none⟩ else some ⟨b, o + 1, none⟩) x (c - 1) ((xs.drop 1).take x) := by
    refine ⟨by simp [h.len]; omega, by omega, fun hp => ?_⟩
    rw [if_neg (by omega)]
    refine ⟨b, o + 1, rfl, fun j hj => ?_⟩
    rw [Nat.add_assoc, hcell (1 + j) (by omega)]
    simp [hj, Nat.add_comm]
  have Hsub := Lib.hid hsub
  clear hcell hx hx1 hsub
  unfold maxLen at hc
  have hml : 0 + x ≤ maxLen := by unfold maxLen; omega
  have hwr : IntKind.i64.wrap (1 + (x : Int)) = 1 + (x : Int) := IntWalk.i64_in _ (by omega)
  have hp1 : (0 : Int) ≤ 1 + (x : Int) := by omega
  have h11 : (1 : Int) ≤ 1 + (x : Int) := by omega
  have hs := Hsub.out
  rw [if_neg hc1] at hs
  obtain rfl : n = 1 + x := by omega
  subst hc2
  rw [show 1 + x - 1 = x by omega] at hs
  have hb' : ((1 + (x : Int)) == 0) = false := by simp; omega
  have hx00 : ¬ x = 0 := by omega
  clear hb hn0 hn1 hn2 hn3
  have hsrc : Src w.drew _ _ _ := (hs).src
  have hnil : OwV w.drew w.heap.size 5 none 0 0 [] := OwV.nil _ _ _
  have hbase : w.heap.size ≤ w.drew.heap.size := Nat.le_refl _
  have hbb : (0 + x) * 1 ≤ 140737488355328 := by omega
  have Ht := Lib.hid (show Tail w (some ⟨b, o, none⟩) (1 + x) (1 + x) (1 + x) xs (some ⟨b, o, none⟩) from by have := Htl.out; simpa using this)
  clear Htl Hsub
  go_enter Tryz.func46, Tryz.ntmps46
  go_wp2_with fail
  go_region_law ((rw [if_pos (by simp [Region.wanted])]); refine wp_app (A2 := some ⟨b, o + 1, none⟩) (m := x) (c2 := x) (.const (.slice none 0 0)) (.tmp 27) byteElem rfl rfl (by go_simp) hnil hsrc hbb hml hbase ?_; intro A1 c1 w1 ho1 hg1 _)
  all_goals
    go_wp2
    go_ret3
    refine ⟨A1, c1, some ⟨b, o, none⟩, by rw [Nat.sub_self]; rfl, ⟨?_, (Mod.refl _ w).drew.grown hg1 (fun k e _ => by simp [blkOf] at e)⟩, Ht.out⟩
    simpa using ho1

set_option maxRecDepth 100000 in
set_option maxHeartbeats 800000 in
theorem refTake_ok3 (w : World) (A : Option Addr) (n c : Nat) (xs : List UInt8) (h : Sl w A n c xs) (hc : c ≤ maxLen) (h0 : 0 < n) (x : Nat) (hx : (xs.getD 0 0).toNat = x) (hn : 1 + x ≤ n) (hc1 : ¬ c = 1) (hc2 : ¬ c = 1 + x) :
    Calls Tryz.prog 46 #[.slice A n c] w fun e w' => ∃ A1 c1 A', e = .returned (.tuple #[.slice A1 x c1, .slice A' (n - (1 + x)) (c - (1 + x)), .int .i64 0]) ∧
      FreshR w w' A1 x c1 ((xs.drop 1).take x) ∧ Tail w A n c (1 + x) xs A' := by
  obtain ⟨b, o, rfl, hcell⟩ := h.2.2 (by omega)
  have hc0 : w.cell? ⟨b, o, none⟩ = some (.int .u8 (x : Int)) := by rw [← hx]; exact hcell 0 (by omega)
  have hb : ((n : Int) == 0) = false := by simp; omega
  have hx1 := (xs.getD 0 0).toNat_lt
  rw [hx] at hx1
  have hx2 : (x : Int) < 256 := by omega
  have hn0 : (0 : Int) < n := by omega
  have hn1 : ¬ (n : Int) - 1 < (x : Int) := by omega
  have hn2 : 1 + (x : Int) ≤ n := by omega
  have hC := h.cap
  have hn3 : 1 + (x : Int) ≤ c := by omega
  have ht : (1 + (x : Int)).toNat = 1 + x := by omega
  have Htl := Lib.hid (h.tail (1 + x) hn)
  have hsub : Sl w (if c = 1 then some ⟨b, o, none⟩ else some ⟨b, o + 1, none⟩) x (c - 1) ((xs.drop 1).take x) := by
    refine ⟨by simp [h.len]; omega, by omega, fun hp => ?_⟩
    rw [if_neg (by omega)]
    refine ⟨b, o + 1, rfl, fun j hj => ?_⟩
    rw [Nat.add_assoc, hcell (1 + j) (by omega)]
    simp [hj, Nat.add_comm]
  have Hsub := Lib.hid hsub
  clear hcell hx hx1 hsub
  unfold maxLen at hc
  have hml : 0 + x ≤ maxLen := by unfold maxLen; omega
  have hwr : IntKind.i64.wrap (1 + (x : Int)) = 1 + (x : Int) := IntWalk.i64_in _ (by omega)
  have hp1 : (0 : Int) ≤ 1 + (x : Int) := by omega
  have h11 : (1 : Int) ≤ 1 + (x : Int) := by omega
  have hs := Hsub.out
  rw [if_neg hc1] at hs
  have htl := Htl.out
  rw [if_neg hc2] at htl
  have hsrc : Src w.drew _ _ _ := (hs).src
  have hnil : OwV w.drew w.heap.size 5 none 0 0 [] := OwV.nil _ _ _
  have hbase : w.heap.size ≤ w.drew.heap.size := Nat.le_refl _
  have hbb : (0 + x) * 1 ≤ 140737488355328 := by omega
  have Ht := Lib.hid (show Tail w (some ⟨b, o, none⟩) n c (1 + x) xs (some ⟨b, o + (1 + x), none⟩) from htl)
  clear Htl Hsub
  go_enter Tryz.func46, Tryz.ntmps46
  go_wp2_with fail
  go_region_law ((rw [if_pos (by simp [Region.wanted])]); refine wp_app (A2 := some ⟨b, o + 1, none⟩) (m := x) (c2 := (c - 1)) (.const (.slice none 0 0)) (.tmp 27) byteElem rfl rfl (by go_simp) hnil hsrc hbb hml hbase ?_; intro A1 c1 w1 ho1 hg1 _)
  all_goals
    go_wp2
    go_ret3
    refine ⟨A1, c1, _, rfl, ⟨?_, (Mod.refl _ w).drew.grown hg1 (fun k e _ => by simp [blkOf] at e)⟩, Ht.out⟩
    simpa using ho1

theorem refTake_ok (w : World) (A : Option Addr) (n c : Nat) (xs : List UInt8) (h : Sl w A n c xs) (hc : c ≤ maxLen) (h0 : 0 < n) (x : Nat) (hx : (xs.getD 0 0).toNat = x) (hn : 1 + x ≤ n) :
    Calls Tryz.prog 46 #[.slice A n c] w fun e w' => ∃ A1 c1 A', e = .returned (.tuple #[.slice A1 x c1, .slice A' (n - (1 + x)) (c - (1 + x)), .int .i64 0]) ∧
      FreshR w w' A1 x c1 ((xs.drop 1).take x) ∧ Tail w A n c (1 + x) xs A' := by
  by_cases hc1 : c = 1
  · exact refTake_ok1 w A n c xs h hc h0 x hx hn hc1
  · by_cases hc2 : c = 1 + x
    · exact refTake_ok2 w A n c xs h hc h0 x hx hn hc1 hc2
    · exact refTake_ok3 w A n c xs h hc h0 x hx hn hc1 hc2
end Go.Proofs.YtnbamljaiahmdaaGreat

namespace Go.Proofs.YtnbamljaiahmdaaGreat
open Go Go.RowKit

def openB (n : Nat) (xs : List UInt8) : Bool := decide (n = 256) && decide (xs.take 4 = xs.drop 252)
def openBytes (n : Nat) (xs : List UInt8) : List UInt8 := if openB n xs then (xs.drop 4).take 248 else []
def openStamp (n : Nat) (xs : List UInt8) : Int := if openB n xs then (unle (xs.take 4) : Int) else 0
def openErr (n : Nat) (xs : List UInt8) : Int := if n = 256 then if openB n xs then 0 else 20 else 1
def Gives (w w' : World) (A : Option Addr) (n c : Nat) (ys : List UInt8) : Prop := Sl w' A n c ys ∧ Mod (fun _ => False) w w'

theorem unle_inj : ∀ (xs ys : List UInt8), xs.length = ys.length → unle xs = unle ys → xs = ys
  | [], [], _, _ => rfl
  | [], _ :: _, h, _ => by simp at h
  | _ :: _, [], h, _ => by simp at h
  | x :: xs, y :: ys, h, e => by
    have hx := x.toNat_lt
    have hy := y.toNat_lt
    simp only [unle] at e
    have e1 : x = y := UInt8.toNat_inj.1 (by omega)
    have e2 := unle_inj xs ys (by simpa using h) (by omega)
    rw [e1, e2]

/-- A part of a slice. -/
theorem Sl.sub {w : World} {b o n c : Nat} {xs : List UInt8} (h : Sl w (some ⟨b, o, none⟩) n c xs) (k m : Nat) (hk : k + m ≤ n) : Sl w (some ⟨b, o + k, none⟩) m (c - k) ((xs.drop k).take m) := by
  have hc := h.cap
  refine ⟨by simp [h.len]; omega, by omega, fun hp => ⟨b, o + k, rfl, fun j hj => ?_⟩⟩
  obtain ⟨b', o', e, hcell⟩ := h.2.2 (by omega)
  injection e with e
  injection e with e1 e2
  subst e1; subst e2
  rw [Nat.add_assoc, hcell (k + j) (by omega)]
  simp [hj]

set_option maxRecDepth 100000 in
set_option maxHeartbeats 1600000 in
theorem refOpen_any (w : World) (A : Option Addr) (n c : Nat) (xs : List UInt8) (h : Sl w A n c xs) (hc : c ≤ maxLen) :
    Calls Tryz.prog 26 #[.slice A n c] w fun e w' => ∃ A' k c', e = .returned (.tuple #[.slice A' k c', .int .i64 (openStamp n xs), .int .i64 (openErr n xs)]) ∧ k ≤ 256 ∧ c' ≤ maxLen ∧ Gives w w' A' k c' (openBytes n xs) := by
  by_cases h1 : n = 256
  · subst h1
    obtain ⟨b, o, rfl, hb⟩ := h.lt (by omega)
    have hcap := h.cap
    have hcap' : (256 : Int) ≤ c := by omega
    have hc4 : ¬ c = 4 := by omega
    have hc252 : ¬ c = 252 := by omega
    have Hc := Lib.hid hc
    have HL := Lib.hid h.len
    have Hu : ∀ l : List UInt8, l.length = 4 → unle l < 4294967296 := fun l hl => by have := unle_lt l; rw [hl] at this; exact this
    have HA : Hid ((unle (xs.take 4) : Int) = unle ((xs.drop 252).take 4) ↔ xs.take 4 = xs.drop 252) := by
      show _ ↔ _
      rw [drop252 HL.out]
      constructor
      · intro e
        exact unle_inj _ _ (by simp [HL.out]) (by omega)
      · intro e
        rw [e]
    have hga := Lib.hid (refGet_ok4 w _ 256 c xs h hc (by omega))
    have hs2 := Lib.hid (h.sub 252 4 (by omega))
    have hs3 := Lib.hid (h.sub 4 248 (by omega))
    clear hc
    go_enter Tryz.func26, Tryz.ntmps26
    go_wp2_with fail
    refine hga.out.mono ?_
    rintro e w1 ⟨A1, q1, rfl, _, rfl⟩
    clear hga
    generalize hua : unle (xs.take 4) = ua at *
    have Hua := Lib.hid hua
    clear hua
    go_wp2_with fail
    have hmx : c - 252 ≤ maxLen := by have := Hc.out; omega
    refine (refGet_ok4 _ _ 4 (c - 252) _ (Sl.drewN hs2.out q1) hmx (by omega)).mono ?_
    rintro e w2 ⟨A2, q2, rfl, _, rfl⟩
    rw [List.take_take, Nat.min_self]
    generalize hub : unle ((xs.drop 252).take 4) = ub at *
    have Hub := Lib.hid hub
    clear hub hs2 hmx
    rw [World.drewN_drewN]
    have hs4 := Lib.hid (Sl.drewN hs3.out (q1 + q2))
    have hM4 := (Mod.refl (fun _ => False) w).drewN (q1 + q2)
    generalize w.drewN (q1 + q2) = w4 at *
    clear hs3
    by_cases heq : xs.take 4 = xs.drop 252
    · have hbb : openB 256 xs = true := by simp [openB, heq]
      have hab : ub = ua := by have := HA.out.2 heq; omega
      subst hab
      have HE : Hid (openStamp 256 xs = (ub : Int) ∧ openErr 256 xs = 0 ∧ openBytes 256 xs = (xs.drop 4).take 248) := by
        refine ⟨?_, ?_, ?_⟩
        · rw [openStamp, hbb, ← Hua.out]; rfl
        · rw [openErr, hbb]; rfl
        · rw [openBytes, hbb]; rfl
      clear hbb heq HA
      have hsrc := hs4.out.src
      have hown0 := OwV.nil w4 w4.heap.size 5
      have hml : 0 + 248 ≤ maxLen := by unfold maxLen; omega
      go_wp2_with (at_builtin; refine wpList_app (.const (.slice none 0 0)) (.tmp 31) byteElem rfl rfl rfl rfl hown0 hsrc (by omega) hml (Nat.le_refl _) ?_)
      intro A5 c5 w5 hown5 hg5 _
      have hM5 : Mod (fun _ => False) w w5 := hM4.grown hg5 (fun k e _ => by simp [blkOf] at e)
      have hsl5 : Sl w5 A5 248 c5 ((xs.drop 4).take 248) := by
        have := OwV.sl (xs := (xs.drop 4).take 248) (by simpa using hown5)
        simpa using this
      have H5 := Lib.hid hsl5
      have Hc5 := Lib.hid hown5.capM
      clear hown5 hg5 hsrc hown0 hsl5
      go_wp2
      go_ret3
      refine ⟨A5, 248, c5, ?_, by omega, Hc5.out, ?_, hM5⟩
      · rw [HE.out.1, HE.out.2.1]; rfl
      · rw [HE.out.2.2]; exact H5.out
    · have hbb : openB 256 xs = false := by simp [openB, heq]
      have hne : ((ua : Int) != (ub : Int)) = true := by
        rw [bne_iff_ne]
        exact fun e => heq (HA.out.1 e)
      have HE : Hid (openStamp 256 xs = 0 ∧ openErr 256 xs = 20 ∧ openBytes 256 xs = []) := by
        refine ⟨?_, ?_, ?_⟩
        · rw [openStamp, hbb]; rfl
        · rw [openErr, hbb]; rfl
        · rw [openBytes, hbb]; rfl
      clear hbb heq HA
      go_wp2_with fail
      go_ret3
      refine ⟨none, 0, 0, ?_, by omega, Nat.zero_le _, ?_, hM4⟩
      · rw [HE.out.1, HE.out.2.1]; rfl
      · rw [HE.out.2.2]; exact Sl.none_ _ _ _
  · have hb : openB n xs = false := by simp [openB, h1]
    have hne : ((n : Int) != 256) = true := by rw [bne_iff_ne]; omega
    rw [openStamp, openErr, openBytes, hb, if_neg h1]
    clear h1 hb
    go_enter Tryz.func26, Tryz.ntmps26
    go_wp2_with fail
    go_ret3
    exact ⟨none, 0, 0, rfl, by omega, Nat.zero_le _, Sl.none_ _ _ _, Mod.refl _ _⟩
end Go.Proofs.YtnbamljaiahmdaaGreat
