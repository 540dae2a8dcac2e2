/-
  More contracts of package byt: Lay, Bytes, NewReader, Left, Get, Take.
-/
import Derived.Test.YtpkgeidenkjnfaaByt1
import Derived.Deep.DeepCutAuto
namespace Go.Proofs.Ytpkgeidenkjnfaa
open Go Go.RowKit

theorem lay_nil (w : World) (B : Option Addr) (m d : Nat) :
    Calls Try.prog 38 #[.pointer none, .slice B m d] w fun e w' => e = .returned (.int .i64 1) ∧ w = w' := by
  go_enter Try.func38, Try.ntmps38
  go_wp2_with fail
  go_ret
  exact ⟨rfl, rfl⟩

theorem lay_long (w : World) (g : Nat) (B : Option Addr) (m d : Nat) (hm : 255 < m) :
    Calls Try.prog 38 #[.pointer (some ⟨g, 0, none⟩), .slice B m d] w fun e w' => e = .returned (.int .i64 2) ∧ w = w' := by
  go_enter Try.func38, Try.ntmps38
  go_wp2_with fail
  go_ret
  exact ⟨rfl, rfl⟩

theorem Hence.refl (w : World) (A : Option Addr) : Hence w A A := .inl rfl

theorem byte_len (m : Nat) (h : m ≤ 255) : (m : Int) = ((UInt8.ofNat m).toNat : Int) := by
  rw [UInt8.toNat_ofNat']
  have : m % 2 ^ 8 = m := Nat.mod_eq_of_lt (by omega)
  rw [this]

set_option maxHeartbeats 400000 in
theorem lay_ok (w : World) (base g : Nat) (A : Option Addr) (n c : Nat) (xs : List UInt8) (h : Wr w base g A n c xs) (hb : n ≤ 900000)
    (B : Option Addr) (m d : Nat) (ys : List UInt8) (hs : Sl w B m d ys) (hm : m ≤ 255) (hsep : ∀ k, blkOf B = some k → 0 < m → ¬ WF g A k) :
    Calls Try.prog 38 #[.pointer (some ⟨g, 0, none⟩), .slice B m d] w fun e w' => e = .returned (.int .i64 0) ∧
      ∃ A' c', Wr w' base g A' (n + (m + 1)) c' (xs ++ (UInt8.ofNat m :: ys)) ∧ Mod (WF g A) w w' ∧ Hence w A A' := by
  go_enter Try.func38, Try.ntmps38
  go_wp2_with fail
  rw [show Value.int .u8 (m : Int) = bv (UInt8.ofNat m) from congrArg _ (byte_len m hm)]
  refine (add_ok _ base g A n c _ (h.alloc _) _ 1 1 [_] (Sl.one w _ _) (by omega)).mono ?_
  rintro e w2 ⟨rfl, A2, c2, hw2, hm2, hat2⟩
  have hm3 : Mod (WF g A) w w2 := ((Mod.refl _ _).alloc _).trans hm2 (fun _ _ h => h)
  have hat3 : Hence w A A2 := (Hence.refl w A).trans (Nat.le_refl _) (hat2.elim .inl (fun e => .inr ⟨_, e, by simp⟩))
  have hs2 : Sl w2 B m d ys := hs.mod hm3 hsep
  clear hm2 hat2
  go_wp2_with fail
  refine (add_ok _ base g A2 (n + 1) c2 _ hw2 B m d ys hs2 (by omega)).mono ?_
  rintro e w4 ⟨rfl, A4, c4, hw4, hm4, hat4⟩
  have hw5 : Wr w4 base g A4 (n + (m + 1)) c4 (xs ++ (UInt8.ofNat m :: ys)) := by
    rw [show n + (m + 1) = n + 1 + m by omega]
    simpa using hw4
  have hm5 : Mod (WF g A) w w4 := hm3.trans hm4 hat3.wf
  have hat5 : Hence w A A4 := hat3.trans hm3.size (hat4.elim .inl (fun e => .inr ⟨_, e, by simp⟩))
  clear hat4 hw4 hm4
  go_wp2
  go_ret
  exact ⟨rfl, A4, c4, hw5, hm5, hat5⟩

set_option maxHeartbeats 400000 in
theorem bytes_nil (w : World) :
    Calls Try.prog 28 #[.pointer none] w fun e w' => e = .returned (.slice none 0 0) ∧ w = w' := by
  go_enter Try.func28, Try.ntmps28
  go_wp2_with fail
  go_ret
  exact ⟨rfl, rfl⟩

/-- A fresh row that holds xs. -/
def Fresh (w w' : World) (xs : List UInt8) : Prop :=
  w'.heap[w.heap.size]? = some (.cells (xs.map bv).toArray 5 (0, 0)) ∧ w'.heap.size = w.heap.size + 1 ∧ Mod (fun _ => False) w w'

theorem bytes_ok (w : World) (base g : Nat) (A : Option Addr) (n c : Nat) (xs : List UInt8) (h : Wr w base g A n c xs) (hb : n ≤ 1000000) :
    Calls Try.prog 28 #[.pointer (some ⟨g, 0, none⟩)] w fun e w' => e = .returned (.slice (some ⟨w.heap.size, 0, none⟩) n n) ∧ Fresh w w' xs := by
  have h1 := h.cell
  have hsl := h.2.2.sl
  go_enter Try.func28, Try.ntmps28
  go_wp2_with fail
  refine (clone_ok _ A n c xs hsl (by omega)).mono ?_
  rintro e w1 ⟨rfl, hb1, hz1, hm1⟩
  have Hb := Lib.hid hb1
  have Hz := Lib.hid hz1
  clear hb1 hz1 h1
  go_wp2
  go_ret
  exact ⟨rfl, Hb.out, Hz.out, hm1⟩

/-- A Reader at block g whose bytes left are xs, in the row at A. -/
def Rd (w : World) (g : Nat) (A : Option Addr) (n c : Nat) (xs : List UInt8) : Prop :=
  w.heap[g]? = some (.cells #[.slice A n c] 74 (0, 0)) ∧ Sl w A n c xs ∧ (∀ k, blkOf A = some k → k ≠ g)
theorem Rd.cell {w : World} {g : Nat} {A : Option Addr} {n c : Nat} {xs : List UInt8} (h : Rd w g A n c xs) : w.cell? ⟨g, 0, none⟩ = some (.slice A n c) := by
  rw [cell_of_row w g 0 _ _ _ h.1]; rfl
theorem Rd.frozen {w : World} {g : Nat} {A : Option Addr} {n c : Nat} {xs : List UInt8} (h : Rd w g A n c xs) : w.frozen? ⟨g, 0, none⟩ = false := frozen_of_block h.1 0
theorem Rd.lt {w : World} {g : Nat} {A : Option Addr} {n c : Nat} {xs : List UInt8} (h : Rd w g A n c xs) : g < w.heap.size := (Array.getElem?_eq_some_iff.1 h.1).1
theorem Rd.mod {F : Nat → Prop} {w w' : World} {g : Nat} {A : Option Addr} {n c : Nat} {xs : List UInt8} (h : Rd w g A n c xs) (hm : Mod F w w') (hg : ¬ F g) (hF : ∀ k, blkOf A = some k → 0 < n → ¬ F k) : Rd w' g A n c xs :=
  ⟨(hm.block g h.lt hg).trans h.1, h.2.1.mod hm hF, h.2.2⟩

theorem newReader_ok (w : World) (A : Option Addr) (n c : Nat) (xs : List UInt8) (h : Sl w A n c xs) (hn : n ≤ 140737488355328) :
    Calls Try.prog 31 #[.slice A n c] w fun e w' => e = .returned (.pointer (some ⟨w.heap.size + 1, 0, none⟩)) ∧
      Rd w' (w.heap.size + 1) (some ⟨w.heap.size, 0, none⟩) n n xs ∧ w'.heap.size = w.heap.size + 2 ∧ Mod (fun _ => False) w w' := by
  go_enter Try.func31, Try.ntmps31
  go_wp2_with fail
  refine (clone_ok _ A n c xs h hn).mono ?_
  rintro e w1 ⟨rfl, hb1, hz1, hm1⟩
  have Hb := Lib.hid hb1
  have Hz := Lib.hid hz1
  clear hb1 hz1
  go_wp2
  go_ret
  have hz := Hz.out
  have hnew : w.heap.size < w1.heap.size := by omega
  refine ⟨by rw [hz]; rfl, ⟨by rw [← hz]; exact heap_alloc_new w1 _, ?_, fun k e => by simp [blkOf] at e; omega⟩, by simp [hz], hm1.alloc _⟩
  have ho : OwV w1 0 5 (some ⟨w.heap.size, 0, none⟩) n n (xs.map bv) := by
    have := OwV.of_block (base := 0) (e := 5) (w := w1) (g := w.heap.size) (cur := xs.map bv) (Nat.zero_le _) Hb.out (by simp [h.1]; unfold maxLen; omega)
    simpa [h.1] using this
  exact (ho.alloc _).sl

theorem left_nil (w : World) :
    Calls Try.prog 45 #[.pointer none] w fun e w' => e = .returned (.int .i64 0) ∧ w = w' := by
  go_enter Try.func45, Try.ntmps45
  go_wp2_with fail
  go_ret
  exact ⟨rfl, rfl⟩
theorem left_ok (w : World) (g : Nat) (A : Option Addr) (n c : Nat) (xs : List UInt8) (h : Rd w g A n c xs) :
    Calls Try.prog 45 #[.pointer (some ⟨g, 0, none⟩)] w fun e w' => e = .returned (.int .i64 n) ∧ w = w' := by
  have h1 := h.cell
  go_enter Try.func45, Try.ntmps45
  go_wp2_with fail
  go_ret
  exact ⟨rfl, rfl⟩

theorem get_arg (w : World) (v : Option Addr) (k : Int) (hk : widthOk k = false) :
    Calls Try.prog 42 #[.pointer v, .int .i64 k] w fun e w' => e = .returned (.tuple #[.int .i64 0, .int .i64 1]) ∧ w = w' := by
  have Hm := Lib.hid (mayWidth_ok w k false hk.symm)
  go_enter Try.func42, Try.ntmps42
  go_wp2_with (go_at_call 48; refine Hm.out.mono ?_; rintro e w' ⟨rfl, rfl⟩)
  go_ret2
  exact ⟨rfl, rfl⟩

theorem get_short_nil (w : World) (k : Int) (hk : widthOk k = true) :
    Calls Try.prog 42 #[.pointer none, .int .i64 k] w fun e w' => e = .returned (.tuple #[.int .i64 0, .int .i64 6]) ∧ w = w' := by
  have Hm := Lib.hid (mayWidth_ok w k true hk.symm)
  have hk0 : 0 < k := by
    have : k = 1 ∨ k = 2 ∨ k = 4 := by simpa [widthOk, or_assoc] using hk
    omega
  go_enter Try.func42, Try.ntmps42
  go_wp2_with (first
    | (go_at_call 48; refine Hm.out.mono ?_; rintro e w' ⟨rfl, rfl⟩)
    | (go_at_call 45; refine (left_nil _).mono ?_; rintro e w' ⟨rfl, rfl⟩))
  go_ret2
  exact ⟨rfl, rfl⟩

theorem get_short (w : World) (g : Nat) (A : Option Addr) (n c : Nat) (xs : List UInt8) (h : Rd w g A n c xs) (k : Int) (hk : widthOk k = true) (hn : (n : Int) < k) :
    Calls Try.prog 42 #[.pointer (some ⟨g, 0, none⟩), .int .i64 k] w fun e w' => e = .returned (.tuple #[.int .i64 0, .int .i64 6]) ∧ w = w' := by
  have Hm := Lib.hid (mayWidth_ok w k true hk.symm)
  go_enter Try.func42, Try.ntmps42
  go_wp2_with (first
    | (go_at_call 48; refine Hm.out.mono ?_; rintro e w' ⟨rfl, rfl⟩)
    | (go_at_call 45; refine (left_ok _ g A n c xs h).mono ?_; rintro e w' ⟨rfl, rfl⟩))
  go_ret2
  exact ⟨rfl, rfl⟩

/-- What a Get or a Take of k bytes leaves of a Reader. -/
def Got (w : World) (g : Nat) (A : Option Addr) (n c k : Nat) (xs : List UInt8) (w' : World) : Prop :=
  ∃ A', Rd w' g A' (n - k) (c - k) (xs.drop k) ∧ blkOf A' = blkOf A ∧ Mod (fun i => i = g) w w' ∧ w'.heap.size = w.heap.size

theorem Rd.cut {w : World} {g b o n c : Nat} {xs : List UInt8} (h : Rd w g (some ⟨b, o, none⟩) n c xs) (k : Nat) (hk : k ≤ n) :
    Got w g (some ⟨b, o, none⟩) n c k xs (w.setCell ⟨g, 0, none⟩ (.slice (if c = k then some ⟨b, o, none⟩ else some ⟨b, o + k, none⟩) (n - k) (c - k))) := by
  have hbg : b ≠ g := h.2.2 b rfl
  have hm : Mod (fun i => i = g) w (w.setCell ⟨g, 0, none⟩ (.slice (if c = k then some ⟨b, o, none⟩ else some ⟨b, o + k, none⟩) (n - k) (c - k))) := (Mod.refl (fun i => i = g) w).setCell (p := ⟨g, 0, none⟩) (fun _ => rfl) _
  have hsl : Sl w (if c = k then some ⟨b, o, none⟩ else some ⟨b, o + k, none⟩) (n - k) (c - k) (xs.drop k) := by
    have hc := h.2.1.cap
    refine ⟨by simp [h.2.1.len], by omega, fun hn => ?_⟩
    rw [if_neg (by omega)]
    obtain ⟨b', o', e, hcell⟩ := h.2.1.2.2 (by omega)
    injection e with e; injection e with e1 e2; subst e1; subst e2
    refine ⟨b, o + k, rfl, fun j hj => ?_⟩
    rw [Nat.add_assoc, hcell (k + j) (by omega)]
    simp
  refine ⟨if c = k then some ⟨b, o, none⟩ else some ⟨b, o + k, none⟩, ⟨by rw [heap_set h.1]; rfl, hsl.mod hm (fun i e _ => ?_), fun i e => ?_⟩, by split <;> rfl, hm, by simp [World.setCell]⟩
  · split at e <;> simp [blkOf] at e <;> omega
  · split at e <;> simp [blkOf] at e <;> omega

set_option maxHeartbeats 800000 in
theorem get_ok1 (w : World) (g : Nat) (A : Option Addr) (n c : Nat) (xs : List UInt8) (h : Rd w g A n c xs) (hc : c ≤ maxLen) (hn : 1 ≤ n) :
    Calls Try.prog 42 #[.pointer (some ⟨g, 0, none⟩), .int .i64 1] w fun e w' => e = .returned (.tuple #[.int .i64 (unle (xs.take 1)), .int .i64 0]) ∧ Got w g A n c 1 xs w' := by
  have Hm := Lib.hid (mayWidth_ok w 1 true (by decide))
  have hL := h.2.1.len
  have hC := h.2.1.cap
  have h1 := h.cell
  have h2 := h.frozen
  obtain ⟨b, o, rfl, hcell⟩ := h.2.1.2.2 (by omega)
  have hcut := h.cut 1 hn
  have Hcut := Lib.hid hcut
  have Hr := Lib.hid (fun j h1 h2 => or_round xs j h1 h2)
  have HL := Lib.hid hL
  unfold maxLen at hc
  clear hcut
  go_enter Try.func42, Try.ntmps42
  go_wp2_with (first
    | (go_at_call 48; refine Hm.out.mono ?_; rintro e w' ⟨rfl, rfl⟩)
    | (go_at_call 45; refine (left_ok _ g _ n c xs h).mono ?_; rintro e w' ⟨rfl, rfl⟩))
  clear Hm hL
  obtain ⟨T, HT⟩ : ∃ T : Nat → Int, Hid (∀ j, T j = (unle (xs.take j) : Int)) := ⟨_, fun _ => rfl⟩
  go_loop [16, 6] (fun i a => ∃ (j : Nat), j ≤ 1 ∧ i = .int .i64 j ∧ a = .int .i64 (T j)) (fun i _ => 4 - (intOf i).toNat)
  case atStart => exact ⟨0, by omega, rfl, by rw [HT.out]; rfl⟩
  case round =>
    obtain ⟨j, hj, rfl, rfl⟩ := hrel
    by_cases hlt : j < 1
    · have hcj := hcell j (by omega)
      clear hcell
      go_wp2
      go_round
      case rel => exact ⟨j + 1, by omega, by go_num, by rw [HT.out, HT.out, ← Hr.out j (by rw [HL.out]; omega) (by omega)]⟩
      case measure => simp [intOf]; omega
    · obtain rfl : j = 1 := by omega
      clear hcell
      by_cases hck : c = 1
      · obtain rfl : n = 1 := by omega
        subst hck
        have hw := Hcut.out
        rw [if_pos rfl] at hw
        have Hw := Lib.hid hw
        clear hw Hcut
        go_wp2
        go_ret2
        exact ⟨by rw [← HT.out]; rfl, Hw.out⟩
      · have hw := Hcut.out
        rw [if_neg hck] at hw
        have Hw := Lib.hid hw
        clear hw Hcut
        go_wp2
        go_ret2
        exact ⟨by rw [← HT.out]; rfl, Hw.out⟩

set_option maxHeartbeats 800000 in
theorem get_ok2 (w : World) (g : Nat) (A : Option Addr) (n c : Nat) (xs : List UInt8) (h : Rd w g A n c xs) (hc : c ≤ maxLen) (hn : 2 ≤ n) :
    Calls Try.prog 42 #[.pointer (some ⟨g, 0, none⟩), .int .i64 2] w fun e w' => e = .returned (.tuple #[.int .i64 (unle (xs.take 2)), .int .i64 0]) ∧ Got w g A n c 2 xs w' := by
  have Hm := Lib.hid (mayWidth_ok w 2 true (by decide))
  have hL := h.2.1.len
  have hC := h.2.1.cap
  have h1 := h.cell
  have h2 := h.frozen
  obtain ⟨b, o, rfl, hcell⟩ := h.2.1.2.2 (by omega)
  have hcut := h.cut 2 hn
  have Hcut := Lib.hid hcut
  have Hr := Lib.hid (fun j h1 h2 => or_round xs j h1 h2)
  have HL := Lib.hid hL
  unfold maxLen at hc
  clear hcut
  go_enter Try.func42, Try.ntmps42
  go_wp2_with (first
    | (go_at_call 48; refine Hm.out.mono ?_; rintro e w' ⟨rfl, rfl⟩)
    | (go_at_call 45; refine (left_ok _ g _ n c xs h).mono ?_; rintro e w' ⟨rfl, rfl⟩))
  clear Hm hL
  obtain ⟨T, HT⟩ : ∃ T : Nat → Int, Hid (∀ j, T j = (unle (xs.take j) : Int)) := ⟨_, fun _ => rfl⟩
  go_loop [16, 6] (fun i a => ∃ (j : Nat), j ≤ 2 ∧ i = .int .i64 j ∧ a = .int .i64 (T j)) (fun i _ => 4 - (intOf i).toNat)
  case atStart => exact ⟨0, by omega, rfl, by rw [HT.out]; rfl⟩
  case round =>
    obtain ⟨j, hj, rfl, rfl⟩ := hrel
    by_cases hlt : j < 2
    · have hcj := hcell j (by omega)
      clear hcell
      go_wp2
      go_round
      case rel => exact ⟨j + 1, by omega, by go_num, by rw [HT.out, HT.out, ← Hr.out j (by rw [HL.out]; omega) (by omega)]⟩
      case measure => simp [intOf]; omega
    · obtain rfl : j = 2 := by omega
      clear hcell
      by_cases hck : c = 2
      · obtain rfl : n = 2 := by omega
        subst hck
        have hw := Hcut.out
        rw [if_pos rfl] at hw
        have Hw := Lib.hid hw
        clear hw Hcut
        go_wp2
        go_ret2
        exact ⟨by rw [← HT.out]; rfl, Hw.out⟩
      · have hw := Hcut.out
        rw [if_neg hck] at hw
        have Hw := Lib.hid hw
        clear hw Hcut
        go_wp2
        go_ret2
        exact ⟨by rw [← HT.out]; rfl, Hw.out⟩

set_option maxHeartbeats 800000 in
theorem get_ok4 (w : World) (g : Nat) (A : Option Addr) (n c : Nat) (xs : List UInt8) (h : Rd w g A n c xs) (hc : c ≤ maxLen) (hn : 4 ≤ n) :
    Calls Try.prog 42 #[.pointer (some ⟨g, 0, none⟩), .int .i64 4] w fun e w' => e = .returned (.tuple #[.int .i64 (unle (xs.take 4)), .int .i64 0]) ∧ Got w g A n c 4 xs w' := by
  have Hm := Lib.hid (mayWidth_ok w 4 true (by decide))
  have hL := h.2.1.len
  have hC := h.2.1.cap
  have h1 := h.cell
  have h2 := h.frozen
  obtain ⟨b, o, rfl, hcell⟩ := h.2.1.2.2 (by omega)
  have hcut := h.cut 4 hn
  have Hcut := Lib.hid hcut
  have Hr := Lib.hid (fun j h1 h2 => or_round xs j h1 h2)
  have HL := Lib.hid hL
  unfold maxLen at hc
  clear hcut
  go_enter Try.func42, Try.ntmps42
  go_wp2_with (first
    | (go_at_call 48; refine Hm.out.mono ?_; rintro e w' ⟨rfl, rfl⟩)
    | (go_at_call 45; refine (left_ok _ g _ n c xs h).mono ?_; rintro e w' ⟨rfl, rfl⟩))
  clear Hm hL
  obtain ⟨T, HT⟩ : ∃ T : Nat → Int, Hid (∀ j, T j = (unle (xs.take j) : Int)) := ⟨_, fun _ => rfl⟩
  go_loop [16, 6] (fun i a => ∃ (j : Nat), j ≤ 4 ∧ i = .int .i64 j ∧ a = .int .i64 (T j)) (fun i _ => 4 - (intOf i).toNat)
  case atStart => exact ⟨0, by omega, rfl, by rw [HT.out]; rfl⟩
  case round =>
    obtain ⟨j, hj, rfl, rfl⟩ := hrel
    by_cases hlt : j < 4
    · have hcj := hcell j (by omega)
      clear hcell
      go_wp2
      go_round
      case rel => exact ⟨j + 1, by omega, by go_num, by rw [HT.out, HT.out, ← Hr.out j (by rw [HL.out]; omega) (by omega)]⟩
      case measure => simp [intOf]; omega
    · obtain rfl : j = 4 := by omega
      clear hcell
      by_cases hck : c = 4
      · obtain rfl : n = 4 := by omega
        subst hck
        have hw := Hcut.out
        rw [if_pos rfl] at hw
        have Hw := Lib.hid hw
        clear hw Hcut
        go_wp2
        go_ret2
        exact ⟨by rw [← HT.out]; rfl, Hw.out⟩
      · have hw := Hcut.out
        rw [if_neg hck] at hw
        have Hw := Lib.hid hw
        clear hw Hcut
        go_wp2
        go_ret2
        exact ⟨by rw [← HT.out]; rfl, Hw.out⟩

theorem get_ok (w : World) (g : Nat) (A : Option Addr) (n c : Nat) (xs : List UInt8) (h : Rd w g A n c xs) (hc : c ≤ maxLen) (k : Int) (hk : widthOk k = true) (hn : k ≤ n) :
    Calls Try.prog 42 #[.pointer (some ⟨g, 0, none⟩), .int .i64 k] w fun e w' => e = .returned (.tuple #[.int .i64 (unle (xs.take k.toNat)), .int .i64 0]) ∧ Got w g A n c k.toNat xs w' := by
  have hk3 : k = 1 ∨ k = 2 ∨ k = 4 := by simpa [widthOk, or_assoc] using hk
  rcases hk3 with rfl | rfl | rfl
  · exact get_ok1 w g A n c xs h hc (by omega)
  · exact get_ok2 w g A n c xs h hc (by omega)
  · exact get_ok4 w g A n c xs h hc (by omega)

end Go.Proofs.Ytpkgeidenkjnfaa
