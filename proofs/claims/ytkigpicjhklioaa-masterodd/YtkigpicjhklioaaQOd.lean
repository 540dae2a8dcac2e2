/-
  MasterOdd: one bit of a master's sector that is turned makes it none, or another one by its words.
-/
import Derived.Test.YtkigpicjhklioaaQMl
import Derived.Laws.BitsAllLaws
namespace Go.Proofs.Ytkigpicjhklioaa
open Go Go.RowKit

/-- The mask of a bit. -/
def pow2 (j : Nat) : Int := ((2 ^ j : Nat) : Int)
theorem pow2_succ (j : Nat) (h : j < 7) : IntKind.u8.wrap (pow2 j * 2) = pow2 (j + 1) := by
  match j, h with
  | 0, _ | 1, _ | 2, _ | 3, _ | 4, _ | 5, _ | 6, _ => decide
theorem pow2_byte (j : Nat) (h : j ≤ 7) : ∃ k : UInt8, pow2 j = (k.toNat : Int) ∧ k ≠ 0 := by
  match j, h with
  | 0, _ => exact ⟨1, by decide, by decide⟩
  | 1, _ => exact ⟨2, by decide, by decide⟩
  | 2, _ => exact ⟨4, by decide, by decide⟩
  | 3, _ => exact ⟨8, by decide, by decide⟩
  | 4, _ => exact ⟨16, by decide, by decide⟩
  | 5, _ => exact ⟨32, by decide, by decide⟩
  | 6, _ => exact ⟨64, by decide, by decide⟩
  | 7, _ => exact ⟨128, by decide, by decide⟩
theorem xor_bits (y z : UInt8) : bits .xor .u8 (y.toNat : Int) (z.toNat : Int) = ((y ^^^ z).toNat : Int) := by
  rw [u8_xor_nat _ _ y.toNat_lt z.toNat_lt, UInt8.toNat_xor]
theorem xor_ne (y z : UInt8) (h : z ≠ 0) : y ^^^ z ≠ y := by
  intro e
  apply h
  have h1 : y ^^^ (y ^^^ z) = z := by rw [← UInt8.xor_assoc, UInt8.xor_self, UInt8.zero_xor]
  rw [e, UInt8.xor_self] at h1
  exact h1.symm

/-- In a sector a master's number stands three times. -/
theorem sec_rep (y : Ms) (j : Nat) (hj : j < 4) : (secM y)[j]? = (le 4 y.no.toNat)[j]? ∧ (secM y)[4 + j]? = (le 4 y.no.toNat)[j]? ∧ (secM y)[252 + j]? = (le 4 y.no.toNat)[j]? := by
  have hl : (le 4 y.no.toNat).length = 4 := le_length 4 _
  have hp : (payl y ++ zeros (248 - (payl y).length)).length = 248 := by rw [List.length_append, zeros_len, payl_len]
  have hpj : (payl y ++ zeros (248 - (payl y).length))[j]? = (le 4 y.no.toNat)[j]? := by
    rw [List.getElem?_append_left (by rw [payl_len]; omega)]
    unfold payl
    rw [List.append_assoc, List.append_assoc, List.getElem?_append_left (by rw [hl]; exact hj)]
  unfold secM secOf
  generalize payl y ++ zeros (248 - (payl y).length) = B at *
  generalize le 4 y.no.toNat = A at *
  refine ⟨?_, ?_, ?_⟩
  · rw [List.append_assoc, List.getElem?_append_left (by omega)]
  · rw [List.append_assoc, List.getElem?_append_right (by omega), hl, show 4 + j - 4 = j by omega, List.getElem?_append_left (by omega), hpj]
  · rw [List.getElem?_append_right (by rw [List.length_append]; omega), List.length_append, hl, hp, show 252 + j - (4 + 248) = j by omega]

/-- What a sector tells of which one byte has turned. -/
theorem odd_told (m : Ms) (hm : m.May) (k : Nat) (hk : k < 256) (v : UInt8) (hv : (secM m)[k]? ≠ some v) (i : Int) (h : toldB ((secM m).set k v) i = true) :
    8 ≤ k ∧ k < 252 ∧ (toldM ((secM m).set k v) i).no = m.no ∧ toldM ((secM m).set k v) i ≠ m := by
  have ht := told_is h
  generalize toldM ((secM m).set k v) i = x at *
  have hx := ht.2.2.1
  have hs : ∀ q, q ≠ k → ((secM m).set k v)[q]? = (secM m)[q]? := fun q hq => List.getElem?_set_ne (fun e => hq e.symm)
  have hk' : ((secM m).set k v)[k]? = some v := List.getElem?_set_self (by rw [secM_len]; exact hk)
  rw [hx] at hs hk'
  have h8 : 8 ≤ k := by
    rcases Nat.lt_or_ge k 8 with h | h
    · exfalso
      rcases Nat.lt_or_ge k 4 with h4 | h4
      · have e1 := sec_rep x k h4
        have e2 := sec_rep m k h4
        have e3 := hs (252 + k) (by omega)
        rw [e1.2.2, e2.2.2] at e3
        rw [e1.1, e3, ← e2.1] at hk'
        exact hv hk'
      · obtain ⟨j, rfl⟩ : ∃ j, k = 4 + j := ⟨k - 4, by omega⟩
        have e1 := sec_rep x j (by omega)
        have e2 := sec_rep m j (by omega)
        have e3 := hs j (by omega)
        rw [e1.1, e2.1] at e3
        rw [e1.2.1, e3, ← e2.2.1] at hk'
        exact hv hk'
    · exact h
  have h252 : k < 252 := by
    rcases Nat.lt_or_ge k 252 with h | h
    · exact h
    · exfalso
      obtain ⟨j, rfl⟩ : ∃ j, k = 252 + j := ⟨k - 252, by omega⟩
      have e1 := sec_rep x j (by omega)
      have e2 := sec_rep m j (by omega)
      have e3 := hs j (by omega)
      rw [e1.1, e2.1] at e3
      rw [e1.2.2, e3, ← e2.2.2] at hk'
      exact hv hk'
  refine ⟨h8, h252, ?_, ?_⟩
  · refine le4_inj (by have := ht.1.n1; omega) ht.1.n2 (by have := hm.n1; omega) hm.n2 ?_
    apply List.ext_getElem?
    intro j
    rcases Nat.lt_or_ge j 4 with h4 | h4
    · rw [← (sec_rep x j h4).1, ← (sec_rep m j h4).1]
      exact hs j (by omega)
    · rw [List.getElem?_eq_none (by rw [le_length]; exact h4), List.getElem?_eq_none (by rw [le_length]; exact h4)]
  · rintro rfl
    exact hv hk'

/-- What is read then. -/
theorem odd_rdM (m : Ms) (hm : m.May) (k : Nat) (hk : k < 256) (v : UInt8) (hv : (secM m)[k]? ≠ some v) :
    rdM ([fill 0, fill 0].set (m.no % 2).toNat ((secM m).set k v)) = ⟨0, 0, 0, 0⟩ ∨
    (8 ≤ k ∧ k < 252 ∧ (rdM ([fill 0, fill 0].set (m.no % 2).toNat ((secM m).set k v))).no = m.no ∧ rdM ([fill 0, fill 0].set (m.no % 2).toNat ((secM m).set k v)) ≠ m) := by
  have hp : m.no % 2 = 0 ∨ m.no % 2 = 1 := by have := mod2 m.no; omega
  rcases hp with p | p
  · rw [p]
    show lastOf ((secM m).set k v) (fill 0) 2 = _ ∨ (_ ∧ _ ∧ (lastOf ((secM m).set k v) (fill 0) 2).no = _ ∧ lastOf ((secM m).set k v) (fill 0) 2 ≠ _)
    cases ht : toldB ((secM m).set k v) 0 with
    | false => left; exact lastOf_none _ _ ht (toldB_zero 1)
    | true =>
      right
      rw [lastOf_left _ _ ht (toldB_zero 1)]
      exact odd_told m hm k hk v hv 0 ht
  · rw [p]
    show lastOf (fill 0) ((secM m).set k v) 2 = _ ∨ (_ ∧ _ ∧ (lastOf (fill 0) ((secM m).set k v) 2).no = _ ∧ lastOf (fill 0) ((secM m).set k v) 2 ≠ _)
    cases ht : toldB ((secM m).set k v) 1 with
    | false => left; exact lastOf_none _ _ (toldB_zero 0) ht
    | true =>
      right
      rw [lastOf_right _ _ (toldB_zero 0) ht]
      exact odd_told m hm k hk v hv 1 ht

/-- A write that waits, read. -/
theorem wait_read (D : List (List UInt8)) (i : Nat) (s : List UInt8) (h : D.length = 2) (j : Int) (h0 : 0 ≤ j) (h2 : j < 2) : (⟨D, [(i, s)], false, 0, false⟩ : Dk).read j = (D.set i s).getD j.toNat [] := by
  unfold Dk.read
  rw [if_pos (by unfold Dk.reach; rw [if_neg (by simp), if_pos ⟨h0, by show j < (D.length : Int); omega⟩])]
  rfl
theorem wait_write (D : List (List UInt8)) (i : Int) (s : List UInt8) (h : D.length = 2) (h0 : 0 ≤ i) (h2 : i < 2) (hs : s.length = 256) : (Dk.fresh D).write i s = ⟨D, [(i.toNat, s)], false, 0, false⟩ := by
  unfold Dk.write
  rw [if_pos ⟨fresh_reach (by omega) i h0 h2, hs⟩, if_pos (show (Dk.fresh D).stepE = 0 from rfl)]
  rfl
/-- A row of the call's own of which one byte has turned. -/
theorem OwV.setB {w : World} {base g n c : Nat} {e : TypeId} {xs : List UInt8} (h : OwV w base e (some ⟨g, 0, none⟩) n c (xs.map bv)) (j : Nat) (hj : j < n) (v : UInt8) :
    Sl (w.setCell ⟨g, j, none⟩ (bv v)) (some ⟨g, 0, none⟩) n c (xs.set j v) := by
  have hl : xs.length = n := by have := h.len; simpa using this
  obtain ⟨_, cur, hg, h1, h2, h3, h4⟩ := h.block rfl
  refine ⟨by rw [List.length_set]; exact hl, h1, fun _ => ⟨g, 0, rfl, fun q hq => ?_⟩⟩
  rw [Nat.zero_add, cell_of_row _ _ _ _ _ _ (heap_set hg j (bv v))]
  have hc : cur[q]? = some (bv (xs.getD q 0)) := by
    have e1 : (cur.toList.take n)[q]? = (xs.map bv)[q]? := by rw [h4]
    rw [List.getElem?_take, if_pos hq, Array.getElem?_toList] at e1
    rw [e1, List.getElem?_map, List.getElem?_eq_getElem (by omega)]
    simp [List.getD_eq_getElem?_getD, List.getElem?_eq_getElem (show q < xs.length by omega)]
  by_cases hqj : q = j
  · subst hqj
    rw [Array.getElem?_setIfInBounds_self_of_lt (by rw [h3]; omega)]
    simp [List.getD_eq_getElem?_getD, List.getElem?_set_self (show q < xs.length by omega)]
  · rw [Array.getElem?_setIfInBounds_ne (fun e => hqj e.symm), hc]
    simp [List.getD_eq_getElem?_getD, List.getElem?_set_ne (show j ≠ q from fun e => hqj e.symm)]

set_option maxRecDepth 100000 in
set_option maxHeartbeats 1600000 in
theorem odd_walk (m : Ms) (at_ bit : Int) (W : World) :
    Calls Try.prog 8 #[.agg #[.int .i64 m.no, .int .i64 m.ep, .int .i64 m.st, .int .i64 m.ck], .int .i64 at_, .int .i64 bit] W fun e w' => e = .returned (.bool true) ∧ Below W.heap.size W w' := by
  have hm2 : Mod (fun _ => False) W (W.alloc (.cells #[.int .i64 m.no, .int .i64 m.ep, .int .i64 m.st, .int .i64 m.ck] 23)) := (Mod.refl _ W).alloc _
  have Ha2 := Lib.hid (InB.new W m)
  have Hm2 := Lib.hid hm2
  clear hm2
  go_enter Try.func8, Try.ntmps8
  go_wp2_with fail
  refine (awake_ok _).mono ?_
  rintro e w3 ⟨rfl, hm3⟩
  have Hm3 := Lib.hid (Hm2.out.trans hm3 (fun _ _ h => h))
  have Ha3 := Lib.hid (Ha2.out.keep hm3)
  generalize hz : W.heap.size = z at *
  have Hz := Lib.hid hz
  clear hz hm3 Ha2 Hm2
  obtain ⟨b0, b1, b2, b3⟩ := Ha3.out.bm
  go_wp2_with fail
  have Hma := Lib.hid (may_ok w3 m)
  by_cases hya : mayM m = true
  rotate_left
  · rw [show mayM m = false by simpa using hya] at Hma
    clear hya
    refine Hma.out.mono ?_
    rintro e w4 ⟨rfl, hm4⟩
    have Hm4 := Lib.hid (Hm3.out.trans hm4 (fun _ _ h => h))
    clear hm4
    go_wp2
    go_ret
    exact ⟨rfl, Hm4.out.below (Nat.le_refl _) (fun _ _ => id)⟩
  rw [hya] at Hma
  have Hya := Lib.hid ((mayM_iff m).1 hya)
  clear hya
  refine Hma.out.mono ?_
  rintro e w5 ⟨rfl, hm5⟩
  have Hm5 := Lib.hid (Hm3.out.trans hm5 (fun _ _ h => h))
  have Ha5 := Lib.hid (Ha3.out.keep hm5)
  have Hnew := Lib.hid (lm_new w5 w5 (Mod.refl _ w5) 2 (by omega) (by omega))
  clear hm5 Hm3 Ha3 Hma b0 b1 b2 b3
  by_cases ha0 : 0 ≤ at_
  rotate_left
  · have hd : decide (at_ < 0) = true := by rw [decide_eq_true_eq]; omega
    clear ha0
    go_wp2
    go_ret
    exact ⟨rfl, Hm5.out.below (Nat.le_refl _) (fun _ _ => id)⟩
  by_cases ha1 : at_ ≤ 23
  rotate_left
  · go_wp2
    go_ret
    exact ⟨rfl, Hm5.out.below (Nat.le_refl _) (fun _ _ => id)⟩
  by_cases hb0 : 0 ≤ bit
  rotate_left
  · have hd : decide (bit < 0) = true := by rw [decide_eq_true_eq]; omega
    clear hb0
    go_wp2
    go_ret
    exact ⟨rfl, Hm5.out.below (Nat.le_refl _) (fun _ _ => id)⟩
  by_cases hb1 : bit ≤ 7
  rotate_left
  · go_wp2
    go_ret
    exact ⟨rfl, Hm5.out.below (Nat.le_refl _) (fun _ _ => id)⟩
  go_wp2_with fail
  refine Hnew.out.mono ?_
  rintro e w6 ⟨x6, rfl, hd6, hm6⟩
  replace hd6 : Dev w5 w6 x6 (Dk.fresh [fill 0, fill 0]) := hd6
  have Hw6 := Lib.hid (lm_write w5 w6 x6 _ hd6 (Nat.le_refl 2) m Hya.out)
  obtain ⟨b0, b1, b2, b3⟩ := (Ha5.out.keep hm6).bm
  clear hd6 hm6 Hnew
  go_wp2_with fail
  refine Hw6.out.mono ?_
  rintro e w7 ⟨rfl, x7, hx7, hd7, _⟩
  have HDl : Hid (([fill 0, fill 0].set (m.no % 2).toNat (secM m)).length = 2) := by show _ = 2; rw [List.length_set]; rfl
  have HDg : Hid (([fill 0, fill 0].set (m.no % 2).toNat (secM m)).getD (m.no % 2).toNat [] = secM m) := by
    show _ = _
    have hp := mod2 m.no
    rw [List.getD_eq_getElem?_getD, List.getElem?_set_self (by show _ < 2; omega)]
    rfl
  have Hrd : Hid (∀ i : Int, i = m.no % 2 → Calls Try.prog 16 #[.pointer (some ⟨x7.p, 0, none⟩), .int .i64 i] w7 fun e w' => ∃ g c, e = .returned (.tuple #[.slice (some ⟨g, 0, none⟩) 256 c, .int .i64 0]) ∧ OwV w' w7.heap.size 5 (some ⟨g, 0, none⟩) 256 c ((secM m).map bv) ∧ Mod (fun _ => False) w7 w') := by
    intro i hi
    subst hi
    have hp := mod2 m.no
    refine (dev_read w5 w7 x7 _ hd7 (m.no % 2)).mono ?_
    rintro e w' ⟨A, n, c, rfl, hf⟩
    rw [fresh_read (by rw [HDl.out]; exact Nat.le_refl 2) _ hp.1 hp.2, HDg.out] at hf
    have hn : n = 256 := by rw [← hf.sl.len, secM_len]
    subst hn
    obtain ⟨g, hg, _⟩ := hf.1.cells (by omega)
    subst hg
    exact ⟨g, c, by rw [fresh_reach (by rw [HDl.out]; exact Nat.le_refl 2) _ hp.1 hp.2], hf.1, hf.2⟩
  have Hd7 := Lib.hid hd7
  have Hx7 := Lib.hid hx7
  have h0m : 0 ≤ m.no := by have := Hya.out.n1; omega
  have htm : m.no.tmod 2 = m.no % 2 := Int.tmod_eq_emod_of_nonneg h0m
  clear b0 b1 b2 b3 hx7 Hw6
  obtain ⟨b0, b1, b2, b3⟩ := (Ha5.out.keep hd7.old).bm
  clear hd7
  rw [← Hx7.out]
  go_wp2_with fail
  refine (Hrd.out _ rfl).mono ?_
  rintro e w8 ⟨g, c, rfl, ho8, hm8⟩
  have Ho8 := Lib.hid ho8
  have Hm8 := Lib.hid hm8
  clear b0 b1 b2 b3 ho8 hm8 Hrd
  obtain ⟨an, rfl⟩ := Int.eq_ofNat_of_zero_le ha0
  obtain ⟨bn, rfl⟩ := Int.eq_ofNat_of_zero_le hb0
  by_cases hcase : (an : Int) < 20
  · go_wp2_with fail
    go_loop [13, 14] (fun mk i => ∃ (j : Nat), j ≤ bn ∧ i = .int .i64 j ∧ mk = .int .u8 (pow2 j)) (fun _ i => 9 - (intOf i).toNat)
    case atStart => exact ⟨0, by omega, rfl, rfl⟩
    case round =>
      obtain ⟨j, hj, rfl, rfl⟩ := hrel
      by_cases hlt : j < bn
      · have hlt' : (j : Int) < bn := by omega
        have hpw := pow2_succ j (by omega)
        go_wp2
        go_round
        case rel => exact ⟨j + 1, by omega, by go_num, by rw [← hpw]⟩
        case measure => simp [intOf]; omega
      · obtain rfl : j = bn := by omega
        clear hlt
        obtain ⟨mk, hmk, hmk0⟩ := pow2_byte j (by omega)
        rw [hmk]
        have hPl : an < (secM m).length := by rw [secM_len]; omega
        obtain ⟨y, hy⟩ : ∃ y, (secM m)[an]? = some y := ⟨_, List.getElem?_eq_getElem hPl⟩
        obtain ⟨⟨u, cu, hu⟩, fu⟩ := Ho8.out.spot (an) (by omega)
        have hub : u = bv y := by rw [List.getElem?_map, hy] at hu; injection hu with hu; exact hu.symm
        subst hub
        replace cu : w8.cell? ⟨g, an, none⟩ = some (.int .u8 (y.toNat : Int)) := cu
        have Hxr := Lib.hid (xor_bits y mk)
        have hvne : (secM m)[an]? ≠ some (y ^^^ mk) := by
          rw [hy]
          intro e
          injection e with e
          exact xor_ne y mk hmk0 e.symm
        have hm9 : Mod (fun _ => False) w7 (w8.setCell ⟨g, an, none⟩ (.int .u8 ((y ^^^ mk).toNat : Int))) := Hm8.out.setCell (p := ⟨g, an, none⟩) (fun h => by have h1 := (Ho8.out.lt g rfl).1; have h2 : g < w7.heap.size := h; omega) _
        have Hd9 := Lib.hid (Hd7.out.keep hm9)
        have hs9 : Sl (w8.setCell ⟨g, an, none⟩ (.int .u8 ((y ^^^ mk).toNat : Int))) (some ⟨g, 0, none⟩) 256 c ((secM m).set (an) (y ^^^ mk)) := Ho8.out.setB (an) (by omega) (y ^^^ mk)
        have HV := Lib.hid (odd_rdM m Hya.out (an) (by omega) (y ^^^ mk) hvne)
        have hwr : ∀ i : Int, i = m.no % 2 → _ := fun i hi => by
          subst hi
          exact dev_write w5 _ x7 _ Hd9.out (m.no % 2) _ _ _ _ hs9 (fun k hk => by injection hk with hk; subst hk; exact Hd7.out.apart (Ho8.out.lt g rfl).1) (Nat.zero_le _)
        have hwr := hwr _ rfl
        rw [wait_write _ _ _ HDl.out (mod2 _).1 (mod2 _).2 (by rw [List.length_set, secM_len])] at hwr
        generalize (Dk.fresh ([fill 0, fill 0].set (m.no % 2).toNat (secM m))).writeE (m.no % 2) 256 = E1 at *
        have Hwr := Lib.hid hwr
        obtain ⟨b0, b1, b2, b3⟩ := (Ha5.out.keep (Hd7.out.old.trans Hm8.out (fun _ _ h => h))).bm
        have hzg : z ≠ g := fun e => by
          have h1 := Ha5.out.lt
          have h2 := (Ho8.out.lt g rfl).1
          have h3 := Hd7.out.old.size
          omega
        clear hwr hs9 hm9 hvne hu hy hPl hmk hmk0
        go_wp2_with fail
        rw [Hxr.out]
        refine Hwr.out.mono ?_
        rintro e wA ⟨rfl, xA, hxA, hdA, _⟩
        have hrd := mread_ok w5 wA xA _ hdA (by show 2 ≤ ([fill 0, fill 0].set (m.no % 2).toNat (secM m)).length; rw [HDl.out]; exact Nat.le_refl 2) rfl
        rw [wait_read _ _ _ HDl.out 0 (by omega) (by omega), wait_read _ _ _ HDl.out 1 (by omega) (by omega), List.set_set] at hrd
        have hrd' : Calls Try.prog 20 #[.pointer (some ⟨xA.p, 0, none⟩)] wA fun e w' => e = .returned (.tuple #[.agg #[.int .i64 (rdM ([fill 0, fill 0].set (m.no % 2).toNat ((secM m).set (an) (y ^^^ mk)))).no, .int .i64 (rdM ([fill 0, fill 0].set (m.no % 2).toNat ((secM m).set (an) (y ^^^ mk)))).ep, .int .i64 (rdM ([fill 0, fill 0].set (m.no % 2).toNat ((secM m).set (an) (y ^^^ mk)))).st, .int .i64 (rdM ([fill 0, fill 0].set (m.no % 2).toNat ((secM m).set (an) (y ^^^ mk)))).ck], .int .i64 (rdE ([fill 0, fill 0].set (m.no % 2).toNat ((secM m).set (an) (y ^^^ mk))))]) ∧ Mod (fun _ => False) wA w' := hrd
        have HEq : Hid (rdE ([fill 0, fill 0].set (m.no % 2).toNat ((secM m).set (an) (y ^^^ mk))) = if (rdM ([fill 0, fill 0].set (m.no % 2).toNat ((secM m).set (an) (y ^^^ mk)))).no = 0 then 3 else 0) := rfl
        have Hrd' := Lib.hid hrd'
        have HmA := Lib.hid hdA.old
        clear hrd hrd' hdA b0 b1 b2 b3 Hwr cu fu Hxr
        generalize rdE ([fill 0, fill 0].set (m.no % 2).toNat ((secM m).set (an) (y ^^^ mk))) = E at *
        generalize rdM ([fill 0, fill 0].set (m.no % 2).toNat ((secM m).set (an) (y ^^^ mk))) = V at *
        rw [← hxA]
        clear hxA
        go_wp2_with fail
        refine Hrd'.out.mono ?_
        rintro e wB ⟨rfl, hmB⟩
        have hmB' := HmA.out.trans hmB (fun _ _ h => h)
        obtain ⟨b0, b1, b2, b3⟩ := (Ha5.out.keep hmB').bm
        have hlt := (Ha5.out.keep hmB').lt
        have HmB := Lib.hid (Hm5.out.trans hmB' (fun _ _ h => h))
        clear hmB hmB' Hrd' HmA
        rcases HV.out with hV | ⟨hV8, hV252, hVn, hVm⟩
        · have hE : E = 3 := by rw [HEq.out, hV]; rfl
          subst hE
          subst hV
          clear HEq HV
          go_wp2
          all_goals go_ret
          all_goals exact ⟨rfl, (HmB.out.alloc _).below (Nat.le_refl _) (fun _ _ => id)⟩
        · have hE : E = 0 := by
            have h1 := Hya.out.n1
            rw [HEq.out, if_neg (by omega)]
          subst hE
          have hec : ∀ w, (Op.equalIn 10000 23 (.agg #[.int .i64 V.no, .int .i64 V.ep, .int .i64 V.st, .int .i64 V.ck]) (.agg #[.int .i64 m.no, .int .i64 m.ep, .int .i64 m.st, .int .i64 m.ck])).run Try.prog w = .ok false w := fun w => (eq_ms V m w).trans (by rw [eqMs_no hVm])
          rw [hVn] at hec
          have hVn' : V.no = m.no := hVn
          clear HEq HV hVm hVn
          have hr8 : ¬ (an : Int) < 8 := by omega
          have hr2 : ¬ 251 < (an : Int) := by omega
          go_wp2
          all_goals go_ret
          all_goals exact ⟨rfl, (HmB.out.alloc _).below (Nat.le_refl _) (fun _ _ => id)⟩
  · go_wp2_with fail
    go_loop [13, 14] (fun mk i => ∃ (j : Nat), j ≤ bn ∧ i = .int .i64 j ∧ mk = .int .u8 (pow2 j)) (fun _ i => 9 - (intOf i).toNat)
    case atStart => exact ⟨0, by omega, rfl, rfl⟩
    case round =>
      obtain ⟨j, hj, rfl, rfl⟩ := hrel
      by_cases hlt : j < bn
      · have hlt' : (j : Int) < bn := by omega
        have hpw := pow2_succ j (by omega)
        go_wp2
        go_round
        case rel => exact ⟨j + 1, by omega, by go_num, by rw [← hpw]⟩
        case measure => simp [intOf]; omega
      · obtain rfl : j = bn := by omega
        clear hlt
        obtain ⟨mk, hmk, hmk0⟩ := pow2_byte j (by omega)
        rw [hmk]
        have hPl : an + 232 < (secM m).length := by rw [secM_len]; omega
        obtain ⟨y, hy⟩ : ∃ y, (secM m)[an + 232]? = some y := ⟨_, List.getElem?_eq_getElem hPl⟩
        obtain ⟨⟨u, cu, hu⟩, fu⟩ := Ho8.out.spot (an + 232) (by omega)
        have hub : u = bv y := by rw [List.getElem?_map, hy] at hu; injection hu with hu; exact hu.symm
        subst hub
        replace cu : w8.cell? ⟨g, an + 232, none⟩ = some (.int .u8 (y.toNat : Int)) := cu
        have Hxr := Lib.hid (xor_bits y mk)
        have hvne : (secM m)[an + 232]? ≠ some (y ^^^ mk) := by
          rw [hy]
          intro e
          injection e with e
          exact xor_ne y mk hmk0 e.symm
        have hm9 : Mod (fun _ => False) w7 (w8.setCell ⟨g, an + 232, none⟩ (.int .u8 ((y ^^^ mk).toNat : Int))) := Hm8.out.setCell (p := ⟨g, an + 232, none⟩) (fun h => by have h1 := (Ho8.out.lt g rfl).1; have h2 : g < w7.heap.size := h; omega) _
        have Hd9 := Lib.hid (Hd7.out.keep hm9)
        have hs9 : Sl (w8.setCell ⟨g, an + 232, none⟩ (.int .u8 ((y ^^^ mk).toNat : Int))) (some ⟨g, 0, none⟩) 256 c ((secM m).set (an + 232) (y ^^^ mk)) := Ho8.out.setB (an + 232) (by omega) (y ^^^ mk)
        have HV := Lib.hid (odd_rdM m Hya.out (an + 232) (by omega) (y ^^^ mk) hvne)
        have hwr : ∀ i : Int, i = m.no % 2 → _ := fun i hi => by
          subst hi
          exact dev_write w5 _ x7 _ Hd9.out (m.no % 2) _ _ _ _ hs9 (fun k hk => by injection hk with hk; subst hk; exact Hd7.out.apart (Ho8.out.lt g rfl).1) (Nat.zero_le _)
        have hwr := hwr _ rfl
        rw [wait_write _ _ _ HDl.out (mod2 _).1 (mod2 _).2 (by rw [List.length_set, secM_len])] at hwr
        generalize (Dk.fresh ([fill 0, fill 0].set (m.no % 2).toNat (secM m))).writeE (m.no % 2) 256 = E1 at *
        have Hwr := Lib.hid hwr
        obtain ⟨b0, b1, b2, b3⟩ := (Ha5.out.keep (Hd7.out.old.trans Hm8.out (fun _ _ h => h))).bm
        have hzg : z ≠ g := fun e => by
          have h1 := Ha5.out.lt
          have h2 := (Ho8.out.lt g rfl).1
          have h3 := Hd7.out.old.size
          omega
        clear hwr hs9 hm9 hvne hu hy hPl hmk hmk0
        have hpn : ((an : Int) + 232).toNat = an + 232 := by omega
        go_wp2_with fail
        rw [Hxr.out]
        refine Hwr.out.mono ?_
        rintro e wA ⟨rfl, xA, hxA, hdA, _⟩
        have hrd := mread_ok w5 wA xA _ hdA (by show 2 ≤ ([fill 0, fill 0].set (m.no % 2).toNat (secM m)).length; rw [HDl.out]; exact Nat.le_refl 2) rfl
        rw [wait_read _ _ _ HDl.out 0 (by omega) (by omega), wait_read _ _ _ HDl.out 1 (by omega) (by omega), List.set_set] at hrd
        have hrd' : Calls Try.prog 20 #[.pointer (some ⟨xA.p, 0, none⟩)] wA fun e w' => e = .returned (.tuple #[.agg #[.int .i64 (rdM ([fill 0, fill 0].set (m.no % 2).toNat ((secM m).set (an + 232) (y ^^^ mk)))).no, .int .i64 (rdM ([fill 0, fill 0].set (m.no % 2).toNat ((secM m).set (an + 232) (y ^^^ mk)))).ep, .int .i64 (rdM ([fill 0, fill 0].set (m.no % 2).toNat ((secM m).set (an + 232) (y ^^^ mk)))).st, .int .i64 (rdM ([fill 0, fill 0].set (m.no % 2).toNat ((secM m).set (an + 232) (y ^^^ mk)))).ck], .int .i64 (rdE ([fill 0, fill 0].set (m.no % 2).toNat ((secM m).set (an + 232) (y ^^^ mk))))]) ∧ Mod (fun _ => False) wA w' := hrd
        have HEq : Hid (rdE ([fill 0, fill 0].set (m.no % 2).toNat ((secM m).set (an + 232) (y ^^^ mk))) = if (rdM ([fill 0, fill 0].set (m.no % 2).toNat ((secM m).set (an + 232) (y ^^^ mk)))).no = 0 then 3 else 0) := rfl
        have Hrd' := Lib.hid hrd'
        have HmA := Lib.hid hdA.old
        clear hrd hrd' hdA b0 b1 b2 b3 Hwr cu fu Hxr
        generalize rdE ([fill 0, fill 0].set (m.no % 2).toNat ((secM m).set (an + 232) (y ^^^ mk))) = E at *
        generalize rdM ([fill 0, fill 0].set (m.no % 2).toNat ((secM m).set (an + 232) (y ^^^ mk))) = V at *
        rw [← hxA]
        clear hxA
        go_wp2_with fail
        refine Hrd'.out.mono ?_
        rintro e wB ⟨rfl, hmB⟩
        have hmB' := HmA.out.trans hmB (fun _ _ h => h)
        obtain ⟨b0, b1, b2, b3⟩ := (Ha5.out.keep hmB').bm
        have hlt := (Ha5.out.keep hmB').lt
        have HmB := Lib.hid (Hm5.out.trans hmB' (fun _ _ h => h))
        clear hmB hmB' Hrd' HmA
        rcases HV.out with hV | ⟨hV8, hV252, hVn, hVm⟩
        · have hE : E = 3 := by rw [HEq.out, hV]; rfl
          subst hE
          subst hV
          clear HEq HV
          go_wp2
          all_goals go_ret
          all_goals exact ⟨rfl, (HmB.out.alloc _).below (Nat.le_refl _) (fun _ _ => id)⟩
        · have hE : E = 0 := by
            have h1 := Hya.out.n1
            rw [HEq.out, if_neg (by omega)]
          subst hE
          have hec : ∀ w, (Op.equalIn 10000 23 (.agg #[.int .i64 V.no, .int .i64 V.ep, .int .i64 V.st, .int .i64 V.ck]) (.agg #[.int .i64 m.no, .int .i64 m.ep, .int .i64 m.st, .int .i64 m.ck])).run Try.prog w = .ok false w := fun w => (eq_ms V m w).trans (by rw [eqMs_no hVm])
          rw [hVn] at hec
          have hVn' : V.no = m.no := hVn
          clear HEq HV hVm hVn
          exfalso
          omega
end Go.Proofs.Ytkigpicjhklioaa
