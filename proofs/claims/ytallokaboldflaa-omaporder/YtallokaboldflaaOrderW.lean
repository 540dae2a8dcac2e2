/-
  OmapOrder: in which order keys are set does not matter.
-/
import Derived.Test.YtallokaboldflaaCallsW
namespace Go.Proofs.Ytallokaboldflaa
open Go Go.RowKit

def vS : ByteArray := { data := #[118] }
def setAll (zs : List Int) (l : List Pr) : List Pr := zs.foldl (fun l k => mSet k vS l) l
theorem setAll_mSet (zs : List Int) (k : Int) : ∀ l : List Pr, setAll zs (mSet k vS l) = mSet k vS (setAll zs l) := by
  induction zs with
  | nil => intro l; rfl
  | cons z zs ih =>
    intro l
    show setAll zs (mSet z vS (mSet k vS l)) = mSet k vS (setAll zs (mSet z vS l))
    rw [mSet_comm z k, ih]
theorem setAll_reverse (zs : List Int) : ∀ l : List Pr, setAll zs.reverse l = setAll zs l := by
  induction zs with
  | nil => intro l; rfl
  | cons z zs ih =>
    intro l
    rw [List.reverse_cons]
    show List.foldl _ l (zs.reverse ++ [z]) = _
    rw [List.foldl_append]
    show mSet z vS (setAll zs.reverse l) = setAll zs (mSet z vS l)
    rw [ih, setAll_mSet]
theorem setAll_len (zs : List Int) : ∀ l : List Pr, (setAll zs l).length ≤ l.length + zs.length := by
  induction zs with
  | nil => intro l; simp [setAll]
  | cons z zs ih =>
    intro l
    have h1 := ih (mSet z vS l)
    have h2 := mSet_len z vS l
    show (setAll zs (mSet z vS l)).length ≤ _
    rw [List.length_cons]
    omega
theorem setAll_take {zs : List Int} {j : Nat} {z : Int} (h : zs[j]? = some z) : setAll (zs.take (j + 1)) [] = mSet z vS (setAll (zs.take j) []) := foldl_take_succ h
theorem setTake_len (zs : List Int) (j : Nat) (hj : j ≤ 60) : (setAll (zs.take j) []).length ≤ 60 := by
  have h1 := setAll_len (zs.take j) []
  have h2 : (zs.take j).length ≤ j := List.length_take_le _ _
  simp at h1
  omega

/-- Keys in memory. -/
def KeysAt (w : World) (A : Option Addr) (n : Nat) (zs : List Int) : Prop := 0 < n → ∃ b o, A = some ⟨b, o, none⟩ ∧ ∀ j, j < n → w.cell? ⟨b, o + j, none⟩ = some (.int .i64 (zs.getD j 0))
theorem KeysAt.keep {w w' : World} {A : Option Addr} {n : Nat} {zs : List Int} (h : KeysAt w A n zs) (hm : Mod (fun _ => False) w w') : KeysAt w' A n zs := fun hn => by
  obtain ⟨b, o, hA, hc⟩ := h hn
  exact ⟨b, o, hA, fun j hj => (World.cell?_of_block (hm.block b (World.block_lt_of_cell? w _ (hc j hj)) id)).trans (hc j hj)⟩
theorem take_rev {zs : List Int} {n j : Nat} (hn : zs.length = n) (hj : j < n) : zs.reverse[j]? = some (zs.getD (n - 1 - j) 0) := by
  have h : n - 1 - j < zs.length := by omega
  rw [List.getElem?_reverse (by omega), hn, List.getD_eq_getElem?_getD, List.getElem?_eq_getElem h]
  rfl
theorem get_d {zs : List Int} {j : Nat} (hj : j < zs.length) : zs[j]? = some (zs.getD j 0) := by
  rw [List.getD_eq_getElem?_getD, List.getElem?_eq_getElem hj]
  rfl

/-- Two maps in memory, apart. -/
structure Two (w0 w : World) (x y : MV) (L M : List Pr) : Prop where
  a : Live w0 w x L
  b : Live w0 w y M
  apart : ∀ k, x.M k → ¬ y.M k
section
variable {w0 w w' : World} {x y : MV} {L M : List Pr}
theorem Two.keep (h : Two w0 w x y L M) (hm : Mod (fun _ => False) w w') : Two w0 w' x y L M := ⟨h.a.keep hm, h.b.keep hm, h.apart⟩
theorem two_new (w0 w1 : World) (h : Mod (fun _ => False) w0 w1) : ∃ x y : MV, x.p = w1.heap.size ∧ y.p = w1.heap.size + 1 ∧
    Two w0 ((w1.alloc (.cells #[.slice none 0 0] 27)).alloc (.cells #[.slice none 0 0] 27)) x y [] [] := by
  refine ⟨⟨w1.heap.size, none, 0, []⟩, ⟨(w1.alloc (.cells #[.slice none 0 0] 27)).heap.size, none, 0, []⟩, rfl, by simp, (live_new w0 w1 h).keep ((Mod.refl _ _).alloc _), live_new w0 _ (h.alloc _), ?_⟩
  rintro k (e | e)
  · rintro (e' | e')
    · simp at e e'; omega
    · simp [blkOf] at e'
  · simp [blkOf] at e
theorem two_left (h : Two w0 w x y L M) (hl : L.length ≤ 900) (k : Int) :
    Calls Try.prog 12 #[.pointer (some ⟨x.p, 0, none⟩), .int .i64 k, .string vS] w fun e w' =>
      e = .returned (.bool (!(mGet k L).isSome)) ∧ ∃ x', x'.p = x.p ∧ Two w0 w' x' y (mSet k vS L) M := by
  refine (live_set w0 w x L h.a hl k vS).mono ?_
  rintro e w' ⟨rfl, x', hp, hL, hM, hN⟩
  refine ⟨rfl, x', hp, hL, h.b.apart hM (fun k hk e => h.apart k e hk) (fun k hk e => by have := (h.a.low e).1; omega), fun k hk hy => ?_⟩
  rcases hN k hk with e | e
  · exact h.apart k e hy
  · have := (h.b.low hy).2; omega
theorem two_right (h : Two w0 w x y L M) (hl : M.length ≤ 900) (k : Int) :
    Calls Try.prog 12 #[.pointer (some ⟨y.p, 0, none⟩), .int .i64 k, .string vS] w fun e w' =>
      e = .returned (.bool (!(mGet k M).isSome)) ∧ ∃ y', y'.p = y.p ∧ Two w0 w' x y' L (mSet k vS M) := by
  refine (live_set w0 w y M h.b hl k vS).mono ?_
  rintro e w' ⟨rfl, y', hp, hL, hM, hN⟩
  refine ⟨rfl, y', hp, h.a.apart hM (fun k hk e => h.apart k hk e) (fun k hk e => by have := (h.b.low e).1; omega), hL, fun k hx hk => ?_⟩
  rcases hN k hk with e | e
  · exact h.apart k hx e
  · have := (h.a.low hx).2; omega
end

set_option maxRecDepth 100000 in
set_option maxHeartbeats 2000000 in
theorem order_walk (A : Option Addr) (n c : Nat) (zs : List Int) (w : World) (hz : zs.length = n) (_hnc : n ≤ c) (_hc : c ≤ maxLen) (hk : KeysAt w A n zs) :
    Calls Try.prog 5 #[.slice A n c] w fun e w' => e = .returned (.bool true) ∧ Below w.heap.size w w' := by
  have Hz := Lib.hid hz
  have Hk := Lib.hid hk
  clear hz hk _hnc _hc
  go_enter Try.func5, Try.ntmps5
  go_wp2_with fail
  refine (awake_ok _).mono ?_
  rintro e w1 ⟨rfl, hm1⟩
  have Hm1 := Lib.hid hm1
  clear hm1
  by_cases hbig : 60 < n
  · have hb : decide ((60 : Int) < n) = true := by simp; omega
    go_wp2
    go_ret
    exact ⟨rfl, Hm1.out.below (Nat.le_refl _) (fun _ _ => id)⟩
  have hb : decide ((60 : Int) < n) = false := by simp; omega
  have hn60 : n ≤ 60 := by omega
  clear hbig
  go_wp2_with fail
  have H0 := Lib.hid (two_new w w1 Hm1.out)
  obtain ⟨g, hg⟩ : ∃ g, g = w1.heap.size := ⟨_, rfl⟩
  rw [← hg] at H0 ⊢
  clear hg hb Hm1
  go_loopw [6] (fun i wr => ∃ (j : Nat) (x y : MV), j ≤ n ∧ i = .int .i64 j ∧ x.p = g ∧ y.p = g + 1 ∧ Two w wr x y (setAll (zs.take j) []) (setAll (zs.reverse.take j) [])) (fun i _ => n - (intOf i).toNat)
  case atStart =>
    obtain ⟨x, y, hx, hy, h⟩ := H0.out
    exact ⟨0, x, y, by omega, rfl, hx, hy, h⟩
  case round =>
    obtain ⟨j, x, y, hj, rfl, hp, hp', hL⟩ := hrel
    have HL := Lib.hid hL
    have Hlen := Lib.hid (setTake_len zs j (by omega))
    have Hlen' := Lib.hid (setTake_len zs.reverse j (by omega))
    clear hL
    by_cases hlt : j < n
    · have Hsn := Lib.hid (setAll_take (get_d (zs := zs) (j := j) (by rw [Hz.out]; omega)))
      have Hsn' := Lib.hid (setAll_take (take_rev Hz.out hlt))
      obtain ⟨b, o, rfl, hc⟩ := (Hk.out.keep HL.out.a.old) (by omega)
      have c1 := hc j hlt
      have Hset := Lib.hid (two_left HL.out (by have := Hlen.out; omega) (zs.getD j 0))
      rw [hp] at Hset
      clear hc HL
      go_wp2_with fail
      refine Hset.out.mono ?_
      rintro e w3 ⟨rfl, x3, hp3, hL3⟩
      have HL3 := Lib.hid hL3
      obtain ⟨b', o', e', hc⟩ := (Hk.out.keep hL3.a.old) (by omega)
      injection e' with e'; injection e' with eb eo; subst eb eo
      have c2 := hc (n - 1 - j) (by omega)
      obtain ⟨z, hz⟩ : ∃ z, zs.getD (n - 1 - j) 0 = z := ⟨_, rfl⟩
      rw [hz] at c2 Hsn'
      have Hset := Lib.hid (two_right hL3 (by have := Hlen'.out; omega) z)
      rw [hp'] at Hset
      clear hc hL3 hz c1
      go_wp2_with fail
      refine Hset.out.mono ?_
      rintro e w4 ⟨rfl, y4, hp4, hL4⟩
      have HL4 := Lib.hid hL4
      clear hL4 Hset HL3 c2
      go_wp2
      go_roundw
      case rel => exact ⟨j + 1, x3, y4, by omega, by go_num, hp3, hp4, by rw [Hsn.out, Hsn'.out]; exact HL4.out⟩
      case measure => simp [intOf]; omega
    · obtain rfl : j = n := by omega
      have hall : zs.take j = zs := List.take_of_length_le (by rw [Hz.out]; omega)
      have hall' : zs.reverse.take j = zs.reverse := List.take_of_length_le (by rw [List.length_reverse, Hz.out]; omega)
      rw [hall] at HL Hlen
      rw [hall', setAll_reverse] at HL
      obtain ⟨L, hLe⟩ : ∃ L, setAll zs [] = L := ⟨_, rfl⟩
      rw [hLe] at HL Hlen
      clear hall hall' hLe Hk Hz H0 Hlen'
      have Ht := Lib.hid (live_all w _ _ _ HL.out.a (by have := Hlen.out; omega) 0)
      rw [hp] at Ht
      go_wp2_with fail
      refine Ht.out.mono ?_
      rintro e w3 ⟨B, d, rfl, hpl, _, hm3⟩
      have HL3 := Lib.hid (HL.out.keep hm3)
      have Hpl := Lib.hid hpl
      have Ht := Lib.hid (live_all w _ _ _ HL3.out.b (by have := Hlen.out; omega) 0)
      rw [hp'] at Ht
      clear hpl hm3 HL
      go_wp2_with fail
      refine Ht.out.mono ?_
      rintro e w4 ⟨B', d', rfl, hpl', _, hm4⟩
      have HL4 := Lib.hid (HL3.out.keep hm4)
      have Hsame := Lib.hid (same_ok w4 _ _ _ _ _ _ _ _ (Hpl.out.keep hm4) hpl' (by have := Hlen.out; omega) (by have := Hlen.out; omega))
      rw [eqP_self] at Hsame
      clear hpl' hm4 HL3 Hpl Ht
      go_wp2_with fail
      refine Hsame.out.mono ?_
      rintro e w5 ⟨rfl, q, rfl⟩
      have HL5 := Lib.hid (HL4.out.keep ((Mod.refl _ w4).drewN q))
      clear HL4 Hsame
      generalize w4.drewN q = w5 at *
      have Hla := Lib.hid (len_ok w5 _ _ HL5.out.a.rd)
      have Hlb := Lib.hid (len_ok w5 _ _ HL5.out.b.rd)
      rw [hp] at Hla
      rw [hp'] at Hlb
      go_wp2_with fail
      refine Hla.out.mono ?_
      rintro e w6 ⟨rfl, rfl⟩
      go_wp2_with fail
      refine Hlb.out.mono ?_
      rintro e w7 ⟨rfl, rfl⟩
      go_wp2
      go_ret
      exact ⟨rfl, HL5.out.a.old.below (Nat.le_refl _) (fun _ _ => id)⟩
end Go.Proofs.Ytallokaboldflaa
