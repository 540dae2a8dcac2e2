/-
  bobbinref05.Vals; bobbinref06.Same.
-/
import Derived.Test.YtpkgeidenkjnfaaRefA
import Derived.Deep.RegionHeld3
namespace Go.Proofs.Ytpkgeidenkjnfaa
open Go Go.RowKit

set_option maxRecDepth 100000 in
theorem vals_ok (w : World) (A B : Option Addr) (n m c d : Nat) (xs ys : List UInt8) (p q : Bool) (h : Sl w A n c xs) (k : Sl w B m d ys) (hc : n ≤ 140737488355328) (hd : m ≤ 140737488355328) :
    Calls Try.prog 46 #[.agg #[.bool p, .slice A n c], .agg #[.bool q, .slice B m d]] w fun e w' => e = .returned (.bool (eqB xs ys && (p == q))) ∧ Mod (fun _ => False) w w' := by
  have hm : Mod (fun _ => False) w ((w.alloc (.cells #[.bool p, .slice A n c] 43)).alloc (.cells #[.bool q, .slice B m d] 43)) := ((Mod.refl _ w).alloc _).alloc _
  have Hsame := Lib.hid (same_ok _ A B n m c d xs ys (h.mod hm (fun _ _ _ => id)) (k.mod hm (fun _ _ _ => id)) hc hd)
  have Hm := Lib.hid hm
  have hb1 : ((w.alloc (.cells #[.bool p, .slice A n c] 43)).alloc (.cells #[.bool q, .slice B m d] 43)).heap[w.heap.size]? = some (.cells #[.bool p, .slice A n c] 43 (0, 0)) :=
    (Below.heap_alloc _ _ _ (by rw [World.size_alloc]; omega)).trans (heap_alloc_new w _)
  have hb2 : ((w.alloc (.cells #[.bool p, .slice A n c] 43)).alloc (.cells #[.bool q, .slice B m d] 43)).heap[w.heap.size + 1]? = some (.cells #[.bool q, .slice B m d] 43 (0, 0)) := by
    have := heap_alloc_new (w.alloc (.cells #[.bool p, .slice A n c] 43)) (.cells #[.bool q, .slice B m d] 43)
    rw [World.size_alloc] at this
    exact this
  have Hb1 := Lib.hid hb1
  have Hb2 := Lib.hid hb2
  clear h k hm hb1 hb2
  go_enter Try.func46, Try.ntmps46
  go_wp2_with fail
  obtain ⟨w2, hw2⟩ : ∃ w2, w2 = (w.alloc (.cells #[.bool p, .slice A n c] 43)).alloc (.cells #[.bool q, .slice B m d] 43) := ⟨_, rfl⟩
  rw [← hw2] at Hsame Hm Hb1 Hb2 ⊢
  clear hw2
  refine Hsame.out.mono ?_
  rintro e w3 ⟨rfl, r, rfl⟩
  have p0 : (w2.drewN r).cell? ⟨w.heap.size, 0, none⟩ = some (.bool p) := by show w2.cell? _ = _; rw [cell_of_row _ _ _ _ _ _ Hb1.out]; rfl
  have q0 : (w2.drewN r).cell? ⟨w.heap.size + 1, 0, none⟩ = some (.bool q) := by show w2.cell? _ = _; rw [cell_of_row _ _ _ _ _ _ Hb2.out]; rfl
  have Hm3 := Lib.hid (Hm.out.drewN r)
  generalize w2.drewN r = w3 at *
  cases heq : eqB xs ys with
  | true =>
    have Heq := Lib.hid heq
    clear heq
    go_wp2
    go_ret
    exact ⟨by rw [Heq.out, Bool.true_and]; rfl, Hm3.out⟩
  | false =>
    have Heq := Lib.hid heq
    clear heq
    go_wp2
    go_ret
    exact ⟨by rw [Heq.out]; rfl, Hm3.out⟩

theorem RcD.In.all {w : World} {x : RcD} {g : Nat} (h : x.In w g) : w.cell? ⟨g, 0, none⟩ = some (.int .i64 x.k) ∧ w.cell? ⟨g, 1, none⟩ = some (.int .i64 (x.f 1)) ∧ w.cell? ⟨g, 2, none⟩ = some (.int .i64 (x.f 2)) ∧ w.cell? ⟨g, 3, none⟩ = some (.int .i64 (x.f 3)) ∧ w.cell? ⟨g, 4, none⟩ = some (.int .i64 (x.f 4)) ∧ w.cell? ⟨g, 5, none⟩ = some (.int .i64 (x.f 5)) ∧ w.cell? ⟨g, 6, none⟩ = some (.int .i64 (x.f 6)) ∧ w.cell? ⟨g, 7, none⟩ = some (.int .i64 (x.f 7)) ∧ w.cell? ⟨g, 8, none⟩ = some (.int .i64 (x.f 8)) ∧ w.cell? ⟨g, 9, none⟩ = some (.int .i64 (x.f 9)) ∧ w.cell? ⟨g, 10, none⟩ = some (.bool x.o.is) ∧ w.cell? ⟨g, 11, none⟩ = some (.slice x.o.B x.o.m x.o.d) ∧ w.cell? ⟨g, 12, none⟩ = some (.bool x.v.is) ∧ w.cell? ⟨g, 13, none⟩ = some (.slice x.v.B x.v.m x.v.d) :=
  ⟨h.kind, h.num (by omega) (by omega), h.num (by omega) (by omega), h.num (by omega) (by omega), h.num (by omega) (by omega), h.num (by omega) (by omega), h.num (by omega) (by omega), h.num (by omega) (by omega), h.num (by omega) (by omega), h.num (by omega) (by omega), h.c10, h.c11, h.c12, h.c13⟩
def nine : Array UInt8 := #[116, 115, 112, 107, 103, 108, 118, 110, 97]
theorem nine_at (j : Nat) (h : j < (⟨#[116, 115, 112, 107, 103, 108, 118, 110, 97]⟩ : ByteArray).size) : (⟨#[116, 115, 112, 107, 103, 108, 118, 110, 97]⟩ : ByteArray)[j]'h = letter (j + 1) := by
  have h : j < 9 := h
  match j, h with
  | 0, _ | 1, _ | 2, _ | 3, _ | 4, _ | 5, _ | 6, _ | 7, _ | 8, _ => rfl

/-- Are all numbers the same? -/
def sameN (x y : RcD) : Bool := (x.f 1 == y.f 1) && (x.f 2 == y.f 2) && (x.f 3 == y.f 3) && (x.f 4 == y.f 4) && (x.f 5 == y.f 5) && (x.f 6 == y.f 6) && (x.f 7 == y.f 7) && (x.f 8 == y.f 8) && (x.f 9 == y.f 9)
def sameV (x y : VlD) : Bool := eqB x.vs y.vs && (x.is == y.is)
theorem sameN_no {x y : RcD} {i : Nat} (h1 : 1 ≤ i) (h9 : i ≤ 9) (h : x.f i ≠ y.f i) : sameN x y = false := by
  unfold sameN
  match i, h1, h9 with
  | 1, _, _ | 2, _, _ | 3, _, _ | 4, _, _ | 5, _, _ | 6, _, _ | 7, _, _ | 8, _, _ | 9, _, _ => simp [h]
theorem sameN_yes {x y : RcD} (h : ∀ i, 1 ≤ i → i ≤ 9 → x.f i = y.f i) : sameN x y = true := by
  unfold sameN
  simp [h 1, h 2, h 3, h 4, h 5, h 6, h 7, h 8, h 9]

set_option maxRecDepth 100000 in
set_option maxHeartbeats 2000000 in
theorem rsame_ok (w : World) (x y : RcD) (hx : x.At w) (hy : y.At w) (hxo : x.o.m ≤ 1000000) (hxv : x.v.m ≤ 1000000) (hyo : y.o.m ≤ 1000000) (hyv : y.v.m ≤ 1000000) :
    Calls Try.prog 35 #[x.val, y.val] w fun e w' => e = .returned (.bool (sameN x y && (sameV x.o y.o && sameV x.v y.v && (x.k == y.k)))) ∧ Mod (fun _ => False) w w' := by
  obtain ⟨w1, hw1⟩ : ∃ w1, (w.alloc (.cells x.cells 45)).alloc (.cells y.cells 45) = w1 := ⟨_, rfl⟩
  have hm1 : Mod (fun _ => False) w w1 := by rw [← hw1]; exact ((Mod.refl _ w).alloc _).alloc _
  have hX1 : x.In w1 w.heap.size := by rw [← hw1]; exact (RcD.In.new w x).keep ((Mod.refl _ _).alloc _)
  have hY1 : y.In w1 (w.heap.size + 1) := by
    rw [← hw1]
    have := RcD.In.new (w.alloc (.cells x.cells 45)) y
    rw [World.size_alloc] at this
    exact this
  have Hv1 := Lib.hid (vals_ok w1 _ _ _ _ _ _ _ _ x.o.is y.o.is (hx.keep hm1).1 (hy.keep hm1).1 (by omega) (by omega))
  have a10 := hX1.c10
  have a11 := hX1.c11
  have b10 := hY1.c10
  have b11 := hY1.c11
  have HX1 := Lib.hid hX1
  have HY1 := Lib.hid hY1
  have Hm1 := Lib.hid hm1
  have Hx := Lib.hid hx
  have Hy := Lib.hid hy
  clear hX1 hY1 hm1 hx hy
  go_enter Try.func35, Try.ntmps35
  go_wp2_with fail
  try rw [hw1]
  clear hw1
  refine Hv1.out.mono ?_
  rintro e w2 ⟨rfl, hm2⟩
  have hX2 := HX1.out.keep hm2
  have hY2 := HY1.out.keep hm2
  have Hm2 := Lib.hid (Hm1.out.trans hm2 (fun _ _ h => h))
  have Hv2 := Lib.hid (vals_ok w2 _ _ _ _ _ _ _ _ x.v.is y.v.is (Hx.out.keep Hm2.out).2 (Hy.out.keep Hm2.out).2 (by omega) (by omega))
  have a12 := hX2.c12
  have a13 := hX2.c13
  have b12 := hY2.c12
  have b13 := hY2.c13
  have HX2 := Lib.hid hX2
  have HY2 := Lib.hid hY2
  clear hX2 hY2 hm2 Hv1 a10 a11 b10 b11 HX1 HY1
  go_wp2_with fail
  refine Hv2.out.mono ?_
  rintro e w3 ⟨rfl, hm3⟩
  have HX3 := Lib.hid (HX2.out.keep hm3)
  have HY3 := Lib.hid (HY2.out.keep hm3)
  have Hm3 := Lib.hid (Hm2.out.trans hm3 (fun _ _ h => h))
  clear hm3 Hv2 a12 a13 b12 b13 HX2 HY2
  have Hp : Hid (sameV x.o y.o = (eqB x.o.vs y.o.vs && (x.o.is == y.o.is)) ∧ sameV x.v y.v = (eqB x.v.vs y.v.vs && (x.v.is == y.v.is))) := ⟨rfl, rfl⟩
  rw [← Hp.out.1, ← Hp.out.2]
  generalize hp1 : sameV x.o y.o = P1 at *
  generalize hp2 : sameV x.v y.v = P2 at *
  have Hp1 := Lib.hid hp1
  have Hp2 := Lib.hid hp2
  clear hp1 hp2 Hp
  go_wp2
  go_loopw [8] (fun i wr => ∃ j : Nat, j ≤ 9 ∧ i = .int .i64 j ∧ x.In wr w.heap.size ∧ y.In wr (w.heap.size + 1) ∧ Mod (fun _ => False) w wr ∧ ∀ i, 1 ≤ i → i ≤ j → x.f i = y.f i) (fun i _ => 9 - (intOf i).toNat)
  case atStart => exact ⟨0, by omega, rfl, HX3.out, HY3.out, Hm3.out, fun i h1 h2 => by omega⟩
  case round =>
    obtain ⟨j, hj, rfl, hX, hY, hm, heq⟩ := hrel
    have Heq := Lib.hid heq
    have Hm := Lib.hid hm
    have HX := Lib.hid hX
    have HY := Lib.hid hY
    clear heq hm HX3 HY3 Hm3
    by_cases hlt : j < 9
    · have Hn1 : Hid (∀ (hp : j < (⟨#[116, 115, 112, 107, 103, 108, 118, 110, 97]⟩ : ByteArray).size) (W : World), Calls Try.prog 47 #[x.val, .int .u8 ((⟨#[116, 115, 112, 107, 103, 108, 118, 110, 97]⟩ : ByteArray)[j]'hp).toNat] W fun e w' => e = .returned (.tuple #[.int .i64 (x.f (j + 1)), .int .i64 (width (j + 1) : Nat)]) ∧ Mod (fun _ => False) W w') := fun hp W => by
        rw [nine_at j hp]; exact rnumber_ok W x (j + 1) (by omega) (by omega)
      have Hn2 : Hid (∀ (hp : j < (⟨#[116, 115, 112, 107, 103, 108, 118, 110, 97]⟩ : ByteArray).size) (W : World), Calls Try.prog 47 #[y.val, .int .u8 ((⟨#[116, 115, 112, 107, 103, 108, 118, 110, 97]⟩ : ByteArray)[j]'hp).toNat] W fun e w' => e = .returned (.tuple #[.int .i64 (y.f (j + 1)), .int .i64 (width (j + 1) : Nat)]) ∧ Mod (fun _ => False) W w') := fun hp W => by
        rw [nine_at j hp]; exact rnumber_ok W y (j + 1) (by omega) (by omega)
      clear hX hY
      go_wp2
      go_region_held3 (fun w' => w'.cell? ⟨w.heap.size, 0, none⟩ = some (.int .i64 x.k) ∧ w'.cell? ⟨w.heap.size, 1, none⟩ = some (.int .i64 (x.f 1)) ∧ w'.cell? ⟨w.heap.size, 2, none⟩ = some (.int .i64 (x.f 2)) ∧ w'.cell? ⟨w.heap.size, 3, none⟩ = some (.int .i64 (x.f 3)) ∧ w'.cell? ⟨w.heap.size, 4, none⟩ = some (.int .i64 (x.f 4)) ∧ w'.cell? ⟨w.heap.size, 5, none⟩ = some (.int .i64 (x.f 5)) ∧ w'.cell? ⟨w.heap.size, 6, none⟩ = some (.int .i64 (x.f 6)) ∧ w'.cell? ⟨w.heap.size, 7, none⟩ = some (.int .i64 (x.f 7)) ∧ w'.cell? ⟨w.heap.size, 8, none⟩ = some (.int .i64 (x.f 8)) ∧ w'.cell? ⟨w.heap.size, 9, none⟩ = some (.int .i64 (x.f 9)) ∧ w'.cell? ⟨w.heap.size, 10, none⟩ = some (.bool x.o.is) ∧ w'.cell? ⟨w.heap.size, 11, none⟩ = some (.slice x.o.B x.o.m x.o.d) ∧ w'.cell? ⟨w.heap.size, 12, none⟩ = some (.bool x.v.is) ∧ w'.cell? ⟨w.heap.size, 13, none⟩ = some (.slice x.v.B x.v.m x.v.d)) (first | exact HX.out.all | exact ((HX.out.keep (Mod.refl _ wr).drew).keep hm4).all) ((go_at_call 47; refine (Hn1.out hlt _).mono ?_; rintro e w4 ⟨rfl, hm4⟩))
      have hm5 : Mod (fun _ => False) wr w4 := (Mod.refl _ wr).drew.trans hm4 (fun _ _ h => h)
      have HX4 := Lib.hid (HX.out.keep hm5)
      have HY4 := Lib.hid (HY.out.keep hm5)
      have Hm4 := Lib.hid (Hm.out.trans hm5 (fun _ _ h => h))
      clear hm4 hm5 HX HY Hm
      go_wp2
      go_region_held3 (fun w' => w'.cell? ⟨w.heap.size + 1, 0, none⟩ = some (.int .i64 y.k) ∧ w'.cell? ⟨w.heap.size + 1, 1, none⟩ = some (.int .i64 (y.f 1)) ∧ w'.cell? ⟨w.heap.size + 1, 2, none⟩ = some (.int .i64 (y.f 2)) ∧ w'.cell? ⟨w.heap.size + 1, 3, none⟩ = some (.int .i64 (y.f 3)) ∧ w'.cell? ⟨w.heap.size + 1, 4, none⟩ = some (.int .i64 (y.f 4)) ∧ w'.cell? ⟨w.heap.size + 1, 5, none⟩ = some (.int .i64 (y.f 5)) ∧ w'.cell? ⟨w.heap.size + 1, 6, none⟩ = some (.int .i64 (y.f 6)) ∧ w'.cell? ⟨w.heap.size + 1, 7, none⟩ = some (.int .i64 (y.f 7)) ∧ w'.cell? ⟨w.heap.size + 1, 8, none⟩ = some (.int .i64 (y.f 8)) ∧ w'.cell? ⟨w.heap.size + 1, 9, none⟩ = some (.int .i64 (y.f 9)) ∧ w'.cell? ⟨w.heap.size + 1, 10, none⟩ = some (.bool y.o.is) ∧ w'.cell? ⟨w.heap.size + 1, 11, none⟩ = some (.slice y.o.B y.o.m y.o.d) ∧ w'.cell? ⟨w.heap.size + 1, 12, none⟩ = some (.bool y.v.is) ∧ w'.cell? ⟨w.heap.size + 1, 13, none⟩ = some (.slice y.v.B y.v.m y.v.d)) (first | exact HY4.out.all | exact ((HY4.out.keep (Mod.refl _ w4).drew).keep hm6).all) ((go_at_call 47; refine (Hn2.out hlt _).mono ?_; rintro e w5 ⟨rfl, hm6⟩))
      have hm7 : Mod (fun _ => False) w4 w5 := (Mod.refl _ w4).drew.trans hm6 (fun _ _ h => h)
      have HX5 := Lib.hid (HX4.out.keep hm7)
      have HY5 := Lib.hid (HY4.out.keep hm7)
      have Hm5 := Lib.hid (Hm4.out.trans hm7 (fun _ _ h => h))
      clear hm6 hm7 HX4 HY4 Hm4 Hn1 Hn2
      by_cases hne : x.f (j + 1) = y.f (j + 1)
      · have Hn : Hid (∀ i, 1 ≤ i → i ≤ j + 1 → x.f i = y.f i) := fun i h1 h2 => by
          rcases Nat.lt_or_ge i (j + 1) with h | h
          · exact Heq.out i h1 (by omega)
          · obtain rfl : i = j + 1 := by omega
            exact hne
        have hb : (x.f (j + 1) != y.f (j + 1)) = false := by rw [hne]; simp
        clear hne
        go_wp2
        go_roundw
        case rel => exact ⟨j + 1, by omega, by go_num, HX5.out, HY5.out, Hm5.out, Hn.out⟩
        case measure => simp [intOf]; omega
      · have Hs : Hid (sameN x y = false) := sameN_no (i := j + 1) (by omega) (by omega) hne
        have hb : (x.f (j + 1) != y.f (j + 1)) = true := by rw [bne_iff_ne]; exact hne
        clear hne
        go_wp2
        go_ret
        exact ⟨by rw [Hs.out]; rfl, Hm5.out⟩
    · obtain rfl : j = 9 := by omega
      have Hs : Hid (sameN x y = true) := sameN_yes Heq.out
      have k0 := hX.kind
      have k1 := hY.kind
      clear hX hY
      cases P1 with
      | false =>
        go_wp2
        go_ret
        exact ⟨by rw [Hs.out, Hp1.out]; rfl, Hm.out⟩
      | true =>
        cases P2 with
        | false =>
          go_wp2
          go_ret
          exact ⟨by rw [Hs.out, Hp1.out, Hp2.out]; rfl, Hm.out⟩
        | true =>
          go_wp2
          go_ret
          exact ⟨by rw [Hs.out, Hp1.out, Hp2.out]; rfl, Hm.out⟩
end Go.Proofs.Ytpkgeidenkjnfaa
