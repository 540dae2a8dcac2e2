/-
  The contract of master.contained.
-/
import Derived.Test.YtkigpicjhklioaaQMo
namespace Go.Proofs.Ytkigpicjhklioaa
open Go Go.RowKit

/-- What lies between a sector's stamps. -/
def roomOf (xs : List UInt8) : List UInt8 := (xs.drop 4).take 248
theorem roomOf_len {xs : List UInt8} (h : xs.length = 256) : (roomOf xs).length = 248 := room_len h
/-- Does the sector tell a master, at that place? -/
def toldB (xs : List UInt8) (i : Int) : Bool := decide (xs.take 4 = xs.drop 252) && (mayM (msOf (roomOf xs)) && (decide ((msOf (roomOf xs)).no % 2 = i) && eqB xs (secM (msOf (roomOf xs)))))
def toldM (xs : List UInt8) (i : Int) : Ms := if toldB xs i then msOf (roomOf xs) else ⟨0, 0, 0, 0⟩

/-- Two masters by value: what is to be answered, and what was read. -/
structure Bx9 (W : World) (z b : Nat) (m : Ms) : Prop where
  z0 : W.cell? ⟨z, 0, none⟩ = some (.int .i64 0)
  z1 : W.cell? ⟨z, 1, none⟩ = some (.int .i64 0)
  z2 : W.cell? ⟨z, 2, none⟩ = some (.int .i64 0)
  z3 : W.cell? ⟨z, 3, none⟩ = some (.int .i64 0)
  f0 : W.frozen? ⟨z, 0, none⟩ = false
  f1 : W.frozen? ⟨z, 1, none⟩ = false
  f2 : W.frozen? ⟨z, 2, none⟩ = false
  f3 : W.frozen? ⟨z, 3, none⟩ = false
  b0 : W.cell? ⟨b, 0, none⟩ = some (.int .i64 m.no)
  b1 : W.cell? ⟨b, 1, none⟩ = some (.int .i64 m.ep)
  b2 : W.cell? ⟨b, 2, none⟩ = some (.int .i64 m.st)
  b3 : W.cell? ⟨b, 3, none⟩ = some (.int .i64 m.ck)
theorem Bx9.of {W : World} {z b : Nat} {m : Ms} {t t2 : TypeId} {f2 : Nat × Nat} (hz : W.heap[z]? = some (.cells #[.int .i64 0, .int .i64 0, .int .i64 0, .int .i64 0] t (0, 0))) (hb : W.heap[b]? = some (.cells #[.int .i64 m.no, .int .i64 m.ep, .int .i64 m.st, .int .i64 m.ck] t2 f2)) : Bx9 W z b m := by
  refine ⟨?_, ?_, ?_, ?_, frozen_of_block hz 0, frozen_of_block hz 1, frozen_of_block hz 2, frozen_of_block hz 3, ?_, ?_, ?_, ?_⟩
  all_goals (first | (rw [cell_of_row _ _ _ _ _ _ hz]; rfl) | (rw [cell_of_row _ _ _ _ _ _ hb]; rfl))

theorem Mod.set4 {w W : World} {z : Nat} (h : Mod (fun _ => False) w W) (hz : w.heap.size ≤ z) (v0 v1 v2 v3 : Value) : Mod (fun _ => False) w ((((W.setCell ⟨z, 0, none⟩ v0).setCell ⟨z, 1, none⟩ v1).setCell ⟨z, 2, none⟩ v2).setCell ⟨z, 3, none⟩ v3) :=
  (((h.setCell (p := ⟨z, 0, none⟩) (fun h => by have h : z < w.heap.size := h; omega) _).setCell (p := ⟨z, 1, none⟩) (fun h => by have h : z < w.heap.size := h; omega) _).setCell (p := ⟨z, 2, none⟩) (fun h => by have h : z < w.heap.size := h; omega) _).setCell (p := ⟨z, 3, none⟩) (fun h => by have h : z < w.heap.size := h; omega) _

set_option maxRecDepth 100000 in
set_option maxHeartbeats 1600000 in
theorem contained_torn (w : World) (A : Option Addr) (c : Nat) (xs : List UInt8) (i : Int) (h : Sl w A 256 c xs) (hne : xs.take 4 ≠ xs.drop 252) :
    Calls Try.prog 39 #[.slice A 256 c, .int .i64 i] w fun e w' => e = .returned (.tuple #[.agg #[.int .i64 0, .int .i64 0, .int .i64 0, .int .i64 0], .bool false]) ∧ Mod (fun _ => False) w w' := by
  have h1 := h.alloc (.cells #[.int .i64 0, .int .i64 0, .int .i64 0, .int .i64 0] 23)
  have ht := Lib.hid (open_torn _ A c xs h1 hne)
  have hz1 := heap_alloc_new w (.cells #[.int .i64 0, .int .i64 0, .int .i64 0, .int .i64 0] 23)
  have hM1 : Mod (fun _ => False) w (w.alloc (.cells #[.int .i64 0, .int .i64 0, .int .i64 0, .int .i64 0] 23)) := (Mod.refl _ w).alloc _
  have HM1 := Lib.hid hM1
  have HZ1 := Lib.hid hz1
  clear hz1 hM1 h1 hne
  go_enter Try.func39, Try.ntmps39
  go_wp2_with fail
  refine ht.out.mono ?_
  rintro e w2 ⟨rfl, hm2⟩
  have hz2 := (hm2.block w.heap.size (by simp only [World.size_alloc]; omega) id).trans HZ1.out
  have hB := Bx9.of (m := ⟨0, 0, 0, 0⟩) hz2 hz2
  obtain ⟨z0, z1, z2, z3, f0, f1, f2, f3, -, -, -, -⟩ := hB
  have HM2 : Hid (Mod (fun _ => False) w w2) := HM1.out.trans hm2 (fun _ _ h => h)
  clear hz2 hm2 HZ1 HM1 ht h
  generalize hz : w.heap.size = z at *
  have Hz := Lib.hid hz
  clear hz
  go_wp2
  refine bodyPost_ret (v := .tuple #[.agg #[.int .i64 0, .int .i64 0, .int .i64 0, .int .i64 0], .bool false]) (by simp [results, Try.results39, go_sem, z0, z1, z2, z3]) rfl ?_
  exact ⟨rfl, HM2.out.set4 (Nat.le_of_eq Hz.out) _ _ _ _⟩

set_option maxRecDepth 100000 in
set_option maxHeartbeats 1600000 in
theorem contained_open (w : World) (A : Option Addr) (c : Nat) (xs : List UInt8) (i : Int) (h : Sl w A 256 c xs) (he : xs.take 4 = xs.drop 252) (m : Ms) (hm : m = msOf (roomOf xs)) (b : Bool) (hb : b = (mayM m && (decide (m.no % 2 = i) && eqB xs (secM m)))) :
    Calls Try.prog 39 #[.slice A 256 c, .int .i64 i] w fun e w' => e = .returned (.tuple #[.agg #[.int .i64 (if b then m.no else 0), .int .i64 (if b then m.ep else 0), .int .i64 (if b then m.st else 0), .int .i64 (if b then m.ck else 0)], .bool b]) ∧ Mod (fun _ => False) w w' := by
  have h1 := h.alloc (.cells #[.int .i64 0, .int .i64 0, .int .i64 0, .int .i64 0] 23)
  have ht := Lib.hid (open_ok _ A c xs h1 he)
  have hz1 := heap_alloc_new w (.cells #[.int .i64 0, .int .i64 0, .int .i64 0, .int .i64 0] 23)
  have hM1 : Mod (fun _ => False) w (w.alloc (.cells #[.int .i64 0, .int .i64 0, .int .i64 0, .int .i64 0] 23)) := (Mod.refl _ w).alloc _
  have HM1 := Lib.hid hM1
  have HZ1 := Lib.hid hz1
  have HX := Lib.hid h
  have Hl := Lib.hid h.len
  have Hm := Lib.hid hm
  have Hmb : Hid (0 ≤ m.no) := by rw [hm]; exact (numAt_bd _ 0).1
  clear hz1 hM1 h1 he hm h
  go_enter Try.func39, Try.ntmps39
  go_wp2_with fail
  refine ht.out.mono ?_
  rintro e w2 ⟨g2, rfl, hr2⟩
  have hs2 : Sl w2 (some ⟨g2, 0, none⟩) 248 248 (roomOf xs) := hr2.sl (roomOf_len Hl.out)
  have hz2 := (hr2.2.2.block w.heap.size (by simp only [World.size_alloc]; omega) id).trans HZ1.out
  have hop := opened_ok w2 _ _ _ _ hs2 (by omega) (by omega)
  have hop : Calls Try.prog 50 #[.slice (some ⟨g2, 0, none⟩) 248 248] w2 fun e w' => e = .returned (.agg #[.int .i64 m.no, .int .i64 m.ep, .int .i64 m.st, .int .i64 m.ck]) ∧ Mod (fun _ => False) w2 w' := by rw [Hm.out]; exact hop
  have Hop := Lib.hid hop
  have HM2 : Hid (Mod (fun _ => False) w w2) := HM1.out.trans hr2.2.2 (fun _ _ h => h)
  have HZ2 := Lib.hid hz2
  clear hz2 hs2 hr2 HZ1 HM1 ht hop
  go_wp2_with fail
  refine Hop.out.mono ?_
  rintro e w3 ⟨rfl, hm3⟩
  have hz3 := (hm3.block w.heap.size (Array.getElem?_eq_some_iff.1 HZ2.out).1 id).trans HZ2.out
  have hM3 : Mod (fun _ => False) w w3 := HM2.out.trans hm3 (fun _ _ h => h)
  have hz4 : (w3.alloc (.cells #[.int .i64 m.no, .int .i64 m.ep, .int .i64 m.st, .int .i64 m.ck] 23)).heap[w.heap.size]? = some (.cells #[.int .i64 0, .int .i64 0, .int .i64 0, .int .i64 0] 23 (0, 0)) := by
    rw [Below.heap_alloc _ _ _ (Array.getElem?_eq_some_iff.1 hz3).1]; exact hz3
  have hb4 := heap_alloc_new w3 (.cells #[.int .i64 m.no, .int .i64 m.ep, .int .i64 m.st, .int .i64 m.ck] 23)
  have hM4 : Mod (fun _ => False) w (w3.alloc (.cells #[.int .i64 m.no, .int .i64 m.ep, .int .i64 m.st, .int .i64 m.ck] 23)) := hM3.alloc _
  generalize hw4 : w3.alloc (.cells #[.int .i64 m.no, .int .i64 m.ep, .int .i64 m.st, .int .i64 m.ck] 23) = w4 at *
  generalize hq : w3.heap.size = q at *
  generalize hz : w.heap.size = z at *
  have Hz := Lib.hid hz
  have HM4 := Lib.hid hM4
  have HB : Hid (∀ W, Mod (fun _ => False) w4 W → Bx9 W z q m) := by
    intro W hW
    have e1 := hW.block z (Array.getElem?_eq_some_iff.1 hz4).1 id
    have e2 := hW.block q (Array.getElem?_eq_some_iff.1 hb4).1 id
    rw [hz4] at e1
    rw [hb4] at e2
    exact Bx9.of e1 e2
  have Hw4 := Lib.hid hw4
  have Hq := Lib.hid hq
  have HXd : Hid (∀ W, Mod (fun _ => False) w4 W → Sl W A 256 c xs) := fun W hW => HX.out.mod (HM4.out.trans hW (fun _ _ h => h)) (fun _ _ _ => id)
  clear hz3 hM3 hz4 hb4 hM4 hz hq hw4 hm3 HZ2 HM2 Hop
  have hB := HB.out w4 (Mod.refl _ _)
  obtain ⟨z0, z1, z2, z3, f0, f1, f2, f3, b0, b1, b2, b3⟩ := hB
  have Hmay := Lib.hid (fun W => may_ok W m)
  generalize hy : mayM m = y at *
  have Hy := Lib.hid hy
  clear hy
  go_wp2_with fail
  rw [Hw4.out, Hq.out]
  refine (Hmay.out w4).mono ?_
  rintro e w5 ⟨rfl, hm5⟩
  have HM_w5 : Hid (Mod (fun _ => False) w4 w5) := hm5
  clear hm5 Hmay z0 z1 z2 z3 f0 f1 f2 f3 b0 b1 b2 b3
  obtain ⟨z0, z1, z2, z3, f0, f1, f2, f3, b0, b1, b2, b3⟩ := HB.out w5 HM_w5.out
  rcases y with _ | _
  · have HbE : Hid (b = false) := by show _ = _; rw [hb]; rfl
    clear hb
    obtain rfl : b = false := HbE.out
    go_wp2
    refine bodyPost_ret (v := .tuple #[.agg #[.int .i64 0, .int .i64 0, .int .i64 0, .int .i64 0], .bool false]) (by simp [results, Try.results39, go_sem, z0, z1, z2, z3]) rfl ?_
    exact ⟨rfl, (HM4.out.trans HM_w5.out (fun _ _ h => h)).set4 (Nat.le_of_eq Hz.out) _ _ _ _⟩
  replace hb : b = (decide (m.no % 2 = i) && eqB xs (secM m)) := by rw [hb]; rfl
  have Hat := Lib.hid (fun W => at_ok W m Hmb.out)
  go_wp2_with fail
  refine (Hat.out w5).mono ?_
  rintro e w6 ⟨rfl, hm6⟩
  have HM_w6 : Hid (Mod (fun _ => False) w4 w6) := HM_w5.out.trans hm6 (fun _ _ h => h)
  clear hm6 Hat z0 z1 z2 z3 f0 f1 f2 f3 b0 b1 b2 b3
  obtain ⟨z0, z1, z2, z3, f0, f1, f2, f3, b0, b1, b2, b3⟩ := HB.out w6 HM_w6.out
  generalize hr : m.no % 2 = r at *
  have Hr := Lib.hid hr
  clear hr
  by_cases hp : r = i
  rotate_left
  · have HbE : Hid (b = false) := by show _ = _; rw [hb, decide_eq_false hp]; rfl
    have hne : (r != i) = true := by rw [bne_iff_ne]; exact hp
    clear hb hp
    obtain rfl : b = false := HbE.out
    go_wp2
    refine bodyPost_ret (v := .tuple #[.agg #[.int .i64 0, .int .i64 0, .int .i64 0, .int .i64 0], .bool false]) (by simp [results, Try.results39, go_sem, z0, z1, z2, z3]) rfl ?_
    exact ⟨rfl, (HM4.out.trans HM_w6.out (fun _ _ h => h)).set4 (Nat.le_of_eq Hz.out) _ _ _ _⟩
  replace hb : b = eqB xs (secM m) := by rw [hb, decide_eq_true hp]; rfl
  have hne : (r != i) = false := by rw [bne_eq_false_iff_eq]; exact hp
  have Hse := Lib.hid (fun W => sealed_ok W m ((mayM_iff m).1 Hy.out))
  have Hhp := Lib.hid hp
  clear hp
  go_wp2_with fail
  refine (Hse.out w6).mono ?_
  rintro e w7 ⟨g7, rfl, hs7⟩
  have HM_w7 : Hid (Mod (fun _ => False) w4 w7) := HM_w6.out.trans hs7.2.2 (fun _ _ h => h)
  have hsl7 : Sl w7 (some ⟨g7, 0, none⟩) 256 256 (secM m) := hs7.sl (secM_len m)
  have Heq := Lib.hid (equal_ok w7 A _ 256 256 c 256 xs (secM m) (HXd.out w7 HM_w7.out) hsl7 (by omega) (by omega))
  clear hs7 hsl7 Hse z0 z1 z2 z3 f0 f1 f2 f3 b0 b1 b2 b3
  obtain ⟨z0, z1, z2, z3, f0, f1, f2, f3, b0, b1, b2, b3⟩ := HB.out w7 HM_w7.out
  generalize hv : eqB xs (secM m) = v at *
  clear hv
  go_wp2_with fail
  refine Heq.out.mono ?_
  rintro e w8 ⟨rfl, rfl⟩
  clear Heq
  rcases v with _ | _
  · have HbE : Hid (b = false) := hb
    clear hb
    obtain rfl : b = false := HbE.out
    go_wp2
    refine bodyPost_ret (v := .tuple #[.agg #[.int .i64 0, .int .i64 0, .int .i64 0, .int .i64 0], .bool false]) (by simp [results, Try.results39, go_sem, z0, z1, z2, z3]) rfl ?_
    exact ⟨rfl, (HM4.out.trans HM_w7.out (fun _ _ h => h)).set4 (Nat.le_of_eq Hz.out) _ _ _ _⟩
  have HbE : Hid (b = true) := hb
  clear hb
  obtain rfl : b = true := HbE.out
  go_wp2
  refine bodyPost_ret (v := .tuple #[.agg #[.int .i64 m.no, .int .i64 m.ep, .int .i64 m.st, .int .i64 m.ck], .bool true]) (by simp [results, Try.results39, go_sem, z0, z1, z2, z3]) rfl ?_
  exact ⟨rfl, (HM4.out.trans HM_w7.out (fun _ _ h => h)).set4 (Nat.le_of_eq Hz.out) _ _ _ _⟩
end Go.Proofs.Ytkigpicjhklioaa
