/-
  The contract of master.opened.
-/
import Derived.Test.YtkigpicjhklioaaQMs
import Derived.Laws.ResultCell
namespace Go.Proofs.Ytkigpicjhklioaa
open Go Go.RowKit

/-- The number that stands at a place. -/
def numAt (xs : List UInt8) (k : Nat) : Int := (unle ((xs.drop k).take 4) : Int)
/-- The master that some bytes tell. -/
def msOf (xs : List UInt8) : Ms := ⟨numAt xs 0, numAt xs 4, numAt xs 8, numAt xs 12⟩
theorem numAt_bd (xs : List UInt8) (k : Nat) : 0 ≤ numAt xs k ∧ numAt xs k ≤ 4294967295 := by
  have h := unle_lt ((xs.drop k).take 4)
  have hl : ((xs.drop k).take 4).length ≤ 4 := by rw [List.length_take]; omega
  have h2 : 256 ^ ((xs.drop k).take 4).length ≤ 256 ^ 4 := Nat.pow_le_pow_right (by omega) hl
  unfold numAt
  omega

/-- What lies while a master is read: the Reader, the master, the result. -/
structure Op9 (w W : World) (g b z : Nat) (A : Option Addr) (n c : Nat) (xs : List UInt8) (q0 q1 q2 q3 : Int) : Prop where
  rd : Rd W g A n c xs
  box : W.heap[b]? = some (.cells #[.int .i64 q0, .int .i64 q1, .int .i64 q2, .int .i64 q3] 23 (0, 0))
  res : W.heap[z]? = some (.cells #[.int .i64 0, .int .i64 0, .int .i64 0, .int .i64 0] 23 (0, 0))
  old : Mod (fun _ => False) w W
  gz : w.heap.size ≤ g
  bz : w.heap.size ≤ b
  zz : w.heap.size ≤ z
  gb : g ≠ b
  bA : ∀ k, blkOf A = some k → k ≠ b
  zb : z ≠ b
  zg : z ≠ g
theorem Op9.get {w W : World} {g b z : Nat} {A : Option Addr} {n c : Nat} {xs : List UInt8} {q0 q1 q2 q3 : Int} (h : Op9 w W g b z A n c xs q0 q1 q2 q3) (hc : c ≤ maxLen) (hn : 4 ≤ n) :
    Calls Try.prog 63 #[.pointer (some ⟨g, 0, none⟩), .int .i64 4] W fun e W' => e = .returned (.tuple #[.int .i64 (numAt xs 0), .int .i64 0]) ∧ ∃ A', Op9 w W' g b z A' (n - 4) (c - 4) (xs.drop 4) q0 q1 q2 q3 := by
  refine (get_ok4 W g A n c xs h.rd hc hn).mono ?_
  rintro e W' ⟨rfl, A', hr, hA, hm, hs⟩
  have hbl := (Array.getElem?_eq_some_iff.1 h.box).1
  have hzl := (Array.getElem?_eq_some_iff.1 h.res).1
  refine ⟨rfl, A', hr, (hm.block b hbl (fun e => h.gb e.symm)).trans h.box, (hm.block z hzl h.zg).trans h.res, h.old.trans hm (fun i hi e => by have := h.gz; omega), h.gz, h.bz, h.zz, h.gb, fun k e => h.bA k (hA ▸ e), h.zb, h.zg⟩
theorem Op9.box' {w W : World} {g b z : Nat} {A : Option Addr} {n c : Nat} {xs : List UInt8} {q0 q1 q2 q3 : Int} (h : Op9 w W g b z A n c xs q0 q1 q2 q3) (j : Nat) (v : Value) (r0 r1 r2 r3 : Int)
    (hv : (#[.int .i64 q0, .int .i64 q1, .int .i64 q2, .int .i64 q3] : Array Value).setIfInBounds j v = #[.int .i64 r0, .int .i64 r1, .int .i64 r2, .int .i64 r3]) : Op9 w (W.setCell ⟨b, j, none⟩ v) g b z A n c xs r0 r1 r2 r3 := by
  have hm : Mod (fun i => i = b) W (W.setCell ⟨b, j, none⟩ v) := (Mod.refl (fun i => i = b) W).setCell (p := ⟨b, j, none⟩) (fun _ => rfl) _
  have hzl := (Array.getElem?_eq_some_iff.1 h.res).1
  refine ⟨h.rd.mod hm h.gb (fun k e _ => h.bA k e), ?_, (hm.block z hzl h.zb).trans h.res, h.old.trans hm (fun i hi e => by have := h.bz; omega), h.gz, h.bz, h.zz, h.gb, h.bA, h.zb, h.zg⟩
  rw [heap_set h.box, hv]

theorem Op9.get' {w W : World} {g b z : Nat} {A : Option Addr} {n c : Nat} {xs : List UInt8} {q0 q1 q2 q3 : Int} (j : Nat) (h : Op9 w W g b z A (n - j) (c - j) (xs.drop j) q0 q1 q2 q3) (hc : c ≤ maxLen) (hn : j + 4 ≤ n) :
    Calls Try.prog 63 #[.pointer (some ⟨g, 0, none⟩), .int .i64 4] W fun e W' => e = .returned (.tuple #[.int .i64 (numAt xs j), .int .i64 0]) ∧ ∃ A', Op9 w W' g b z A' (n - (j + 4)) (c - (j + 4)) (xs.drop (j + 4)) q0 q1 q2 q3 := by
  refine (h.get (by omega) (by omega)).mono ?_
  rintro e W' ⟨rfl, A', hO⟩
  rw [List.drop_drop, Nat.sub_sub, Nat.sub_sub] at hO
  refine ⟨?_, A', hO⟩
  rw [numAt, numAt, List.drop_drop, Nat.add_zero]

set_option maxRecDepth 100000 in
set_option maxHeartbeats 1600000 in
theorem opened_ok (w : World) (A : Option Addr) (n c : Nat) (xs : List UInt8) (h : Sl w A n c xs) (hn : 16 ≤ n) (hb : n ≤ 1000000) :
    Calls Try.prog 50 #[.slice A n c] w fun e w' => e = .returned (.agg #[.int .i64 (numAt xs 0), .int .i64 (numAt xs 4), .int .i64 (numAt xs 8), .int .i64 (numAt xs 12)]) ∧ Mod (fun _ => False) w w' := by
  have h1 := h.alloc (.cells #[.int .i64 0, .int .i64 0, .int .i64 0, .int .i64 0] 23)
  have hM1 : Mod (fun _ => False) w (w.alloc (.cells #[.int .i64 0, .int .i64 0, .int .i64 0, .int .i64 0] 23)) := (Mod.refl _ w).alloc _
  have hz1 := heap_alloc_new w (.cells #[.int .i64 0, .int .i64 0, .int .i64 0, .int .i64 0] 23)
  have hs1 : (w.alloc (.cells #[.int .i64 0, .int .i64 0, .int .i64 0, .int .i64 0] 23)).heap.size = w.heap.size + 1 := by simp only [World.size_alloc]
  generalize hw1 : w.alloc (.cells #[.int .i64 0, .int .i64 0, .int .i64 0, .int .i64 0] 23) = w1 at *
  have Hw1 := Lib.hid hw1
  have Hrd := Lib.hid (newReader_ok w1 A n c xs h1 (by omega))
  have HM1 := Lib.hid hM1
  have Hz1 := Lib.hid hz1
  have Hs1 := Lib.hid hs1
  generalize hz : w.heap.size = z at *
  have Hz := Lib.hid hz
  clear h1 h hM1 hz1 hs1 hz hw1
  go_enter Try.func50, Try.ntmps50
  go_wp2_with fail
  rw [Hw1.out, Hz.out]
  refine Hrd.out.mono ?_
  rintro e w2 ⟨rfl, hr2, hs2, hm2⟩
  have hb2 := heap_alloc_new w2 (.cells #[.int .i64 0, .int .i64 0, .int .i64 0, .int .i64 0] 23)
  have hO : Op9 w (w2.alloc (.cells #[.int .i64 0, .int .i64 0, .int .i64 0, .int .i64 0] 23)) (w1.heap.size + 1) w2.heap.size z (some ⟨w1.heap.size, 0, none⟩) n n xs 0 0 0 0 := by
    have e1 := Hs1.out
    have e2 := Hz.out
    have ha : Mod (fun _ => False) w2 (w2.alloc (.cells #[.int .i64 0, .int .i64 0, .int .i64 0, .int .i64 0] 23)) := (Mod.refl _ w2).alloc _
    refine ⟨hr2.mod ha id (fun _ _ _ => id), hb2, ?_, (HM1.out.trans hm2 (fun _ _ h => h)).alloc _, by omega, by omega, by omega, by omega, fun k e => by simp [blkOf] at e; omega, by omega, by omega⟩
    rw [ha.block z (by omega) id, hm2.block z (by omega) id]
    exact Hz1.out
  generalize hg : w1.heap.size + 1 = g at *
  generalize hA : (some ⟨w1.heap.size, 0, none⟩ : Option Addr) = A1 at *
  generalize hb : w2.heap.size = b at *
  have HO := Lib.hid hO
  clear hO hb2 hr2 hs2 hm2 hg hA Hrd HM1 Hz1 Hs1 Hw1
  go_wp2_with fail
  clear hb
  have HO : Hid (Op9 w (w2.alloc (.cells #[.int .i64 0, .int .i64 0, .int .i64 0, .int .i64 0] 23)) g b z A1 (n - 0) (n - 0) (xs.drop 0) 0 0 0 0) := HO.out
  generalize w2.alloc (.cells #[.int .i64 0, .int .i64 0, .int .i64 0, .int .i64 0] 23) = Y0 at *
  refine (HO.out.get' 0 (by unfold maxLen; omega) (by omega)).mono ?_
  rintro e X0 ⟨rfl, A2, hX0⟩
  have hfr := frozen_of_block hX0.box 0
  have hce : X0.cell? ⟨b, 0, none⟩ = some (.int .i64 0) := by rw [cell_of_row _ _ _ _ _ _ hX0.box]; rfl
  have hY0 := hX0.box' 0 (.int .i64 (numAt xs 0)) (numAt xs 0) 0 0 0 rfl
  have HO := Lib.hid hY0
  clear hX0 hY0
  go_wp2_with fail
  clear hfr hce
  generalize X0.setCell ⟨b, 0, none⟩ (.int .i64 (numAt xs 0)) = Y1 at *
  refine (HO.out.get' 4 (by unfold maxLen; omega) (by omega)).mono ?_
  rintro e X1 ⟨rfl, A3, hX1⟩
  have hfr := frozen_of_block hX1.box 1
  have hce : X1.cell? ⟨b, 1, none⟩ = some (.int .i64 0) := by rw [cell_of_row _ _ _ _ _ _ hX1.box]; rfl
  have hY1 := hX1.box' 1 (.int .i64 (numAt xs 4)) (numAt xs 0) (numAt xs 4) 0 0 rfl
  have HO := Lib.hid hY1
  clear hX1 hY1
  go_wp2_with fail
  clear hfr hce
  generalize X1.setCell ⟨b, 1, none⟩ (.int .i64 (numAt xs 4)) = Y2 at *
  refine (HO.out.get' 8 (by unfold maxLen; omega) (by omega)).mono ?_
  rintro e X2 ⟨rfl, A4, hX2⟩
  have hfr := frozen_of_block hX2.box 2
  have hce : X2.cell? ⟨b, 2, none⟩ = some (.int .i64 0) := by rw [cell_of_row _ _ _ _ _ _ hX2.box]; rfl
  have hY2 := hX2.box' 2 (.int .i64 (numAt xs 8)) (numAt xs 0) (numAt xs 4) (numAt xs 8) 0 rfl
  have HO := Lib.hid hY2
  clear hX2 hY2
  go_wp2_with fail
  clear hfr hce
  generalize X2.setCell ⟨b, 2, none⟩ (.int .i64 (numAt xs 8)) = Y3 at *
  refine (HO.out.get' 12 (by unfold maxLen; omega) (by omega)).mono ?_
  rintro e X3 ⟨rfl, A5, hX3⟩
  have hfr := frozen_of_block hX3.box 3
  have hce : X3.cell? ⟨b, 3, none⟩ = some (.int .i64 0) := by rw [cell_of_row _ _ _ _ _ _ hX3.box]; rfl
  have hY3 := hX3.box' 3 (.int .i64 (numAt xs 12)) (numAt xs 0) (numAt xs 4) (numAt xs 8) (numAt xs 12) rfl
  have hwc : ∀ j v, (#[.int .i64 (numAt xs 0), .int .i64 (numAt xs 4), .int .i64 (numAt xs 8), .int .i64 0] : Array Value)[j]? = some v → X3.cell? ⟨b, j, none⟩ = some v := fun j v hv => by rw [cell_of_row _ _ _ _ _ _ hX3.box]; exact hv
  have d0 := hwc 0 _ rfl
  have d1 := hwc 1 _ rfl
  have d2 := hwc 2 _ rfl
  have f0 := frozen_of_block hX3.res 0
  have f1 := frozen_of_block hX3.res 1
  have f2 := frozen_of_block hX3.res 2
  have f3 := frozen_of_block hX3.res 3
  have hzc : ∀ j v, (#[.int .i64 0, .int .i64 0, .int .i64 0, .int .i64 0] : Array Value)[j]? = some v → X3.cell? ⟨z, j, none⟩ = some v := fun j v hv => by rw [cell_of_row _ _ _ _ _ _ hX3.res]; exact hv
  have z0 := hzc 0 _ rfl
  have z1 := hzc 1 _ rfl
  have z2 := hzc 2 _ rfl
  have z3 := hzc 3 _ rfl
  have hzb := hX3.zb
  have HZ : Hid (w.heap.size ≤ z ∧ Mod (fun _ => False) w (X3.setCell ⟨b, 3, none⟩ (.int .i64 (numAt xs 12)))) := ⟨hX3.zz, hY3.old⟩
  clear hX3 hY3 hwc hzc HO
  go_wp2
  refine bodyPost_ret (v := .agg #[.int .i64 (numAt xs 0), .int .i64 (numAt xs 4), .int .i64 (numAt xs 8), .int .i64 (numAt xs 12)]) (by simp [results, Try.results50, go_sem, z0, z1, z2, z3]) rfl ?_
  refine ⟨rfl, ?_⟩
  have hZ := HZ.out
  exact (((hZ.2.setCell (p := ⟨z, 0, none⟩) (fun h => by have h : z < w.heap.size := h; omega) _).setCell (p := ⟨z, 1, none⟩) (fun h => by have h : z < w.heap.size := h; omega) _).setCell (p := ⟨z, 2, none⟩) (fun h => by have h : z < w.heap.size := h; omega) _).setCell (p := ⟨z, 3, none⟩) (fun h => by have h : z < w.heap.size := h; omega) _
end Go.Proofs.Ytkigpicjhklioaa
