/-
  The statements' own helper 'awake' (the chapter's examples): it answers true.
-/
import Derived.Test.YtllpiegdjaafnaaRef1
namespace Go.Proofs.Ytllpiegdjaafnaa
open Go Go.RowKit

/-- A new, empty Writer. -/
theorem Wr.new (w : World) (base : Nat) (hb : base ≤ w.heap.size) : Wr (w.alloc (.cells #[.slice none 0 0] 28)) base w.heap.size none 0 0 [] :=
  ⟨hb, heap_alloc_new w _, OwV.nil _ _ _⟩

/-- Bytes that a literal lays into a block of its own. -/
theorem Sl.lit {w : World} {g : Nat} {e : TypeId} {fr : Nat × Nat} (xs : List UInt8) (h : w.heap[g]? = some (.cells (xs.map bv).toArray e fr)) : Sl w (some ⟨g, 0, none⟩) xs.length xs.length xs := by
  refine ⟨rfl, Nat.le_refl _, fun _ => ⟨g, 0, rfl, fun j hj => ?_⟩⟩
  rw [Nat.zero_add, cell_of_row w g j _ _ _ h]
  simp [hj]

/-- A fresh row reads as what it holds. -/
theorem Fresh.sl {w w' : World} {xs : List UInt8} {n : Nat} (h : Fresh w w' xs) (hn : xs.length = n) : Sl w' (some ⟨w.heap.size, 0, none⟩) n n xs := by
  subst hn; exact Sl.lit xs h.1
theorem eqB_self (xs : List UInt8) : eqB xs xs = true := by simp [eqB]

set_option maxRecDepth 100000 in
set_option maxHeartbeats 800000 in
theorem awake_ok (w : World) : Calls Try.prog 9 #[] w fun e w' => e = .returned (.bool true) ∧ Mod (fun _ => False) w w' := by
  go_enter Try.func9, Try.ntmps9
  go_wp2_with fail
  have hw0 := Wr.new w w.heap.size (Nat.le_refl _)
  have hM0 : Mod (fun k => w.heap.size ≤ k) w (w.alloc (.cells #[.slice none 0 0] 28)) := (Mod.refl _ w).alloc _
  refine (put_ok2 _ _ _ _ _ _ _ hw0 (by omega) 258 (by omega) (by decide)).mono ?_
  rintro e w1 ⟨rfl, A1, c1, hw1, hm1, hat1⟩
  have hM1 := hw0.step hM0 hm1
  clear hm1 hat1 hw0 hM0
  go_wp2_with fail
  have hsl : Sl (w1.alloc (.cells #[.int .u8 7, .int .u8 8] 5)) (some ⟨w1.heap.size, 0, none⟩) 2 2 [7, 8] := Sl.lit [7, 8] (heap_alloc_new w1 _)
  have hw2 := hw1.alloc (.cells #[.int .u8 7, .int .u8 8] 5)
  have hM2 : Mod (fun k => w.heap.size ≤ k) w (w1.alloc (.cells #[.int .u8 7, .int .u8 8] 5)) := hM1.alloc _
  refine (lay_ok _ _ _ _ _ _ _ hw2 (by omega) _ 2 2 _ hsl (by omega) (fun k e _ hF => ?_)).mono ?_
  · simp [blkOf] at e
    subst e
    rcases hF with hF | hF
    · have := hw1.lt; omega
    · have := (hw1.2.2.lt _ hF).2; omega
  rintro e w3 ⟨rfl, A3, c3, hw3, hm3, hat3⟩
  have hM3 := hw2.step hM2 hm3
  clear hm3 hat3 hw2 hM2 hw1 hM1 hsl
  go_wp2_with fail
  refine (put_no _ _ 256 1 (.inr (.inr (by decide)))).mono ?_
  rintro e w4 ⟨rfl, rfl⟩
  go_wp2_with fail
  refine (bytes_ok _ _ _ _ _ _ _ hw3 (by omega)).mono ?_
  rintro e w5 ⟨rfl, hb5, hz5, hm5⟩
  have hM5 : Mod (fun k => w.heap.size ≤ k) w w5 := hM3.trans hm5 (fun _ _ h => h.elim)
  have Hb5 := Lib.hid hb5
  have Hz5 := Lib.hid hz5
  clear hb5 hz5 hm5
  go_wp2_with fail
  have hx : ([] ++ le 2 (Int.toNat 258) ++ [UInt8.ofNat 2, 7, 8] : List UInt8) = [2, 1, 2, 7, 8] := by decide
  have hb5 := Hb5.out
  rw [hx] at hb5
  have hsl5 : Sl w5 (some ⟨w3.heap.size, 0, none⟩) 5 5 [2, 1, 2, 7, 8] := Sl.lit [2, 1, 2, 7, 8] hb5
  have hsl6 : Sl (w5.alloc (.cells #[.int .u8 2, .int .u8 1, .int .u8 2, .int .u8 7, .int .u8 8] 5)) (some ⟨w5.heap.size, 0, none⟩) 5 5 [2, 1, 2, 7, 8] := Sl.lit [2, 1, 2, 7, 8] (heap_alloc_new w5 _)
  clear hx hb5
  refine (same_ok _ _ _ _ _ _ _ _ _ (hsl5.alloc _) hsl6 (by omega) (by omega)).mono ?_
  rintro e w7 ⟨rfl, q, rfl⟩
  rw [show eqB [2, 1, 2, 7, 8] [2, 1, 2, 7, 8] = true from by decide]
  have hM7 : Mod (fun k => w.heap.size ≤ k) w ((w5.alloc (.cells #[.int .u8 2, .int .u8 1, .int .u8 2, .int .u8 7, .int .u8 8] 5)).drewN q) := (hM5.alloc _).drewN q
  clear hsl5 hsl6 hM5 Hb5 Hz5 hM3 hw3
  generalize (w5.alloc (.cells #[.int .u8 2, .int .u8 1, .int .u8 2, .int .u8 7, .int .u8 8] 5)).drewN q = w8 at *
  go_wp2_with fail
  have hsl8 : Sl (w8.alloc (.cells #[.int .u8 5] 5)) (some ⟨w8.heap.size, 0, none⟩) 1 1 [5] := Sl.lit [5] (heap_alloc_new w8 _)
  refine (newReader_ok _ _ _ _ _ hsl8 (by omega)).mono ?_
  rintro e w9 ⟨rfl, hr9, hz9, hm9⟩
  have hM9 : Mod (fun k => w.heap.size ≤ k) w w9 := (hM7.alloc _).trans hm9 (fun _ _ h => h.elim)
  rw [show (w8.alloc (.cells #[.int .u8 5] 5)).heap.size = w8.heap.size + 1 by simp] at hr9
  clear hz9 hm9 hM7 hsl8
  go_wp2_with fail
  refine (left_ok _ _ _ _ _ _ hr9).mono ?_
  rintro e w10 ⟨rfl, rfl⟩
  go_wp2
  go_ret
  exact ⟨rfl, hM9.mono (fun i hi h => by omega)⟩
end Go.Proofs.Ytllpiegdjaafnaa
