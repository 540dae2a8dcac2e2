/-
  The contract of frame.Part.
-/
import Derived.Test.YtfejmaffgbbkeaaSeal
namespace Go.Proofs.Ytfejmaffgbbkeaa
open Go Go.RowKit

/-- The first k bytes of ys, and then those of xs. -/
def partOf (xs ys : List UInt8) (k : Nat) : List UInt8 := ys.take k ++ xs.drop k
theorem partOf_len (xs ys : List UInt8) (k : Nat) (hx : xs.length = 256) (hy : ys.length = 256) (hk : k ≤ 256) : (partOf xs ys k).length = 256 := by
  simp only [partOf, List.length_append, List.length_take, List.length_drop]; omega
theorem part_splices (xs ys : List UInt8) (k : Nat) (hx : xs.length = 256) (hy : ys.length = 256) (hk : k ≤ 256) : splice (splice (zeros 256) 0 xs) 0 (ys.take k) = partOf xs ys k := by
  have e1 : splice (zeros 256) 0 xs = xs := by
    have := splice_at [] (zeros 256) 0 rfl xs
    rw [zeros_drop, hx] at this
    rw [show zeros (256 - 256) = [] from rfl, List.append_nil] at this
    exact this
  rw [e1]
  have := splice_at [] xs 0 rfl (ys.take k)
  rw [List.length_take, hy, Nat.min_eq_left hk] at this
  simpa [partOf] using this

def partB (n m : Nat) (k : Int) : Bool := decide (n = 256) && decide (m = 256) && decide (0 ≤ k) && decide (k ≤ 256)

set_option maxRecDepth 100000 in
set_option maxHeartbeats 800000 in
theorem part_no (w : World) (A B : Option Addr) (n c m d : Nat) (k : Int) (h : partB n m k = false) :
    Calls Try.prog 16 #[.slice A n c, .slice B m d, .int .i64 k] w fun e w' => e = .returned (.tuple #[.slice none 0 0, .int .i64 1]) ∧ w = w' := by
  by_cases h1 : n = 256
  · by_cases h2 : m = 256
    · by_cases h3 : k < 0
      · subst h1; subst h2
        have hd : decide (k < 0) = true := by simpa using h3
        clear h h3
        go_enter Try.func16, Try.ntmps16
        go_wp2_with fail
        go_ret2
        exact ⟨rfl, rfl⟩
      · have h4 : 256 < k := by
          simp [partB, h1, h2] at h
          omega
        subst h1; subst h2
        have hd : decide (k < 0) = false := by simpa using h3
        have hd2 : decide (256 < k) = true := by simpa using h4
        clear h h3 h4
        go_enter Try.func16, Try.ntmps16
        go_wp2_with fail
        go_ret2
        exact ⟨rfl, rfl⟩
    · subst h1
      have hne : ((m : Int) != 256) = true := by rw [bne_iff_ne]; omega
      clear h h2
      go_enter Try.func16, Try.ntmps16
      go_wp2_with fail
      go_ret2
      exact ⟨rfl, rfl⟩
  · have hne : ((n : Int) != 256) = true := by rw [bne_iff_ne]; omega
    clear h h1
    go_enter Try.func16, Try.ntmps16
    go_wp2_with fail
    go_ret2
    exact ⟨rfl, rfl⟩

set_option maxRecDepth 100000 in
set_option maxHeartbeats 1600000 in
theorem part_ok (w : World) (A B : Option Addr) (c d : Nat) (xs ys : List UInt8) (hx : Sl w A 256 c xs) (hy : Sl w B 256 d ys) (k : Nat) (hk : k ≤ 256) :
    Calls Try.prog 16 #[.slice A 256 c, .slice B 256 d, .int .i64 k] w fun e w' => ∃ g, e = .returned (.tuple #[.slice (some ⟨g, 0, none⟩) 256 256, .int .i64 0]) ∧ Sec w w' g (partOf xs ys k) := by
  have hz41 := zero41
  have hk' : ¬ (256 : Int) < k := by omega
  have hk0 : (0 : Int) ≤ k := by omega
  have hk1 : (k : Int) ≤ 256 := by omega
  have HxA := Lib.hid (hx.lt (by omega))
  have HxB := Lib.hid (hy.lt (by omega))
  obtain ⟨bA, oA, rfl, hbA⟩ := HxA.out
  obtain ⟨bB, oB, rfl, hbB⟩ := HxB.out
  have Hxl := Lib.hid hx.len
  have Hyl := Lib.hid hy.len
  have Hk := Lib.hid hk
  clear HxA HxB hk
  go_enter Try.func16, Try.ntmps16
  have h2x : Hid (Sl (w.alloc (.cells (zrow 256) 41)) (some ⟨bA, oA, none⟩) 256 c xs) := hx.alloc _
  have h2y : Hid (Sl (w.alloc (.cells (zrow 256) 41)) (some ⟨bB, oB, none⟩) 256 d ys) := hy.alloc _
  have hM2 : Hid (Mod (fun _ => False) w (w.alloc (.cells (zrow 256) 41))) := (Mod.refl _ w).alloc _
  obtain ⟨Z, hZ⟩ : ∃ Z, Z = zeros 256 := ⟨_, rfl⟩
  have HZ := Lib.hid hZ
  have HZl : Hid (Z.length = 256) := by show _ = _; rw [hZ, zeros_len]
  have Hg2 : Hid ((w.alloc (.cells (zrow 256) 41)).heap[w.heap.size]? = some (.cells (Z.map bv).toArray 41 (0, 0))) := by show _ = _; rw [hZ]; exact heap_alloc_new w _
  clear hZ hx hy
  obtain ⟨CX, hCX⟩ : ∃ CX, CX = xs.map bv := ⟨_, rfl⟩
  have HCX := Lib.hid hCX
  have HCXl : Hid (CX.length = 256) := by show _ = _; rw [hCX, List.length_map, Hxl.out]
  have HXone : Hid (∀ v ∈ CX, v.oneCell' = true) := by show ∀ v ∈ CX, v.oneCell' = true; rw [hCX]; exact bv_one xs
  have Hn2 : Hid (CX.length = Nat.min 256 256) := by show _ = _; rw [HCXl.out]; rfl
  have Hf2 : Hid (0 + CX.length ≤ (Z.map bv).length) := by show _ ≤ _; rw [HCXl.out, List.length_map, HZl.out]; omega
  have Hp2 : Hid (0 < CX.length → ∃ ad, some (⟨bA, oA, none⟩ : Addr) = some ad ∧ ∀ j v, CX[j]? = some v → (w.alloc (.cells (zrow 256) 41)).cell? (ad.add j) = some v) := by
    intro hp
    obtain ⟨ad, e, hc⟩ := h2x.out.src.2.2 (by omega)
    exact ⟨ad, e, fun j v hv => hc j v (by rw [← hCX]; exact hv)⟩
  clear hCX
  have hd : decide ((k : Int) < 0) = false := by simp
  go_wp2_with (with_reducible refine wpList_copyAt (.tmp 25) (.tmp 26) byteElem rfl rfl rfl rfl Hg2.out Hn2.out Hp2.out Hf2.out HXone.out ?_)
  intro w3 hg3 hm3 hs3
  have h3y : Sl w3 (some ⟨bB, oB, none⟩) 256 d ys := h2y.out.mod hm3 (fun k e _ e2 => by simp [blkOf] at e; omega)
  have hM3 : Mod (fun _ => False) w w3 := hM2.out.trans hm3 (fun i hi e => by omega)
  obtain ⟨Z1, hZ1⟩ : ∃ Z1, Z1 = splice Z 0 xs := ⟨_, rfl⟩
  have HZ1l : Hid (Z1.length = 256) := by show _ = _; rw [hZ1, length_splice _ _ _ (by rw [Hxl.out, HZl.out]; omega), HZl.out]
  have hg3' : w3.heap[w.heap.size]? = some (.cells (Z1.map bv).toArray 41 (0, 0)) := by rw [hg3, HCX.out, splice_map, hZ1]
  have HZ1 := Lib.hid hZ1
  have Hg3 := Lib.hid hg3'
  clear hZ1 hg3 hg3' hs3 h2y h2x hM2 hm3 Hg2 Hp2 Hf2 Hn2
  obtain ⟨CY, hCY⟩ : ∃ CY, CY = (ys.take k).map bv := ⟨_, rfl⟩
  have HCY := Lib.hid hCY
  have HCYl : Hid (CY.length = k) := by show _ = _; rw [hCY, List.length_map, List.length_take, Hyl.out]; have := Hk.out; omega
  have HYone : Hid (∀ v ∈ CY, v.oneCell' = true) := by show ∀ v ∈ CY, v.oneCell' = true; rw [hCY]; exact bv_one _
  have Hn3 : Hid (CY.length = Nat.min 256 k) := by
    show _ = min 256 k
    have := Hk.out
    rw [HCYl.out]; omega
  have Hf3 : Hid (0 + CY.length ≤ (Z1.map bv).length) := by show _ ≤ _; have := Hk.out; rw [HCYl.out, List.length_map, HZ1l.out]; omega
  have Hp3 : Hid (0 < CY.length → ∃ ad, some (⟨bB, oB, none⟩ : Addr) = some ad ∧ ∀ j v, CY[j]? = some v → w3.cell? (ad.add j) = some v) := by
    intro hp
    rw [hCY] at hp
    obtain ⟨ad, e, hc⟩ := h3y.srcTake k Hk.out hp
    exact ⟨ad, e, fun j v hv => hc j v (by rw [← hCY]; exact hv)⟩
  clear hCY
  go_wp2_with (with_reducible refine wpList_copyAt (.tmp 29) (.tmp 30) byteElem rfl rfl rfl rfl Hg3.out Hn3.out Hp3.out Hf3.out HYone.out ?_)
  intro w4 hg4 hm4 hs4
  have hM4 : Mod (fun _ => False) w w4 := hM3.trans hm4 (fun i hi e => by omega)
  have hg4' : w4.heap[w.heap.size]? = some (.cells ((partOf xs ys k).map bv).toArray 41 (0, 0)) := by
    rw [hg4, HCY.out, splice_map, HZ1.out, HZ.out, part_splices xs ys k Hxl.out Hyl.out Hk.out]
  have Hg4 := Lib.hid hg4'
  clear hg4 hg4' hm4 hs4 Hp3 Hf3 Hn3 Hg3
  go_wp2
  go_ret2
  exact ⟨_, rfl, Nat.le_refl _, Hg4.out, hM4⟩
end Go.Proofs.Ytfejmaffgbbkeaa
