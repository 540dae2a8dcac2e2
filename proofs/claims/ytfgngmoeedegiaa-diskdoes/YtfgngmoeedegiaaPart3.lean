/-
  Parts of sectors: the contracts of frame.Part and of bobbinref02.Part.
-/
import Derived.Test.YtfgngmoeedegiaaSame
import Derived.Test.YtfgngmoeedegiaaCopy
namespace Go.Proofs.Ytfgngmoeedegiaa
open Go Go.RowKit

/-- A sector in memory of the call's own. -/
def Sec (w w' : World) (g : Nat) (ys : List UInt8) : Prop :=
  w.heap.size ≤ g ∧ w'.heap[g]? = some (.cells (ys.map bv).toArray 88 (0, 0)) ∧ Mod (fun _ => False) w w'
theorem Sec.sl {w w' : World} {g : Nat} {ys : List UInt8} (h : Sec w w' g ys) (hl : ys.length = 256) : Sl w' (some ⟨g, 0, none⟩) 256 256 ys := by
  have := Sl.lit ys h.2.1
  rw [hl] at this
  exact this

theorem zero41 : ∀ w, (zeroValue 88).run Try.prog w = .ok (.agg (zrow 256)) w := (zero_of_info (P := Try.prog) (n := 256) (by kernel_rfl)).1

theorem splice_at {α : Type} (L R : List α) (k : Nat) (hk : L.length = k) (cs : List α) : splice (L ++ R) k cs = L ++ (cs ++ R.drop cs.length) := by
  subst hk
  simp [splice, List.drop_append]
theorem zeros_drop (n k : Nat) : (zeros n).drop k = zeros (n - k) := by simp [zeros]
theorem zeros_split (n k : Nat) (h : k ≤ n) : zeros n = zeros k ++ zeros (n - k) := by
  unfold zeros
  rw [List.replicate_append_replicate]
  congr 1
  omega
/-- The first k bytes of ys, and then those of xs. -/
def partOf (xs ys : List UInt8) (k : Nat) : List UInt8 := ys.take k ++ xs.drop k
theorem partOf_len (xs ys : List UInt8) (k : Nat) (hx : xs.length = 256) (hy : ys.length = 256) (hk : k ≤ 256) : (partOf xs ys k).length = 256 := by
  simp only [partOf, List.length_append, List.length_take, List.length_drop]; omega
theorem part_splices (xs ys : List UInt8) (k : Nat) (hx : xs.length = 256) (hy : ys.length = 256) (hk : k ≤ 256) : splice (splice (zeros 256) 0 xs) 0 (ys.take k) = partOf xs ys k := by
  have e1 : splice (zeros 256) 0 xs = xs := by
    have := splice_at [] (zeros 256) 0 rfl xs
    rw [zeros_drop, hx] at this
    rw [show zeros (256 - 256) = [] from rfl, List.append_nil] at this
    exact this
  rw [e1]
  have := splice_at [] xs 0 rfl (ys.take k)
  rw [List.length_take, hy, Nat.min_eq_left hk] at this
  simpa [partOf] using this

set_option maxRecDepth 100000 in
set_option maxHeartbeats 1600000 in
theorem part_ok (w : World) (A B : Option Addr) (c d : Nat) (xs ys : List UInt8) (hx : Sl w A 256 c xs) (hy : Sl w B 256 d ys) (k : Nat) (hk : k ≤ 256) :
    Calls Try.prog 37 #[.slice A 256 c, .slice B 256 d, .int .i64 k] w fun e w' => ∃ g, e = .returned (.tuple #[.slice (some ⟨g, 0, none⟩) 256 256, .int .i64 0]) ∧ Sec w w' g (partOf xs ys k) := by
  have hz41 := zero41
  have hk' : ¬ (256 : Int) < k := by omega
  have hk0 : (0 : Int) ≤ k := by omega
  have hk1 : (k : Int) ≤ 256 := by omega
  have HxA := Lib.hid (hx.lt (by omega))
  have HxB := Lib.hid (hy.lt (by omega))
  obtain ⟨bA, oA, rfl, hbA⟩ := HxA.out
  obtain ⟨bB, oB, rfl, hbB⟩ := HxB.out
  have Hxl := Lib.hid hx.len
  have Hyl := Lib.hid hy.len
  have Hk := Lib.hid hk
  clear HxA HxB hk
  go_enter Try.func37, Try.ntmps37
  have h2x : Hid (Sl (w.alloc (.cells (zrow 256) 88)) (some ⟨bA, oA, none⟩) 256 c xs) := hx.alloc _
  have h2y : Hid (Sl (w.alloc (.cells (zrow 256) 88)) (some ⟨bB, oB, none⟩) 256 d ys) := hy.alloc _
  have hM2 : Hid (Mod (fun _ => False) w (w.alloc (.cells (zrow 256) 88))) := (Mod.refl _ w).alloc _
  obtain ⟨Z, hZ⟩ : ∃ Z, Z = zeros 256 := ⟨_, rfl⟩
  have HZ := Lib.hid hZ
  have HZl : Hid (Z.length = 256) := by show _ = _; rw [hZ, zeros_len]
  have Hg2 : Hid ((w.alloc (.cells (zrow 256) 88)).heap[w.heap.size]? = some (.cells (Z.map bv).toArray 88 (0, 0))) := by show _ = _; rw [hZ]; exact heap_alloc_new w _
  clear hZ hx hy
  obtain ⟨CX, hCX⟩ : ∃ CX, CX = xs.map bv := ⟨_, rfl⟩
  have HCX := Lib.hid hCX
  have HCXl : Hid (CX.length = 256) := by show _ = _; rw [hCX, List.length_map, Hxl.out]
  have HXone : Hid (∀ v ∈ CX, v.oneCell' = true) := by show ∀ v ∈ CX, v.oneCell' = true; rw [hCX]; exact bv_one xs
  have Hn2 : Hid (CX.length = Nat.min 256 256) := by show _ = _; rw [HCXl.out]; rfl
  have Hf2 : Hid (0 + CX.length ≤ (Z.map bv).length) := by show _ ≤ _; rw [HCXl.out, List.length_map, HZl.out]; omega
  have Hp2 : Hid (0 < CX.length → ∃ ad, some (⟨bA, oA, none⟩ : Addr) = some ad ∧ ∀ j v, CX[j]? = some v → (w.alloc (.cells (zrow 256) 88)).cell? (ad.add j) = some v) := by
    intro hp
    obtain ⟨ad, e, hc⟩ := h2x.out.src.2.2 (by omega)
    exact ⟨ad, e, fun j v hv => hc j v (by rw [← hCX]; exact hv)⟩
  clear hCX
  have hd : decide ((k : Int) < 0) = false := by simp
  go_wp2_with (with_reducible refine wpList_copyAt (.tmp 25) (.tmp 26) byteElem rfl rfl rfl rfl Hg2.out Hn2.out Hp2.out Hf2.out HXone.out ?_)
  intro w3 hg3 hm3 hs3
  have h3y : Sl w3 (some ⟨bB, oB, none⟩) 256 d ys := h2y.out.mod hm3 (fun k e _ e2 => by simp [blkOf] at e; omega)
  have hM3 : Mod (fun _ => False) w w3 := hM2.out.trans hm3 (fun i hi e => by omega)
  obtain ⟨Z1, hZ1⟩ : ∃ Z1, Z1 = splice Z 0 xs := ⟨_, rfl⟩
  have HZ1l : Hid (Z1.length = 256) := by show _ = _; rw [hZ1, length_splice _ _ _ (by rw [Hxl.out, HZl.out]; omega), HZl.out]
  have hg3' : w3.heap[w.heap.size]? = some (.cells (Z1.map bv).toArray 88 (0, 0)) := by rw [hg3, HCX.out, splice_map, hZ1]
  have HZ1 := Lib.hid hZ1
  have Hg3 := Lib.hid hg3'
  clear hZ1 hg3 hg3' hs3 h2y h2x hM2 hm3 Hg2 Hp2 Hf2 Hn2
  obtain ⟨CY, hCY⟩ : ∃ CY, CY = (ys.take k).map bv := ⟨_, rfl⟩
  have HCY := Lib.hid hCY
  have HCYl : Hid (CY.length = k) := by show _ = _; rw [hCY, List.length_map, List.length_take, Hyl.out]; have := Hk.out; omega
  have HYone : Hid (∀ v ∈ CY, v.oneCell' = true) := by show ∀ v ∈ CY, v.oneCell' = true; rw [hCY]; exact bv_one _
  have Hn3 : Hid (CY.length = Nat.min 256 k) := by
    show _ = min 256 k
    have := Hk.out
    rw [HCYl.out]; omega
  have Hf3 : Hid (0 + CY.length ≤ (Z1.map bv).length) := by show _ ≤ _; have := Hk.out; rw [HCYl.out, List.length_map, HZ1l.out]; omega
  have Hp3 : Hid (0 < CY.length → ∃ ad, some (⟨bB, oB, none⟩ : Addr) = some ad ∧ ∀ j v, CY[j]? = some v → w3.cell? (ad.add j) = some v) := by
    intro hp
    rw [hCY] at hp
    obtain ⟨ad, e, hc⟩ := h3y.srcTake k Hk.out hp
    exact ⟨ad, e, fun j v hv => hc j v (by rw [← hCY]; exact hv)⟩
  clear hCY
  go_wp2_with (with_reducible refine wpList_copyAt (.tmp 29) (.tmp 30) byteElem rfl rfl rfl rfl Hg3.out Hn3.out Hp3.out Hf3.out HYone.out ?_)
  intro w4 hg4 hm4 hs4
  have hM4 : Mod (fun _ => False) w w4 := hM3.trans hm4 (fun i hi e => by omega)
  have hg4' : w4.heap[w.heap.size]? = some (.cells ((partOf xs ys k).map bv).toArray 88 (0, 0)) := by
    rw [hg4, HCY.out, splice_map, HZ1.out, HZ.out, part_splices xs ys k Hxl.out Hyl.out Hk.out]
  have Hg4 := Lib.hid hg4'
  clear hg4 hg4' hm4 hs4 Hp3 Hf3 Hn3 Hg3
  go_wp2
  go_ret2
  exact ⟨_, rfl, Nat.le_refl _, Hg4.out, hM4⟩

theorem partOf_at (xs ys : List UInt8) (k j : Nat) (hy : ys.length = 256) (hj : j < 256) : (partOf xs ys k).getD j 0 = if j < k then ys.getD j 0 else xs.getD j 0 := by
  unfold partOf
  by_cases h : j < k
  · rw [if_pos h, List.getD_eq_getElem?_getD, List.getElem?_append_left (by rw [List.length_take]; omega), List.getElem?_take, if_pos h, List.getD_eq_getElem?_getD]
  · rw [if_neg h, List.getD_eq_getElem?_getD]
    by_cases hk : k ≤ 256
    · rw [List.getElem?_append_right (by rw [List.length_take]; omega), List.length_take, Nat.min_eq_left (by omega), List.getElem?_drop, show k + (j - k) = j by omega, List.getD_eq_getElem?_getD]
    · omega

theorem take_getD (l : List UInt8) (j : Nat) (h : j < l.length) : l.take (j + 1) = l.take j ++ [l.getD j 0] := by
  rw [List.take_succ_eq_append_getElem h]
  simp [h]

set_option maxRecDepth 100000 in
set_option maxHeartbeats 1600000 in
theorem refPart_ok (w : World) (A B : Option Addr) (c d : Nat) (xs ys : List UInt8) (hx : Sl w A 256 c xs) (hy : Sl w B 256 d ys) (k : Nat) (hk : k ≤ 256) :
    Calls Try.prog 38 #[.slice A 256 c, .slice B 256 d, .int .i64 k] w fun e w' => ∃ A' c', e = .returned (.tuple #[.slice A' 256 c', .int .i64 0]) ∧ FreshR w w' A' 256 c' (partOf xs ys k) := by
  have hk' : ¬ (256 : Int) < k := by omega
  have hk0 : decide ((k : Int) < 0) = false := by simp
  obtain ⟨bA, oA, rfl, hbA⟩ := hx.lt (by omega)
  obtain ⟨bB, oB, rfl, hbB⟩ := hy.lt (by omega)
  have Hyl := Lib.hid hy.len
  have Hpl := Lib.hid (partOf_len xs ys k hx.len hy.len hk)
  obtain ⟨_, _, e1, hcx⟩ := hx.2.2 (by omega)
  injection e1 with e1; injection e1 with e1 e2; subst e1; subst e2
  obtain ⟨_, _, e1, hcy⟩ := hy.2.2 (by omega)
  injection e1 with e1; injection e1 with e1 e2; subst e1; subst e2
  have Hcx := Lib.hid hcx
  have Hcy := Lib.hid hcy
  clear hcx hcy hx hy
  obtain ⟨R, hR⟩ : ∃ R, R = partOf xs ys k := ⟨_, rfl⟩
  have HR := Lib.hid hR
  rw [← hR]
  rw [← hR] at Hpl
  clear hR
  go_enter Try.func38, Try.ntmps38
  go_wp2
  go_loopw [8, 9] (fun out i wr => ∃ (j : Nat) (A' : Option Addr) (c' : Nat), j ≤ 256 ∧ i = .int .i64 j ∧ out = .slice A' j c' ∧ OwV wr w.heap.size 5 A' j c' ((R.take j).map bv) ∧ Mod (fun _ => False) w wr) (fun _ i _ => 256 - (intOf i).toNat)
  case atStart => exact ⟨0, none, 0, by omega, rfl, rfl, OwV.nil _ _ _, Mod.refl _ _⟩
  case round =>
    obtain ⟨j, A', c', hj, rfl, rfl, hown, hmod⟩ := hrel
    by_cases hlt : j < 256
    · have hat := partOf_at xs ys k j Hyl.out hlt
      rw [← HR.out] at hat
      have htk := take_getD R j (by rw [Hpl.out]; exact hlt)
      have hml : j + 1 ≤ maxLen := by unfold maxLen; omega
      have hsz := hmod.size
      have fin : ∀ (z : UInt8) (w2 : World) (A2 : Option Addr) (c2 : Nat), z = R.getD j 0 → OwV w2 w.heap.size 5 A2 (j + 1) c2 ((R.take j).map bv ++ [bv z]) → OwV w2 w.heap.size 5 A2 (j + 1) c2 ((R.take (j + 1)).map bv) := by
        intro z w2 A2 c2 hz ho
        rw [htk, List.map_append, List.map_cons, List.map_nil, ← hz]
        exact ho
      have Hfin := Lib.hid fin
      clear fin htk
      by_cases hjk : j < k
      · rw [if_pos hjk] at hat
        have hcy : wr.cell? ⟨bB, oB + j, none⟩ = some (bv (ys.getD j 0)) := (World.cell?_of_block (hmod.block bB hbB id)).trans (Hcy.out j hlt)
        have Hat := Lib.hid hat
        generalize ys.getD j 0 = z at *
        clear hat
        have hjk' : (j : Int) < k := by omega
        have hlt' : (j : Int) < 256 := by omega
        have hown1 : OwV (wr.alloc (.cells #[bv z] 5)) w.heap.size 5 A' j c' ((R.take j).map bv) := hown.alloc _
        have hsrc1 := Src.one wr (bv z) 5 rfl
        have hbase : w.heap.size ≤ (wr.alloc (.cells #[bv z] 5)).heap.size := by simp; omega
        go_wp2_with (at_builtin; refine wpList_app (.tmp 33) (.tmp 38) byteElem rfl rfl rfl rfl hown1 hsrc1 (by omega) hml hbase ?_)
        intro A4 c4 w4 hown4 hg4 _
        have hm4 : Mod (fun _ => False) w w4 := (hmod.alloc (.cells #[bv z] 5)).grown hg4 (fun k e hk => by have := (hown.lt k e).1; omega)
        have H4 := Lib.hid (Hfin.out z w4 A4 c4 Hat.out.symm (by rw [List.map_take]; exact hown4))
        clear hown1 hsrc1 hown hg4 hown4 hcy
        go_wp2
        go_roundw
        case rel => exact ⟨j + 1, A4, c4, by omega, by go_num, rfl, H4.out, hm4⟩
        case measure => simp [intOf]; omega
      · rw [if_neg hjk] at hat
        have hcx : wr.cell? ⟨bA, oA + j, none⟩ = some (bv (xs.getD j 0)) := (World.cell?_of_block (hmod.block bA hbA id)).trans (Hcx.out j hlt)
        have Hat := Lib.hid hat
        generalize xs.getD j 0 = z at *
        clear hat
        have hjk' : ¬ (j : Int) < k := by omega
        have hlt' : (j : Int) < 256 := by omega
        have hown1 : OwV (wr.alloc (.cells #[bv z] 5)) w.heap.size 5 A' j c' ((R.take j).map bv) := hown.alloc _
        have hsrc1 := Src.one wr (bv z) 5 rfl
        have hbase : w.heap.size ≤ (wr.alloc (.cells #[bv z] 5)).heap.size := by simp; omega
        go_wp2_with (at_builtin; refine wpList_app (.tmp 40) (.tmp 45) byteElem rfl rfl rfl rfl hown1 hsrc1 (by omega) hml hbase ?_)
        intro A4 c4 w4 hown4 hg4 _
        have hm4 : Mod (fun _ => False) w w4 := (hmod.alloc (.cells #[bv z] 5)).grown hg4 (fun k e hk => by have := (hown.lt k e).1; omega)
        have H4 := Lib.hid (Hfin.out z w4 A4 c4 Hat.out.symm (by rw [List.map_take]; exact hown4))
        clear hown1 hsrc1 hown hg4 hown4 hcx
        go_wp2
        go_roundw
        case rel => exact ⟨j + 1, A4, c4, by omega, by go_num, rfl, H4.out, hm4⟩
        case measure => simp [intOf]; omega
    · obtain rfl : j = 256 := by omega
      rw [List.take_of_length_le (by rw [Hpl.out]; omega)] at hown
      have H5 := Lib.hid hown
      clear hown
      go_wp2
      go_ret2
      exact ⟨A', c', rfl, H5.out, hmod⟩

theorem part_zero (xs ys : List UInt8) : partOf xs ys 0 = xs := by simp [partOf]
theorem part_all (xs ys : List UInt8) (hx : xs.length = 256) (hy : ys.length = 256) : partOf xs ys 256 = ys := by
  unfold partOf
  rw [List.take_of_length_le (by omega), List.drop_of_length_le (by omega), List.append_nil]
end Go.Proofs.Ytfgngmoeedegiaa
