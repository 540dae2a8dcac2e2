/-
  The contract of frame.Seal.
-/
import Derived.Test.YtfejmaffgbbkeaaMarks
namespace Go.Proofs.Ytfejmaffgbbkeaa
open Go Go.RowKit

/-- A sector, as the document has it. -/
def secOf (n : Int) (xs : List UInt8) : List UInt8 := le 4 n.toNat ++ (xs ++ zeros (248 - xs.length)) ++ le 4 n.toNat
theorem secOf_len (n : Int) (xs : List UInt8) (h : xs.length ≤ 248) : (secOf n xs).length = 256 := by
  simp only [secOf, List.length_append, le_length, zeros_len]; omega

/-- A sector in memory of the call's own. -/
def Sec (w w' : World) (g : Nat) (ys : List UInt8) : Prop :=
  w.heap.size ≤ g ∧ w'.heap[g]? = some (.cells (ys.map bv).toArray 41 (0, 0)) ∧ Mod (fun _ => False) w w'
theorem Sec.sl {w w' : World} {g : Nat} {ys : List UInt8} (h : Sec w w' g ys) (hl : ys.length = 256) : Sl w' (some ⟨g, 0, none⟩) 256 256 ys := by
  have := Sl.lit ys h.2.1
  rw [hl] at this
  exact this

theorem zero41 : ∀ w, (zeroValue 41).run Try.prog w = .ok (.agg (zrow 256)) w := (zero_of_info (P := Try.prog) (n := 256) (by kernel_rfl)).1

theorem splice_at {α : Type} (L R : List α) (k : Nat) (hk : L.length = k) (cs : List α) : splice (L ++ R) k cs = L ++ (cs ++ R.drop cs.length) := by
  subst hk
  simp [splice, List.drop_append]
theorem zeros_drop (n k : Nat) : (zeros n).drop k = zeros (n - k) := by simp [zeros]
theorem zeros_split (n k : Nat) (h : k ≤ n) : zeros n = zeros k ++ zeros (n - k) := by
  unfold zeros
  rw [List.replicate_append_replicate]
  congr 1
  omega
theorem sec_splices (B xs : List UInt8) (hB : B.length = 4) (hx : xs.length ≤ 248) :
    splice (splice (splice (zeros 256) 0 B) 4 xs) 252 B = B ++ (xs ++ zeros (248 - xs.length)) ++ B := by
  have e1 : splice (zeros 256) 0 B = B ++ zeros 252 := by
    have := splice_at [] (zeros 256) 0 rfl B
    rw [zeros_drop, hB] at this
    simpa using this
  have e2 : splice (B ++ zeros 252) 4 xs = (B ++ (xs ++ zeros (248 - xs.length))) ++ zeros 4 := by
    rw [splice_at B (zeros 252) 4 hB, zeros_drop, zeros_split (252 - xs.length) (248 - xs.length) (by omega), show 252 - xs.length - (248 - xs.length) = 4 by omega]
    simp only [List.append_assoc]
  have hl : (B ++ (xs ++ zeros (248 - xs.length))).length = 252 := by simp only [List.length_append, zeros_len]; omega
  rw [e1, e2, splice_at _ _ 252 hl, zeros_drop, hB]
  simp [zeros]

set_option maxRecDepth 100000 in
theorem seal_arg (w : World) (n : Int) (A : Option Addr) (m c : Nat) (h : n < 0 ∨ 4294967295 < n) :
    Calls Try.prog 11 #[.int .i64 n, .slice A m c] w fun e w' => e = .returned (.tuple #[.slice none 0 0, .int .i64 1]) ∧ w = w' := by
  by_cases hn : n < 0
  · have hd : decide (n < 0) = true := by simpa using hn
    clear h hn
    go_enter Try.func11, Try.ntmps11
    go_wp2_with fail
    go_ret2
    exact ⟨rfl, rfl⟩
  · have hd : decide (n < 0) = false := by simpa using hn
    have h2 := h.resolve_left hn
    have hd2 : decide (4294967295 < n) = true := by simpa using h2
    clear h hn h2
    go_enter Try.func11, Try.ntmps11
    go_wp2_with fail
    go_ret2
    exact ⟨rfl, rfl⟩

set_option maxRecDepth 100000 in
theorem seal_long (w : World) (n : Int) (A : Option Addr) (m c : Nat) (h0 : 0 ≤ n) (h1 : n ≤ 4294967295) (hm : 248 < m) :
    Calls Try.prog 11 #[.int .i64 n, .slice A m c] w fun e w' => e = .returned (.tuple #[.slice none 0 0, .int .i64 2]) ∧ w = w' := by
  have hd : decide (n < 0) = false := by simpa using h0
  have hd2 : decide (4294967295 < n) = false := by simpa using h1
  have hm' : (248 : Int) < m := by omega
  go_enter Try.func11, Try.ntmps11
  go_wp2_with fail
  go_ret2
  exact ⟨rfl, rfl⟩

set_option maxRecDepth 100000 in
set_option maxHeartbeats 1600000 in
theorem seal_ok (w : World) (n : Int) (A : Option Addr) (m c : Nat) (xs : List UInt8) (h : Sl w A m c xs) (h0 : 0 ≤ n) (h1 : n ≤ 4294967295) (hm : m ≤ 248) :
    Calls Try.prog 11 #[.int .i64 n, .slice A m c] w fun e w' => ∃ g, e = .returned (.tuple #[.slice (some ⟨g, 0, none⟩) 256 256, .int .i64 0]) ∧ Sec w w' g (secOf n xs) := by
  have hd : decide (n < 0) = false := by simpa using h0
  have hd2 : decide (4294967295 < n) = false := by simpa using h1
  have hz41 := zero41
  have hm' : ¬ (248 : Int) < m := by omega
  have hAlt : ∀ k, blkOf A = some k → 0 < m → k < w.heap.size := fun k e hp => by
    obtain ⟨b, o, rfl, hb⟩ := h.lt hp
    simp [blkOf] at e; omega
  have HAlt := Lib.hid hAlt
  clear hAlt
  go_enter Try.func11, Try.ntmps11
  go_wp2_with fail
  refine (markOf_ok _ n h0 (by omega)).mono ?_
  rintro e w1 ⟨b0, b1, b2, b3, hle, rfl, hm1⟩
  have Hle := Lib.hid hle
  clear hle
  go_wp2_with fail
  obtain ⟨w2, hw2⟩ : ∃ w2, w2 = (w1.alloc (.cells #[.int .u8 (b0.toNat : Int), .int .u8 (b1.toNat : Int), .int .u8 (b2.toNat : Int), .int .u8 (b3.toNat : Int)] 38)).alloc (.cells (zrow 256) 41) := ⟨_, rfl⟩
  rw [← hw2]
  have hs1 := hm1.size
  have h2 : Sl w2 A m c xs := by rw [hw2]; exact ((h.mod hm1 (fun _ _ _ => id)).alloc _).alloc _
  have hM2 : Mod (fun _ => False) w w2 := by rw [hw2]; exact (hm1.alloc _).alloc _
  have hs2 : w2.heap.size = w1.heap.size + 2 := by rw [hw2]; simp
  have hk2 : w2.heap[w1.heap.size]? = some (.cells ([b0, b1, b2, b3].map bv).toArray 38 (0, 0)) := by
    rw [hw2, Below.heap_alloc _ _ _ (by simp)]
    exact heap_alloc_new w1 _
  have hg2 : w2.drew.heap[w1.heap.size + 1]? = some (.cells ((zeros 256).map bv).toArray 41 (0, 0)) := by
    show w2.heap[w1.heap.size + 1]? = _
    rw [hw2]
    have := heap_alloc_new (w1.alloc (.cells #[.int .u8 (b0.toNat : Int), .int .u8 (b1.toNat : Int), .int .u8 (b2.toNat : Int), .int .u8 (b3.toNat : Int)] 38)) (.cells (zrow 256) 41)
    simpa [zrow] using this
  clear hw2 hm1 h
  have HB : Hid ([b0, b1, b2, b3].length = 4) := rfl
  generalize hB : [b0, b1, b2, b3] = B at *
  have HBe := Lib.hid hB
  clear hB
  obtain ⟨Z, hZ⟩ : ∃ Z, Z = zeros 256 := ⟨_, rfl⟩
  rw [← hZ] at hg2
  have HZ := Lib.hid hZ
  have HZl : Hid (Z.length = 256) := by show _ = _; rw [hZ, zeros_len]
  clear hZ
  obtain ⟨CB, hCB⟩ : ∃ CB, CB = B.map bv := ⟨_, rfl⟩
  have HCB := Lib.hid hCB
  have HCl : Hid (CB.length = 4) := by show _ = _; rw [hCB, List.length_map, HB.out]
  clear hCB
  have Hk2 := Lib.hid hk2
  have Hg2 := Lib.hid hg2
  have Hs2 := Lib.hid hs2
  clear hk2 hg2 hs2
  have HCone : Hid (∀ v ∈ CB, v.oneCell' = true) := by show ∀ v ∈ CB, v.oneCell' = true; rw [HCB.out]; exact bv_one B
  have Hsrc : ∀ w' : World, w'.heap[w1.heap.size]? = some (.cells (B.map bv).toArray 38 (0, 0)) → ∃ ad, some (⟨w1.heap.size, 0, none⟩ : Addr) = some ad ∧ ∀ j v, CB[j]? = some v → w'.cell? (ad.add j) = some v := by
    intro w' hk
    have hs := (Sl.lit B hk).src
    refine ⟨_, rfl, fun j v hv => ?_⟩
    rw [HCB.out] at hv
    obtain ⟨ad, e, hc⟩ := hs.2.2 (by rw [HB.out]; omega)
    injection e with e
    subst e
    exact hc j v hv
  -- the first stamp
  have Hn1 : Hid (CB.length = Nat.min 4 256) := by show _ = _; rw [HCl.out]; rfl
  have Hf1 : Hid (0 + CB.length ≤ (Z.map bv).length) := by show _ ≤ _; rw [HCl.out, List.length_map, HZl.out]; omega
  have Hp1 : Hid (0 < CB.length → some (⟨w1.heap.size + 1, 0, none⟩ : Addr) = some ⟨w1.heap.size + 1, 0, none⟩ ∧ ∃ ad, some (⟨w1.heap.size, 0, none⟩ : Addr) = some ad ∧ ∀ j v, CB[j]? = some v → w2.drew.cell? (ad.add j) = some v) :=
    fun _ => ⟨rfl, Hsrc w2.drew Hk2.out⟩
  go_region_law ((rw [if_pos (by simp [Region.wanted])]); refine wp_copyTo (dp := some ⟨w1.heap.size + 1, 0, none⟩) (dLen := 256) (dCap := 256) (sp := some ⟨w1.heap.size, 0, none⟩) (sLen := 4) (sCap := 4) (off := 0) (.tmp 19) (.tmp 20) byteElem rfl (by go_simp) (by go_simp) Hg2.out Hn1.out Hp1.out Hf1.out HCone.out ?_; intro w3 hg3 hm3 hs3)
  all_goals
    have h3 : Sl w3 A m c xs := (Sl.drew h2).mod hm3 (fun k e hp e2 => by have := HAlt.out k e hp; omega)
    have hM3 : Mod (fun _ => False) w w3 := hM2.drew.trans hm3 (fun i hi e => by omega)
    have hk3 : w3.heap[w1.heap.size]? = some (.cells (B.map bv).toArray 38 (0, 0)) := (hm3.block _ (by show _ < w2.heap.size; rw [Hs2.out]; omega) (by omega)).trans Hk2.out
    obtain ⟨Z1, hZ1⟩ : ∃ Z1, Z1 = splice Z 0 B := ⟨_, rfl⟩
    have HZ1l : Hid (Z1.length = 256) := by show _ = _; rw [hZ1, length_splice _ _ _ (by rw [HB.out, HZl.out]; omega), HZl.out]
    have hg3' : w3.heap[w1.heap.size + 1]? = some (.cells (Z1.map bv).toArray 41 (0, 0)) := by rw [hg3, HCB.out, splice_map, hZ1]
    have hs3' : w3.heap.size = w1.heap.size + 2 := hs3.trans Hs2.out
    have HZ1 := Lib.hid hZ1
    have Hk3 := Lib.hid hk3
    have Hg3 := Lib.hid hg3'
    have Hs3 := Lib.hid hs3'
    clear hZ1 hk3 hg3 hg3' hs3 hs3' h2 hM2 hm3 Hg2 Hk2 Hs2 Hp1 Hf1 Hn1
    -- the bytes
    have Hm := Lib.hid hm
    have Hxl := Lib.hid h3.len
    obtain ⟨CX, hCX⟩ : ∃ CX, CX = xs.map bv := ⟨_, rfl⟩
    have HCX := Lib.hid hCX
    have HCXl : Hid (CX.length = m) := by show _ = _; rw [hCX, List.length_map, Hxl.out]
    have HXone : Hid (∀ v ∈ CX, v.oneCell' = true) := by show ∀ v ∈ CX, v.oneCell' = true; rw [hCX]; exact bv_one xs
    have Hn2 : Hid (CX.length = Nat.min m 252) := by
      show _ = min m 252
      rw [HCXl.out]; omega
    have Hf2 : Hid (4 + CX.length ≤ (Z1.map bv).length) := by show _ ≤ _; rw [HCXl.out, List.length_map, HZ1l.out]; omega
    have Hp2 : Hid (0 < CX.length → ∃ ad, A = some ad ∧ ∀ j v, CX[j]? = some v → w3.cell? (ad.add j) = some v) := by
      intro hp
      rw [HCXl.out] at hp
      obtain ⟨ad, e, hc⟩ := h3.src.2.2 hp
      exact ⟨ad, e, fun j v hv => hc j v (by rw [← hCX]; exact hv)⟩
    clear hCX hm
    have hg3 := Hg3.out
    have hn2 := Hn2.out
    have hp2 := Hp2.out
    have hf2 := Hf2.out
    have hxone := HXone.out
    go_wp2_with (with_reducible refine wpList_copyAt (.tmp 22) (.tmp 23) byteElem rfl rfl rfl rfl hg3 hn2 hp2 hf2 hxone ?_)
    intro w4 hg4 hm4 hs4
    have hM4 : Mod (fun _ => False) w w4 := hM3.trans hm4 (fun i hi e => by omega)
    have hk4 : w4.heap[w1.heap.size]? = some (.cells (B.map bv).toArray 38 (0, 0)) := (hm4.block _ (by rw [Hs3.out]; omega) (by omega)).trans Hk3.out
    obtain ⟨Z2, hZ2⟩ : ∃ Z2, Z2 = splice Z1 4 xs := ⟨_, rfl⟩
    have HZ2l : Hid (Z2.length = 256) := by show _ = _; rw [hZ2, length_splice _ _ _ (by rw [Hxl.out, HZ1l.out]; have := Hm.out; omega), HZ1l.out]
    have hg4' : w4.drew.heap[w1.heap.size + 1]? = some (.cells (Z2.map bv).toArray 41 (0, 0)) := by
      show w4.heap[w1.heap.size + 1]? = _
      rw [hg4, HCX.out, splice_map, hZ2]
    have HZ2 := Lib.hid hZ2
    have Hk4 := Lib.hid hk4
    have Hg4 := Lib.hid hg4'
    clear hZ2 hk4 hg4 hg4' hs4 hM3 hm4 h3 hg3 hn2 hp2 hf2 hxone Hg3 Hk3 Hp2 Hf2 Hn2
    go_wp2_with fail
    -- the last stamp
    have Hn3 : Hid (CB.length = Nat.min 4 4) := by show _ = _; rw [HCl.out]; rfl
    have Hf3 : Hid (252 + CB.length ≤ (Z2.map bv).length) := by show _ ≤ _; rw [HCl.out, List.length_map, HZ2l.out]; omega
    have Hp3 : Hid (0 < CB.length → some (⟨w1.heap.size + 1, 252, none⟩ : Addr) = some ⟨w1.heap.size + 1, 252, none⟩ ∧ ∃ ad, some (⟨w1.heap.size, 0, none⟩ : Addr) = some ad ∧ ∀ j v, CB[j]? = some v → w4.drew.cell? (ad.add j) = some v) :=
      fun _ => ⟨rfl, Hsrc w4.drew Hk4.out⟩
    go_region_law ((rw [if_pos (by simp [Region.wanted])]); refine wp_copyTo (dp := some ⟨w1.heap.size + 1, 252, none⟩) (dLen := 4) (dCap := 4) (sp := some ⟨w1.heap.size, 0, none⟩) (sLen := 4) (sCap := 4) (off := 252) (.tmp 25) (.tmp 26) byteElem rfl (by go_simp) (by go_simp) Hg4.out Hn3.out Hp3.out Hf3.out HCone.out ?_; intro w5 hg5 hm5 hs5)
    all_goals
      have hM5 : Mod (fun _ => False) w w5 := hM4.drew.trans hm5 (fun i hi e => by omega)
      have hg5' : w5.heap[w1.heap.size + 1]? = some (.cells ((secOf n xs).map bv).toArray 41 (0, 0)) := by
        have hx : xs.length ≤ 248 := by rw [Hxl.out]; exact Hm.out
        rw [hg5, HCB.out, splice_map, HZ2.out, HZ1.out, HZ.out, sec_splices B xs HB.out hx, secOf, Hle.out]
      have Hg5 := Lib.hid hg5'
      clear hg5 hg5' hm5 hs5 Hp3 Hf3 Hn3 Hg4 Hsrc
      go_wp2
      go_ret2
      exact ⟨_, rfl, by omega, Hg5.out, hM5⟩
end Go.Proofs.Ytfejmaffgbbkeaa
