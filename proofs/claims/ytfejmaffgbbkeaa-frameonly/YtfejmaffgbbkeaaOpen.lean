/-
  The contract of frame.Open.
-/
import Derived.Test.YtfejmaffgbbkeaaPart
import Derived.Test.YtfejmaffgbbkeaaEqMark
namespace Go.Proofs.Ytfejmaffgbbkeaa
open Go Go.RowKit

theorem zero44 : ∀ w, (zeroValue 44).run Try.prog w = .ok (.agg (zrow 248)) w := (zero_of_info (P := Try.prog) (n := 248) (by kernel_rfl)).1

set_option maxRecDepth 100000 in
theorem open_arg (w : World) (A : Option Addr) (n c : Nat) (h : ¬ n = 256) :
    Calls Try.prog 14 #[.slice A n c] w fun e w' => e = .returned (.tuple #[.slice none 0 0, .int .i64 0, .int .i64 1]) ∧ w = w' := by
  have hne : ((n : Int) != 256) = true := by rw [bne_iff_ne]; omega
  clear h
  go_enter Try.func14, Try.ntmps14
  go_wp2_with fail
  go_ret3
  exact ⟨rfl, rfl⟩

/-- The four cells of a stamp's array. -/
def Four (w : World) (g : Nat) (x0 x1 x2 x3 : UInt8) : Prop :=
  w.cell? ⟨g, 0, none⟩ = some (bv x0) ∧ w.cell? ⟨g, 1, none⟩ = some (bv x1) ∧ w.cell? ⟨g, 2, none⟩ = some (bv x2) ∧ w.cell? ⟨g, 3, none⟩ = some (bv x3)
theorem Four.of_block {w : World} {g : Nat} {x0 x1 x2 x3 : UInt8} {t : TypeId} {fr : Nat × Nat} (h : w.heap[g]? = some (.cells #[bv x0, bv x1, bv x2, bv x3] t fr)) : Four w g x0 x1 x2 x3 := by
  refine ⟨?_, ?_, ?_, ?_⟩ <;> (rw [cell_of_row _ _ _ _ _ _ h]; rfl)
theorem Four.mod {F : Nat → Prop} {w w' : World} {g : Nat} {x0 x1 x2 x3 : UInt8} (h : Four w g x0 x1 x2 x3) (hm : Mod F w w') (hF : ¬ F g) : Four w' g x0 x1 x2 x3 := by
  have hb := hm.block g (World.block_lt_of_cell? w _ h.1) hF
  exact ⟨(World.cell?_of_block hb).trans h.1, (World.cell?_of_block hb).trans h.2.1, (World.cell?_of_block hb).trans h.2.2.1, (World.cell?_of_block hb).trans h.2.2.2⟩

theorem drop252 {xs : List UInt8} (h : xs.length = 256) : (xs.drop 252).take 4 = xs.drop 252 := List.take_of_length_le (by simp [h])

theorem marks_eq {xs : List UInt8} {x0 x1 x2 x3 y0 y1 y2 y3 : UInt8} (hx : (xs.drop 0).take 4 = [x0, x1, x2, x3]) (hy : (xs.drop 252).take 4 = [y0, y1, y2, y3]) (hl : xs.length = 256) (h : xs.take 4 = xs.drop 252) :
    x0 = y0 ∧ x1 = y1 ∧ x2 = y2 ∧ x3 = y3 := by
  rw [List.drop_zero] at hx
  rw [drop252 hl, ← h, hx] at hy
  simpa using hy

set_option maxRecDepth 100000 in
set_option maxHeartbeats 1600000 in
theorem open_torn (w : World) (A : Option Addr) (c : Nat) (xs : List UInt8) (h : Sl w A 256 c xs) (hne : xs.take 4 ≠ xs.drop 252) :
    Calls Try.prog 14 #[.slice A 256 c] w fun e w' => e = .returned (.tuple #[.slice none 0 0, .int .i64 0, .int .i64 20]) ∧ Mod (fun _ => False) w w' := by
  have Hne := Lib.hid hne
  have Hxl := Lib.hid h.len
  clear hne
  go_enter Try.func14, Try.ntmps14
  go_wp2_with fail
  refine (markAt_ok _ _ _ _ _ h 0 (by omega) (by omega)).mono ?_
  rintro e w1 ⟨x0, x1, x2, x3, hx, rfl, hm1⟩
  have Hx := Lib.hid hx
  have h1 := h.mod hm1 (fun _ _ _ => id)
  clear hx h
  go_wp2_with fail
  have f2 : Four (w1.alloc (.cells #[bv x0, bv x1, bv x2, bv x3] 38)) w1.heap.size x0 x1 x2 x3 := Four.of_block (heap_alloc_new w1 _)
  have h2 := h1.alloc (.cells #[bv x0, bv x1, bv x2, bv x3] 38)
  have hm2 := hm1.alloc (.cells #[bv x0, bv x1, bv x2, bv x3] 38)
  generalize hg : w1.heap.size = g at *
  generalize hw2 : w1.alloc (.cells #[bv x0, bv x1, bv x2, bv x3] 38) = w2 at *
  have Hg := Lib.hid hg
  clear hg hw2 h1 hm1
  have F2 := Lib.hid f2
  obtain ⟨c0, c1, c2, c3⟩ := f2
  have F2d : Hid (Four w2.drew g x0 x1 x2 x3) := F2.out
  have Hcall := Lib.hid (markAt_ok w2.drew A 256 c xs h2 252 (by omega) (by omega))
  go_region_with (go_at_call 20; refine Hcall.out.mono ?_; rintro e w3 ⟨y0, y1, y2, y3, hy, rfl, hm3⟩; have Hy := Lib.hid hy; clear hy; obtain ⟨d0, d1, d2, d3⟩ := Four.mod F2d.out hm3 id; have he := eq_no (x0 := x0) (x1 := x1) (x2 := x2) (x3 := x3) (y0 := y0) (y1 := y1) (y2 := y2) (y3 := y3) (fun e => Hne.out (by rw [← drop252 Hxl.out, Hy.out, ← e, ← Hx.out]; rfl)))
  all_goals
    have hM3 : Mod (fun _ => False) w w3 := hm2.drew.trans hm3 (fun _ _ h => h)
    clear Hcall he
    go_wp2
    go_ret3
    exact ⟨rfl, hM3⟩

/-- What lies between a sector's stamps, in memory of the call's own. -/
def Room (w w' : World) (g : Nat) (ys : List UInt8) : Prop :=
  w.heap.size ≤ g ∧ w'.heap[g]? = some (.cells (ys.map bv).toArray 44 (0, 0)) ∧ Mod (fun _ => False) w w'
theorem Room.sl {w w' : World} {g : Nat} {ys : List UInt8} (h : Room w w' g ys) (hl : ys.length = 248) : Sl w' (some ⟨g, 0, none⟩) 248 248 ys := by
  have := Sl.lit ys h.2.1
  rw [hl] at this
  exact this

set_option maxRecDepth 100000 in
set_option maxHeartbeats 1600000 in
theorem open_ok (w : World) (A : Option Addr) (c : Nat) (xs : List UInt8) (h : Sl w A 256 c xs) (hne : xs.take 4 = xs.drop 252) :
    Calls Try.prog 14 #[.slice A 256 c] w fun e w' => ∃ g, e = .returned (.tuple #[.slice (some ⟨g, 0, none⟩) 248 248, .int .i64 (unle (xs.take 4) : Int), .int .i64 0]) ∧ Room w w' g ((xs.drop 4).take 248) := by
  obtain ⟨b, o, rfl, hb⟩ := h.lt (by omega)
  have hz44 := zero44
  have hcap := h.cap
  have hc4 : ¬ c = 4 := by omega
  have hcap' : (256 : Int) ≤ c := by omega
  have Hne := Lib.hid hne
  have Hxl := Lib.hid h.len
  clear hne
  go_enter Try.func14, Try.ntmps14
  go_wp2_with fail
  refine (markAt_ok _ _ _ _ _ h 0 (by omega) (by omega)).mono ?_
  rintro e w1 ⟨x0, x1, x2, x3, hx, rfl, hm1⟩
  have Hx := Lib.hid hx
  have h1 := h.mod hm1 (fun _ _ _ => id)
  clear hx h
  go_wp2_with fail
  have f2 : Four (w1.alloc (.cells #[bv x0, bv x1, bv x2, bv x3] 38)) w1.heap.size x0 x1 x2 x3 := Four.of_block (heap_alloc_new w1 _)
  have h2 := h1.alloc (.cells #[bv x0, bv x1, bv x2, bv x3] 38)
  have hm2 := hm1.alloc (.cells #[bv x0, bv x1, bv x2, bv x3] 38)
  generalize hg : w1.heap.size = g at *
  generalize hw2 : w1.alloc (.cells #[bv x0, bv x1, bv x2, bv x3] 38) = w2 at *
  have Hg := Lib.hid hg
  clear hg hw2 h1 hm1
  have F2 := Lib.hid f2
  obtain ⟨c0, c1, c2, c3⟩ := f2
  have F2d : Hid (Four w2.drew g x0 x1 x2 x3) := F2.out
  have Hcall := Lib.hid (markAt_ok w2.drew (some ⟨b, o, none⟩) 256 c xs h2 252 (by omega) (by omega))
  go_region_with (go_at_call 20; refine Hcall.out.mono ?_; rintro e w3 ⟨y0, y1, y2, y3, hy, rfl, hm3⟩; have Hy := Lib.hid hy; clear hy; obtain ⟨d0, d1, d2, d3⟩ := Four.mod F2d.out hm3 id; obtain ⟨rfl, rfl, rfl, rfl⟩ := marks_eq Hx.out Hy.out Hxl.out Hne.out; have he := eq_yes x0 x1 x2 x3)
  all_goals
    have hM3 : Mod (fun _ => False) w w3 := hm2.drew.trans hm3 (fun _ _ h => h)
    have h3 : Sl w3 (some ⟨b, o, none⟩) 256 c xs := h2.drew.mod hm3 (fun _ _ _ => id)
    have F3 : Hid (Four w3 g x0 x1 x2 x3) := Four.mod F2d.out hm3 id
    clear Hcall he c0 c1 c2 c3 d0 d1 d2 d3 F2 F2d hm3 h2 hm2
    go_wp2_with fail
    obtain ⟨w4, hw4⟩ : ∃ w4, w4 = w3.alloc (.cells (zrow 248) 44) := ⟨_, rfl⟩
    rw [← hw4]
    have hs3 := hM3.size
    have h4 : Sl w4 (some ⟨b, o, none⟩) 256 c xs := by rw [hw4]; exact h3.alloc _
    have hM4 : Mod (fun _ => False) w w4 := by rw [hw4]; exact hM3.alloc _
    have hgl : g < w3.heap.size := World.block_lt_of_cell? w3 _ F3.out.1
    have F4 : Hid (Four w4 g x0 x1 x2 x3) := by
      show Four w4 g x0 x1 x2 x3
      rw [hw4]; exact F3.out.mod ((Mod.refl (fun _ => False) w3).alloc _) id
    obtain ⟨Z, hZ⟩ : ∃ Z, Z = zeros 248 := ⟨_, rfl⟩
    have HZ := Lib.hid hZ
    have HZl : Hid (Z.length = 248) := by show _ = _; rw [hZ, zeros_len]
    have Hg4 : Hid (w4.drew.heap[w3.heap.size]? = some (.cells (Z.map bv).toArray 44 (0, 0))) := by
      show w4.heap[w3.heap.size]? = _
      rw [hw4, hZ]; exact heap_alloc_new w3 _
    have hsrc := (Sl.drew h4).srcAt 4 248 (by omega)
    have Hxl4 : Hid (((xs.drop 4).take 248).length = 248) := by show _ = _; rw [List.length_take, List.length_drop, Hxl.out]; rfl
    obtain ⟨R, hR⟩ : ∃ R, R = (xs.drop 4).take 248 := ⟨_, rfl⟩
    rw [← hR] at hsrc
    have HRl : Hid (R.length = 248) := by show _ = _; rw [hR]; exact Hxl4.out
    have HR := Lib.hid hR
    obtain ⟨CR, hCR⟩ : ∃ CR, CR = R.map bv := ⟨_, rfl⟩
    rw [← hCR] at hsrc
    have HCR := Lib.hid hCR
    have HCl : Hid (CR.length = 248) := by show _ = _; rw [hCR, List.length_map, HRl.out]
    have HCone : Hid (∀ v ∈ CR, v.oneCell' = true) := by show ∀ v ∈ CR, v.oneCell' = true; rw [hCR]; exact bv_one R
    have Hn1 : Hid (CR.length = Nat.min 252 248) := by show _ = _; rw [HCl.out]; rfl
    have Hf1 : Hid (0 + CR.length ≤ (Z.map bv).length) := by show _ ≤ _; rw [HCl.out, List.length_map, HZl.out]; omega
    have Hp1 : Hid (0 < CR.length → some (⟨w3.heap.size, 0, none⟩ : Addr) = some ⟨w3.heap.size, 0, none⟩ ∧ ∃ ad, some (⟨b, o + 4, none⟩ : Addr) = some ad ∧ ∀ j v, CR[j]? = some v → w4.drew.cell? (ad.add j) = some v) :=
      fun _ => ⟨rfl, _, rfl, hsrc⟩
    clear hZ hR hCR hsrc hw4 h3 hM3
    go_region_law ((rw [if_pos (by simp [Region.wanted])]); refine wp_copyTo (dp := some ⟨w3.heap.size, 0, none⟩) (dLen := 248) (dCap := 248) (sp := some ⟨b, o + 4, none⟩) (sLen := 252) (sCap := c - 4) (off := 0) (.tmp 16) (.tmp 18) byteElem rfl (by go_simp) (by go_simp) Hg4.out Hn1.out Hp1.out Hf1.out HCone.out ?_; intro w5 hg5 hm5 hs5)
    all_goals
      have hM5 : Mod (fun _ => False) w w5 := hM4.drew.trans hm5 (fun i hi e => by omega)
      have F5 : Hid (Four w5 g x0 x1 x2 x3) := by
        have F4d : Four w4.drew g x0 x1 x2 x3 := F4.out
        exact F4d.mod hm5 (by omega)
      have Hg5 : Hid (w5.heap[w3.heap.size]? = some (.cells (R.map bv).toArray 44 (0, 0))) := by
        show _ = _
        have e1 : splice Z 0 R = R := by
          rw [HZ.out]
          have := splice_at [] (zeros 248) 0 rfl R
          rw [zeros_drop, HRl.out, show zeros (248 - 248) = [] from rfl, List.append_nil] at this
          exact this
        rw [hg5, HCR.out, splice_map, e1]
      clear hg5 hm5 hs5 Hp1 Hf1 Hn1 Hg4 F4 h4 hM4
      go_wp2_with fail
      obtain ⟨c0, c1, c2, c3⟩ := F5.out
      have Hst := Lib.hid (stamp_ok w5.drew x0 x1 x2 x3)
      have F5d : Hid (Four w5.drew g x0 x1 x2 x3) := F5.out
      go_region_with (go_at_call 21; refine Hst.out.mono ?_; rintro e w6 ⟨rfl, hm6⟩)
      all_goals
        have hM6 : Mod (fun _ => False) w w6 := hM5.drew.trans hm6 (fun _ _ h => h)
        have hl5 : w3.heap.size < w5.heap.size := (Array.getElem?_eq_some_iff.1 Hg5.out).1
        have Hg6 : Hid (w6.heap[w3.heap.size]? = some (.cells (R.map bv).toArray 44 (0, 0))) := (hm6.block _ hl5 id).trans Hg5.out
        clear Hst F5 F5d c0 c1 c2 c3 hm6 hM5 Hg5
        go_wp2
        go_ret3
        have ex : xs.take 4 = [x0, x1, x2, x3] := Hx.out
        rw [ex, ← HR.out]
        exact ⟨w3.heap.size, rfl, hs3, Hg6.out, hM6⟩
end Go.Proofs.Ytfejmaffgbbkeaa
