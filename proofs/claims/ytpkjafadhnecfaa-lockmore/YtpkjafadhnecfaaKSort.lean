/-
  Sorted rows of the call's own: what slices.Sort, slices.Compact and slices.SortFunc leave, in our words.
-/
import Derived.Test.YtpkjafadhnecfaaKCmp
import Derived.Test.YtpkjafadhnecfaaKBit
namespace Go.Proofs.Ytpkjafadhnecfaa
open Go Go.RowKit Go.Sort

section
variable {α : Type} [Inhabited α]
/-- A row that was put anew into a block known whole. -/
theorem put_heap {enc : α → Value} {w : World} {g off m : Nat} {d : Array α} {os : Array Obj} {cur : Array Value} {e : TypeId} {fr : Nat × Nat} (h : w.heap[g]? = some (.cells cur e fr)) :
    (grow (putRow enc (Sort.ahead w m) g off d) os).heap[g]? = some (.cells (putCells enc off d cur) e fr) := by
  have hg : g < w.heap.size := (Array.getElem?_eq_some_iff.1 h).1
  rw [heap_grow_old _ _ (by rw [size_putRow]; exact hg)]
  unfold putRow mapBlock
  simp [Array.getElem?_modify, Sort.ahead, h, onCells]
theorem put_mod (enc : α → Value) (w : World) (g off m : Nat) (d : Array α) (os : Array Obj) : Mod (fun k => k = g) w (grow (putRow enc (Sort.ahead w m) g off d) os) := by
  refine ⟨rfl, rfl, rfl, ?_, fun k hk hn => ?_⟩
  · rw [size_grow, size_putRow]; exact Nat.le_add_right _ _
  · rw [heap_grow_old _ _ (by rw [size_putRow]; exact hk)]
    unfold putRow mapBlock
    have : g ≠ k := fun e => hn e.symm
    simp [Array.getElem?_modify, Sort.ahead, this]
theorem put_take (enc : α → Value) (d : Array α) (cur : List Value) (h : d.size ≤ cur.length) : ((putCells enc 0 d cur.toArray).toList).take d.size = d.toList.map enc := by
  apply List.ext_getElem?
  intro i
  rw [List.getElem?_take]
  by_cases hi : i < d.size
  · rw [if_pos hi]
    have hc : i < cur.length := by omega
    simp [putCells, hi, hc]
  · rw [if_neg hi]
    symm
    rw [List.getElem?_eq_none]
    simp; omega
theorem put_size (enc : α → Value) (off : Nat) (d : Array α) (c : Array Value) : (putCells enc off d c).size = c.size := by simp [putCells]
end

/-! ### Numbers -/
def iv (z : Int) : Value := .int .i64 z
def ivs (zs : List Int) : List Value := zs.map (Value.int .i64)
theorem ivs_len (zs : List Int) : (ivs zs).length = zs.length := by simp [ivs]
/-- A row of numbers of the call's own. -/
def OwI (w : World) (base : Nat) (A : Option Addr) (n c : Nat) (zs : List Int) : Prop := OwV w base 3 A n c (ivs zs)
theorem OwI.len {w : World} {base : Nat} {A : Option Addr} {n c : Nat} {zs : List Int} (h : OwI w base A n c zs) : zs.length = n := by have := OwV.len h; rwa [ivs_len] at this
theorem OwI.keep {w w' : World} {base : Nat} {A : Option Addr} {n c : Nat} {zs : List Int} (h : OwI w base A n c zs) (hm : Mod (fun _ => False) w w') : OwI w' base A n c zs := OwV.mod h hm (fun _ _ => id)
theorem OwI.open_ {w : World} {base : Nat} {A : Option Addr} {n c : Nat} {zs : List Int} (h : OwI w base A n c zs) (hn : 0 < n) :
    ∃ g cur, A = some ⟨g, 0, none⟩ ∧ base ≤ g ∧ w.heap[g]? = some (.cells (List.toArray cur) 3 (0, 0)) ∧ n ≤ c ∧ c ≤ maxLen ∧ cur.length = c ∧ cur.take n = ivs zs := by
  have h' : OwN w base 3 1 A n c (ivs zs) := h
  obtain ⟨g, cur, hA, hb, hh, h1, h2, h3, h4⟩ := OwN.open_ h' hn
  exact ⟨g, cur, hA, hb, hh, h1, h2, by omega, by rw [Nat.mul_one] at h4; exact h4⟩
theorem OwI.mk_ {w : World} {n c base g : Nat} {zs : List Int} {cur : List Value} (hb : base ≤ g) (hh : w.heap[g]? = some (.cells (List.toArray cur) 3 (0, 0))) (h1 : n ≤ c) (h2 : c ≤ maxLen) (h3 : cur.length = c) (h4 : cur.take n = ivs zs) (hv : zs.length = n) :
    OwI w base (some ⟨g, 0, none⟩) n c zs := by
  have : OwN w base 3 1 (some ⟨g, 0, none⟩) n c (ivs zs) := OwN.mk_ hb hh h1 h2 (by omega) (by rw [Nat.mul_one]; exact h4) (by rw [ivs_len]; omega)
  exact this
theorem ivs_holds {w : World} {g n : Nat} {cur : List Value} {zs : List Int} {e : TypeId} (hh : w.heap[g]? = some (.cells (List.toArray cur) e (0, 0))) (hn : zs.length = n) (h4 : cur.take n = ivs zs) : Holds (Value.int .i64) w g 0 zs.toArray := by
  intro j hj
  refine ⟨?_, frozen_of_block hh _⟩
  rw [Nat.zero_add, cell_of_row _ _ _ _ _ _ hh]
  have hj' : j < zs.length := by simpa using hj
  have := congrArg (fun l => l[j]?) h4
  simp only [List.getElem?_take, ivs, List.getElem?_map] at this
  rw [if_pos (by omega)] at this
  simp [hj'] at this
  simp [this, hj']

set_option maxRecDepth 100000 in
theorem sort_ok (w : World) (base : Nat) (A : Option Addr) (n c : Nat) (zs : List Int) (h : OwI w base A n c zs) (hn : n ≤ 1000) :
    Calls Try.prog 27 #[.slice A n c] w fun e w' => e = .returned (.tuple #[]) ∧ OwI w' base A n c (srt zs) ∧ Mod (fun k => blkOf A = some k) w w' := by
  have hl := h.len
  rcases Nat.eq_zero_or_pos n with h0 | h0
  · subst h0
    have hz : zs = [] := List.eq_nil_of_length_eq_zero hl
    subst hz
    refine (Any.slices_Sort_int_none sortInt A c w).mono ?_
    rintro e w' ⟨rfl, rfl⟩
    exact ⟨rfl, by rw [show srt [] = [] by simp [srt]]; exact h, Mod.refl _ _⟩
  · obtain ⟨g, cur, rfl, hb, hh, h1, h2, h3, h4⟩ := h.open_ h0
    have hg : g < w.heap.size := (Array.getElem?_eq_some_iff.1 hh).1
    have hc := Any.slices_Sort_int sortInt g 0 c zs w (ivs_holds hh hl h4) hg (by omega)
    rw [hl] at hc
    refine hc.mono ?_
    rintro e w' ⟨rfl, m, os, rfl⟩
    refine ⟨rfl, ?_, (put_mod _ _ _ _ _ _ _).mono (fun _ _ e => by simp [blkOf, e])⟩
    have hp := put_heap (enc := Value.int .i64) (off := 0) (m := m) (d := (srt zs).toArray) (os := os) hh
    have hsz : (srt zs).length = n := by rw [srt_len, hl]
    have ht := put_take (Value.int .i64) (srt zs).toArray cur (by simp; omega)
    have hz := put_size (Value.int .i64) 0 (srt zs).toArray cur.toArray
    refine OwI.mk_ (cur := (putCells (Value.int .i64) 0 (srt zs).toArray cur.toArray).toList) hb (by rw [Array.toArray_toList]; exact hp) h1 h2 (by rw [Array.length_toList, hz]; simpa using h3) ?_ hsz
    simp only [List.size_toArray, hsz] at ht
    exact ht

set_option maxRecDepth 100000 in
theorem compact_ok (w : World) (base : Nat) (A : Option Addr) (n c : Nat) (zs : List Int) (h : OwI w base A n c zs) (hn : n ≤ 1000) :
    Calls Try.prog 28 #[.slice A n c] w fun e w' => e = .returned (.slice A (Lib.compact zs).length c) ∧ OwI w' base A (Lib.compact zs).length c (Lib.compact zs) ∧ Mod (fun k => blkOf A = some k) w w' := by
  have hl := h.len
  rcases Nat.eq_zero_or_pos n with h0 | h0
  · subst h0
    have hz : zs = [] := List.eq_nil_of_length_eq_zero hl
    subst hz
    refine (Any.slices_Compact_int_empty compInt A c w).mono ?_
    rintro e w' ⟨rfl, rfl⟩
    exact ⟨rfl, h, Mod.refl _ _⟩
  · obtain ⟨g, cur, rfl, hb, hh, h1, h2, h3, h4⟩ := h.open_ h0
    have hg : g < w.heap.size := (Array.getElem?_eq_some_iff.1 hh).1
    subst hl
    refine (Any.slices_Compact_int compInt g 0 c zs w (ivs_holds hh rfl h4) (by omega) (by omega)).mono ?_
    rintro e w' ⟨rfl, m, rfl⟩
    have hle := compact_len_le zs
    generalize hD : (Lib.compact zs ++ List.replicate (zs.length - (Lib.compact zs).length) 0) = D
    have hDl : D.length = zs.length := by rw [← hD, List.length_append, List.length_replicate]; omega
    refine ⟨rfl, ?_, ?_⟩
    · have hp := put_heap (enc := Value.int .i64) (off := 0) (m := m) (d := D.toArray) (os := #[]) hh
      rw [grow_empty] at hp
      have ht := put_take (Value.int .i64) D.toArray cur (by simp; omega)
      have hz := put_size (Value.int .i64) 0 D.toArray cur.toArray
      refine OwI.mk_ (cur := (putCells (Value.int .i64) 0 D.toArray cur.toArray).toList) hb (by rw [Array.toArray_toList]; exact hp) (by omega) h2 (by rw [Array.length_toList, hz]; simpa using h3) ?_ rfl
      have ht2 := congrArg (List.take (Lib.compact zs).length) ht
      rw [List.take_take, List.size_toArray, Nat.min_eq_left (by omega), ← hD, List.toList_toArray, List.map_append, List.take_left' (by simp)] at ht2
      rw [hD] at ht2
      exact ht2
    · have := put_mod (Value.int .i64) w g 0 m D.toArray #[]
      rw [grow_empty] at this
      exact this.mono (fun _ _ e => by simp [blkOf, e])
end Go.Proofs.Ytpkjafadhnecfaa
