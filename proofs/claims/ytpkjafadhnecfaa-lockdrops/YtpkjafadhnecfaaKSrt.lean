/-
  slices.SortFunc at locks, slices.Clone at locks.
-/
import Derived.Test.YtpkjafadhnecfaaKSort
import Derived.Test.YtpkjafadhnecfaaKHold
namespace Go.Proofs.Ytpkjafadhnecfaa
open Go Go.RowKit Go.Sort

/-! ### None -/
set_option maxRecDepth 100000 in
theorem ins_none (w : World) (A : Option Addr) (c : Nat) :
    Calls Try.prog 62 #[.slice A 0 c, .int .i64 0, .int .i64 0, .func (.func 38) #[] #[]] w fun e w' => e = .returned (.tuple #[]) ∧ w' = w := by
  go_enter Try.func62, Try.ntmps62
  go_wp2
  refine wp_loop_rounds 1 ?_
  rw [rounds_succ]
  go_wp2
  go_end0
  exact ⟨rfl, rfl⟩
set_option maxRecDepth 100000 in
theorem pdq_none (w : World) (A : Option Addr) (c : Nat) :
    Calls Try.prog 48 #[.slice A 0 c, .int .i64 0, .int .i64 0, .int .i64 0, .func (.func 38) #[] #[]] w fun e w' => e = .returned (.tuple #[]) ∧ w' = w := by
  go_enter Try.func48, Try.ntmps48
  go_wp2
  refine wp_loop_rounds 1 ?_
  rw [rounds_succ]
  go_wp2_with fail
  refine (ins_none w A c).mono ?_
  rintro e w' ⟨rfl, h'⟩; subst w'
  go_wp2
  (try simp only [Exit.inBlock, Exit.then])
  refine bodyPost_ret (results_none rfl _ _ _) rfl ?_
  exact ⟨rfl, rfl⟩
set_option maxRecDepth 100000 in
theorem srt_none (w : World) (A : Option Addr) (c : Nat) :
    Calls Try.prog 37 #[.slice A 0 c, .func (.func 38) #[] #[]] w fun e w' => e = .returned (.tuple #[]) ∧ w' = w := by
  have hl : Calls Try.prog 44 #[.int .u64 0] w fun e w' => e = .returned (.int .i64 0) ∧ w' = w := Any.bits_Len bitsLen 0 w (by omega) (by omega)
  go_enter Try.func37, Try.ntmps37
  go_wp2_with fail
  refine hl.mono ?_
  rintro e w' ⟨rfl, h'⟩; subst w'
  go_wp2_with fail
  refine (pdq_none w A c).mono ?_
  rintro e w' ⟨rfl, h'⟩; subst w'
  go_wp2
  go_end0
  exact ⟨rfl, rfl⟩

/-! ### Some -/
theorem flat_size [Inhabited Tr] (d : Array Tr) : (flatK tri 3 d).size = d.size * 3 := by simp [flatK]
theorem tri_bang (x : Tr) (k : Nat) (h : k < 3) : some ((tri x)[k]!) = (tri x)[k]? := by
  rcases (by omega : k = 0 ∨ k = 1 ∨ k = 2) with rfl | rfl | rfl <;> rfl
theorem flat_tri [Inhabited Tr] (d : Array Tr) : (flatK tri 3 d).toList = trs d.toList := by
  apply List.ext_getElem?
  intro i
  have hs : (trs d.toList).length = d.size * 3 := by rw [trs_len, Array.length_toList]
  by_cases hi : i < d.size * 3
  · have g := trs_get d.toList (i / 3) (by rw [Array.length_toList]; omega) (i % 3) (by omega)
    rw [show i / 3 * 3 + i % 3 = i by omega] at g
    have hd : d[i / 3]! = atS d.toList (i / 3) := by
      have : i / 3 < d.size := by omega
      simp [atS, this]
    rw [g, ← tri_bang _ _ (by omega), ← hd, Array.getElem?_toList]
    unfold flatK
    simp [hi]
  · have n1 : (trs d.toList)[i]? = none := List.getElem?_eq_none (by rw [hs]; omega)
    have n2 : (flatK tri 3 d).toList[i]? = none := List.getElem?_eq_none (by rw [Array.length_toList, flat_size]; omega)
    rw [n1, n2]
theorem bang_atS [Inhabited Tr] {d : Array Tr} {i : Nat} (h : i < d.size) : d[i]! = atS d.toList i := by simp [atS, h]
theorem isAggH (w : World) : (isAgg (sortHd_ren.t 24)).run Try.prog w = .ok true w := Try.isAgg37 w
theorem sizeH (w : World) : (Go.sizeOf (sortHd_ren.t 24)).run Try.prog w = .ok 3 w := Try.sizeOf37 w

set_option maxRecDepth 100000 in
theorem sorth_ok (w : World) (base : Nat) (A : Option Addr) (n c : Nat) (l : List Tr) (h : Ow3 w base 37 A n c l) (hn : n ≤ 1000) :
    Calls Try.prog 37 #[.slice A n c, .func (.func 38) #[] #[]] w fun e w' =>
      e = .returned (.tuple #[]) ∧ ∃ d, Ow3 w' base 37 A n c d ∧ Ris d ∧ (∀ x, x ∈ d ↔ x ∈ l) ∧ Mod (fun k => blkOf A = some k) w w' := by
  haveI : Inhabited Tr := ⟨noT⟩
  have hl := h.len
  rcases Nat.eq_zero_or_pos n with h0 | h0
  · subst h0
    refine (srt_none w A c).mono ?_
    rintro e w' ⟨rfl, h'⟩; subst w'
    refine ⟨rfl, l, h, fun i j _ hj => ?_, fun _ => Iff.rfl, Mod.refl _ _⟩
    omega
  · obtain ⟨g, cur, rfl, hb, hh, h1, h2, h3, h4⟩ := OwN.open_ h h0
    have hg : g < w.heap.size := (Array.getElem?_eq_some_iff.1 hh).1
    have hH : HoldsK tri 3 w g 0 l.toArray := by
      intro j hj
      rw [flat_size] at hj
      have hj' : j < n * 3 := by simpa [hl] using hj
      refine ⟨?_, frozen_of_block hh _⟩
      rw [Nat.zero_add, cell_of_row _ _ _ _ _ _ hh]
      have e := congrArg (fun z => z[j]?) (flat_tri l.toArray)
      rw [← h4, List.getElem?_take, if_pos hj'] at e
      have hf : j < (flatK tri 3 l.toArray).size := by rw [flat_size]; exact hj
      rw [List.getElem?_toArray, ← e]
      rw [Array.getElem?_toList, Array.getElem?_eq_getElem hf, getElem!_pos (flatK tri 3 l.toArray) j hf]
      rfl
    have eg : ∀ args w, (callFunc 38 args).run Try.prog w = .ok (.enter 38 args) w := enters_of Try.func38 (by kernel_rfl) rfl
    have hc := AnyQ.slices_SortFunc (α := Tr) sortHd 3 isAggH sizeH tri (fun _ => rfl) (fun x v hv => by simp [tri] at hv; rcases hv with rfl | rfl | rfl <;> rfl) cfH swoH 38 #[] g 0 c l.toArray w eg (fun m os dk _ x y => safe1_ok _ x y) hH hg (by rw [List.size_toArray]; omega)
    have hn' : n = l.toArray.size := by simpa using hl.symm
    subst hn'
    refine hc.mono ?_
    rintro e w' ⟨rfl, d', m, os, hp, hs, rfl⟩
    have hds : d'.size = l.toArray.size := hp.1
    refine ⟨rfl, d'.toList, ?_, ?_, ?_, (put_mod _ _ _ _ _ _ _).mono (fun _ _ e => by simp [blkOf, e])⟩
    · have hq := put_heap (enc := id) (off := 0) (m := m) (d := flatK tri 3 d') (os := os) hh
      have ht := put_take id (flatK tri 3 d') cur (by rw [flat_size, hds]; have : l.toArray.size * 3 ≤ c * 3 := Nat.mul_le_mul_right 3 h1; omega)
      have hz := put_size id 0 (flatK tri 3 d') cur.toArray
      refine OwN.mk_ (cur := (putCells id 0 (flatK tri 3 d') cur.toArray).toList) hb (by rw [Array.toArray_toList]; exact hq) h1 h2 (by rw [Array.length_toList, hz]; simpa using h3) ?_ (by rw [trs_len, Array.length_toList, hds])
      rw [flat_size, hds, List.map_id, flat_tri] at ht
      exact ht
    · intro i j hij hj
      rw [Array.length_toList] at hj
      have := hs i j (Nat.zero_le _) hij (by rw [← hds]; exact hj)
      rw [ltH, bang_atS hj, bang_atS (by omega), decide_eq_false_iff_not] at this
      unfold leK
      omega
    · intro x
      have hpp := hp.2.2
      have e1 : d'.extract 0 l.toArray.size = d' := by rw [← hp.1]; exact Array.extract_size
      have e2 : l.toArray.extract 0 l.toArray.size = l.toArray := Array.extract_size
      rw [e1, e2, List.toList_toArray] at hpp
      exact hpp.mem_iff
end Go.Proofs.Ytpkjafadhnecfaa
