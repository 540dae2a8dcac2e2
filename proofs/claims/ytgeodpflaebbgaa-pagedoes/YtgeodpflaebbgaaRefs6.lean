/-
  The document's answer for layer 5: Get, without, with, Put, Stamped.
-/
import Derived.Test.YtgeodpflaebbgaaLastW
namespace Go.Proofs.Ytgeodpflaebbgaa
open Go Go.RowKit

theorem mGet_at {α : Type} {k : Int} {l : List (Int × α)} (hs : Srt l) {j : Nat} {r : Int × α} (hr : l[j]? = some r) (hk : r.1 = k) : mGet k l = some r.2 := by
  have hj := (List.getElem?_eq_some_iff.1 hr).1
  have hi : idx k l = j := idx_eq (Nat.le_of_lt hj) (fun m x hm hx => by have := hs.at hm hx hr; omega) (fun m x hm hx => by
    rcases Nat.eq_or_lt_of_le hm with e | e
    · subst e; rw [hr] at hx; injection hx with hx; subst hx; omega
    · have := hs.at e hr hx; omega)
  exact mGet_some (by rw [hi]; exact hr) hk
theorem mGet_nowhere {α : Type} {k : Int} {l : List (Int × α)} (h : ∀ r ∈ l, r.1 ≠ k) : mGet k l = none := mGet_none (fun x hx => h x (List.mem_of_getElem? hx))

/-- A Val's box: two cells. -/
theorem box2 {W : World} {g : Nat} {v0 v1 : Value} {t : TypeId} (h : W.heap[g]? = some (.cells #[v0, v1] t (0, 0))) (u0 u1 : Value) :
    Mod (fun j => j = g) W ((W.setCell ⟨g, 0, none⟩ u0).setCell ⟨g, 1, none⟩ u1) ∧ ((W.setCell ⟨g, 0, none⟩ u0).setCell ⟨g, 1, none⟩ u1).heap[g]? = some (.cells #[u0, u1] t (0, 0)) := by
  refine ⟨((Mod.refl (fun j => j = g) W).setCell (p := ⟨g, 0, none⟩) (fun _ => rfl) _).setCell (p := ⟨g, 1, none⟩) (fun _ => rfl) _, ?_⟩
  have h1 := heap_set h 0 u0
  have h2 := heap_set h1 1 u1
  simpa using h2
/-- A Page's box: three cells. -/
theorem box3 {W : World} {g : Nat} {v0 v1 v2 : Value} {t : TypeId} (h : W.heap[g]? = some (.cells #[v0, v1, v2] t (0, 0))) (u0 u1 u2 : Value) :
    Mod (fun j => j = g) W (((W.setCell ⟨g, 0, none⟩ u0).setCell ⟨g, 1, none⟩ u1).setCell ⟨g, 2, none⟩ u2) ∧ (((W.setCell ⟨g, 0, none⟩ u0).setCell ⟨g, 1, none⟩ u1).setCell ⟨g, 2, none⟩ u2).heap[g]? = some (.cells #[u0, u1, u2] t (0, 0)) := by
  refine ⟨(((Mod.refl (fun j => j = g) W).setCell (p := ⟨g, 0, none⟩) (fun _ => rfl) _).setCell (p := ⟨g, 1, none⟩) (fun _ => rfl) _).setCell (p := ⟨g, 2, none⟩) (fun _ => rfl) _, ?_⟩
  have h1 := heap_set h 0 u0
  have h2 := heap_set h1 1 u1
  have h3 := heap_set h2 2 u2
  simpa using h3

set_option maxRecDepth 100000 in
set_option maxHeartbeats 2000000 in
theorem rget_ok (w : World) (i s : Int) (A : Option Addr) (n c : Nat) (rs : List Rec) (h : Kv w A n c rs) (hs : Srt rs) (hn : n ≤ 1000) (k : Int) :
    Calls Try.prog 32 #[.agg #[.int .i64 i, .int .i64 s, .slice A n c], .int .i64 k] w fun e w' => ∃ B m d, e = .returned (.agg #[.bool (mGet k rs).isSome, .slice B m d]) ∧ Sl w' B m d ((mGet k rs).getD []) ∧ Mod (fun _ => False) w w' := by
  have hl := h.len
  have hm : Mod (fun _ => False) w ((w.alloc (.cells #[.int .i64 i, .int .i64 s, .slice A n c] 31)).alloc (.cells #[.bool false, .slice none 0 0] 34)) := ((Mod.refl _ w).alloc _).alloc _
  obtain ⟨w2, hw2⟩ : ∃ w2, w2 = (w.alloc (.cells #[.int .i64 i, .int .i64 s, .slice A n c] 31)).alloc (.cells #[.bool false, .slice none 0 0] 34) := ⟨_, rfl⟩
  have hb1 : w2.heap[w.heap.size]? = some (.cells #[.int .i64 i, .int .i64 s, .slice A n c] 31 (0, 0)) := by
    rw [hw2]; exact (Below.heap_alloc _ _ _ (by rw [World.size_alloc]; omega)).trans (heap_alloc_new w _)
  have hb2 : w2.heap[w.heap.size + 1]? = some (.cells #[.bool false, .slice none 0 0] 34 (0, 0)) := by
    have := heap_alloc_new (w.alloc (.cells #[.int .i64 i, .int .i64 s, .slice A n c] 31)) (.cells #[.bool false, .slice none 0 0] 34)
    rw [World.size_alloc] at this
    rw [hw2]; exact this
  rw [← hw2] at hm
  have H := Lib.hid (h.keep hm)
  have Hs := Lib.hid hs
  have Hm := Lib.hid hm
  have Hb2 := Lib.hid hb2
  have c2 : w2.cell? ⟨w.heap.size, 2, none⟩ = some (.slice A n c) := by rw [cell_of_row _ _ _ _ _ _ hb1]; rfl
  have d0 : w2.cell? ⟨w.heap.size + 1, 0, none⟩ = some (.bool false) := by rw [cell_of_row _ _ _ _ _ _ hb2]; rfl
  have d1 : w2.cell? ⟨w.heap.size + 1, 1, none⟩ = some (.slice none 0 0) := by rw [cell_of_row _ _ _ _ _ _ hb2]; rfl
  have f0 : w2.frozen? ⟨w.heap.size + 1, 0, none⟩ = false := frozen_of_block hb2 0
  have f1 : w2.frozen? ⟨w.heap.size + 1, 1, none⟩ = false := frozen_of_block hb2 1
  have Hhi : Hid (∀ k b o, (some ⟨b, o, none⟩ : Option Addr) = some ⟨k, o, none⟩ → True) := fun _ _ _ _ => trivial
  have hlt2 : w.heap.size + 1 < w2.heap.size := (Array.getElem?_eq_some_iff.1 hb2).1
  clear Hhi h hs hm hb1 hb2
  go_enter Try.func32, Try.ntmps32
  go_wp2_with fail
  rw [← hw2]
  clear hw2
  go_loopw [5] (fun ii wr => ∃ (j : Nat), j ≤ n ∧ ii = .int .i64 j ∧ wr = w2 ∧ ∀ r ∈ rs.take j, r.1 ≠ k) (fun ii _ => n - (intOf ii).toNat)
  case atStart => exact ⟨0, by omega, rfl, rfl, by simp⟩
  case round =>
    obtain ⟨j, hj, rfl, rfl, hno⟩ := hrel
    have Hno := Lib.hid hno
    clear hno
    by_cases hlt : j < n
    · obtain ⟨r, hr⟩ : ∃ r, rs[j]? = some r := ⟨_, List.getElem?_eq_getElem (by omega)⟩
      obtain ⟨b, o, rfl, B1, m1, d1', a0, a1, hs1⟩ := H.out.at_ hr
      have Hr := Lib.hid hr
      have Hs1 := Lib.hid hs1
      clear hs1 hr
      by_cases hk : r.1 = k
      · have hkb : (r.1 == k) = true := by simpa using hk
        have Hg := Lib.hid (mGet_at Hs.out Hr.out hk)
        clear hk
        go_wp2
        obtain ⟨hmf, hbf⟩ := box2 Hb2.out (.bool true) (.slice B1 m1 d1')
        have r0 : ((wr.setCell ⟨w.heap.size + 1, 0, none⟩ (.bool true)).setCell ⟨w.heap.size + 1, 1, none⟩ (.slice B1 m1 d1')).cell? ⟨w.heap.size + 1, 0, none⟩ = some (.bool true) := by rw [cell_of_row _ _ _ _ _ _ hbf]; rfl
        have r1 : ((wr.setCell ⟨w.heap.size + 1, 0, none⟩ (.bool true)).setCell ⟨w.heap.size + 1, 1, none⟩ (.slice B1 m1 d1')).cell? ⟨w.heap.size + 1, 1, none⟩ = some (.slice B1 m1 d1') := by rw [cell_of_row _ _ _ _ _ _ hbf]; rfl
        refine bodyPost_ret (v := .agg #[.bool true, .slice B1 m1 d1']) (by simp [results, Try.results32, go_sem, r0, r1]) rfl ?_
        rw [Hg.out]
        refine ⟨B1, m1, d1', rfl, Hs1.out.mod hmf (fun kk hk hn e => ?_), Hm.out.trans hmf (fun kk hk e => by omega)⟩
        have hne : w.heap.size + 1 ≠ kk := fun e' => by
          obtain ⟨b', o', hb', hc'⟩ := Hs1.out.2.2 hn
          have h0 := hc' 0 hn
          rw [hb'] at hk
          simp [blkOf] at hk
          subst hk
          rw [← e', cell_of_row _ _ _ _ _ _ Hb2.out] at h0
          cases o' with
          | zero => simp at h0
          | succ o' => cases o' <;> simp at h0
        exact hne e.symm
      · have hkb : (r.1 == k) = false := by simpa using hk
        have Hn : Hid (∀ r' ∈ rs.take (j + 1), r'.1 ≠ k) := fun x hx => by
          obtain ⟨hj', e⟩ := List.getElem?_eq_some_iff.1 Hr.out
          rw [List.take_succ_eq_append_getElem hj', e] at hx
          rcases List.mem_append.1 hx with h | h
          · exact Hno.out x h
          · rw [List.mem_singleton] at h; subst h; exact hk
        clear hk
        go_wp2
        go_roundw
        case rel => exact ⟨j + 1, by omega, by go_num, trivial, Hn.out⟩
        case measure => simp [intOf]; omega
    · obtain rfl : j = n := by omega
      have Hg : Hid (mGet k rs = none) := mGet_nowhere (fun r hr => Hno.out r (by rw [List.take_of_length_le (by omega)]; exact hr))
      go_wp2
      obtain ⟨hmf, hbf⟩ := box2 Hb2.out (.bool false) (.slice none 0 0)
      have r0 : ((wr.setCell ⟨w.heap.size + 1, 0, none⟩ (.bool false)).setCell ⟨w.heap.size + 1, 1, none⟩ (.slice none 0 0)).cell? ⟨w.heap.size + 1, 0, none⟩ = some (.bool false) := by rw [cell_of_row _ _ _ _ _ _ hbf]; rfl
      have r1 : ((wr.setCell ⟨w.heap.size + 1, 0, none⟩ (.bool false)).setCell ⟨w.heap.size + 1, 1, none⟩ (.slice none 0 0)).cell? ⟨w.heap.size + 1, 1, none⟩ = some (.slice none 0 0) := by rw [cell_of_row _ _ _ _ _ _ hbf]; rfl
      refine bodyPost_ret (v := .agg #[.bool false, .slice none 0 0]) (by simp [results, Try.results32, go_sem, r0, r1]) rfl ?_
      rw [Hg.out]
      exact ⟨none, 0, 0, rfl, Sl.none_ _ _ _, Hm.out.trans hmf (fun kk hk e => by omega)⟩
end Go.Proofs.Ytgeodpflaebbgaa
