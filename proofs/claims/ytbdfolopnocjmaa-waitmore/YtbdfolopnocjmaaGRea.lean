/-
  wait.graph.reached, wait.Reach, wait.Circle.
-/
import Derived.Test.YtbdfolopnocjmaaGRch
namespace Go.Proofs.Ytbdfolopnocjmaa
open Go Go.RowKit Go.Shelf
attribute [local go_sem] Oper.semAt_some

theorem reached_ok (w : World) (b : Nat) (tx : Int) :
    Calls Try.prog 16 #[.map (some b), .int .i64 tx] w fun e w' => ∃ Bt Bg, e = .returned (.func (.func 21) #[] #[.pointer (some ⟨Bt, 0, none⟩), .pointer (some ⟨Bg, 0, none⟩)]) ∧
      w'.cell? ⟨Bt, 0, none⟩ = some (.int .i64 tx) ∧ w'.cell? ⟨Bg, 0, none⟩ = some (.map (some b)) ∧ Mod (fun _ => False) w w' := by
  go_enter Try.func16, Try.ntmps16
  go_wp2
  go_ret
  have h1 := heap_alloc_new (w.alloc (.cells #[.map (some b)] 35)) (.cells #[.int .i64 tx] 3)
  rw [World.size_alloc] at h1
  have h0 := (Below.heap_alloc (w.alloc (.cells #[.map (some b)] 35)) (.cells #[.int .i64 tx] 3) w.heap.size (by simp)).trans (heap_alloc_new w (.cells #[.map (some b)] 35))
  exact ⟨w.heap.size + 1, w.heap.size, rfl, by rw [cell_of_row _ _ _ _ _ _ h1]; rfl, by rw [cell_of_row _ _ _ _ _ _ h0]; rfl, ((Mod.refl _ w).alloc _).alloc _⟩

set_option maxRecDepth 100000 in
set_option maxHeartbeats 6400000 in
theorem reach_ok (w : World) (A0 : Option Addr) (n c0 : Nat) (l : List Wt) (h : Wl w A0 n c0 l) (hf : Few l) (hk : ∀ x ∈ l, x.ok) (from_ to_ : Int) (hfr : I64 from_) :
    Calls Try.prog 10 #[.slice A0 n c0, .int .i64 from_, .int .i64 to_] w fun e w' => e = .returned (.bool (rch (edg (ps l)) from_ to_)) ∧ Mod (fun _ => False) w w' := by
  refine (callsIn_wide (n := 8)).1 ?_
  obtain ⟨V, hV⟩ : ∃ V, (w.alloc (.cells #[.int .i64 to_] 3)).alloc (.cells #[.bool false] 4) = V := ⟨_, rfl⟩
  have hmV : Mod (fun _ => False) w V := by rw [← hV]; exact ((Mod.refl _ w).alloc _).alloc _
  have h5 : V.heap[w.heap.size]? = some (.cells #[.int .i64 to_] 3 (0, 0)) := by
    rw [← hV]
    exact (Below.heap_alloc _ _ _ (by simp)).trans (heap_alloc_new w _)
  have h6 : V.heap[w.heap.size + 1]? = some (.cells #[.bool false] 4 (0, 0)) := by
    rw [← hV]
    have := heap_alloc_new (w.alloc (.cells #[.int .i64 to_] 3)) (.cells #[.bool false] 4)
    rw [World.size_alloc] at this
    exact this
  have HGo := Lib.hid (graphOf_ok V A0 n c0 l (h.keep hmV) hf hk)
  have HKi : Hid (∀ x y, (x, y) ∈ edg (ps l) → I64 y) := fun x y e => (edg_i64 hk e).2
  have HE := Lib.hid hf.e
  have HmV := Lib.hid hmV
  have H5 := Lib.hid h5
  have H6 := Lib.hid h6
  obtain ⟨L, hL⟩ : ∃ L, ps l = L := ⟨_, rfl⟩
  rw [hL] at HGo HKi HE ⊢
  clear h hf hk hmV h5 h6 hL
  refine callsIn_of_wp_marks Try.func10 rfl trivial ?_ rfl
  simp only [Try.ntmps10, List.size_toArray, List.length_cons, List.length_nil, Nat.reduceAdd, Nat.reduceSub, Array.replicate_succ, Array.replicate_zero, List.push_toArray, List.append_toArray, List.nil_append, List.cons_append]
  gi_wp2_with fail
  refine ⟨trivial, ?_⟩
  refine (callsIn_wide.2 HGo.out).mono ?_
  rintro e w1 ⟨b, m, f, rfl, hg, hb, hm, hm1⟩
  have HG1 := Lib.hid hg
  have HM1 := Lib.hid hm1
  clear hg hm1 HGo hm hb hV
  gi_wp2_with fail
  refine ⟨trivial, ?_⟩
  refine (callsIn_wide.2 (reached_ok _ _ _)).mono ?_
  rintro e w2 ⟨Bt, Bg, rfl, hct, hcg, hm2⟩
  have HG2 := Lib.hid (HG1.out.keep hm2)
  have HM2 := Lib.hid (HM1.out.trans hm2 (fun _ _ h => h))
  have Hct := Lib.hid hct
  have Hcg := Lib.hid hcg
  clear hct hcg hm2 HG1 HM1
  have hw2 : Mod (fun _ => False) V w2 := HM2.out
  have hB5 : w2.heap[w.heap.size]? = some (.cells #[.int .i64 to_] 3 (0, 0)) := (hw2.block _ (Array.getElem?_eq_some_iff.1 H5.out).1 id).trans H5.out
  have hB6 : w2.heap[w.heap.size + 1]? = some (.cells #[.bool false] 4 (0, 0)) := (hw2.block _ (Array.getElem?_eq_some_iff.1 H6.out).1 id).trans H6.out
  have hs2 : w.heap.size + 2 ≤ w2.heap.size := by have := (Array.getElem?_eq_some_iff.1 hB6).1; omega
  have HB5 := Lib.hid hB5
  have HB6 := Lib.hid hB6
  have Hs2 := Lib.hid hs2
  have HmW : Hid (Mod (fun _ => False) w w2) := HmV.out.trans hw2 (fun _ _ h => h)
  clear hw2 hB5 hB6 hs2 H5 H6 HM2 HmV
  gi_wp2_with fail
  refine wpIn_rangeFunc_R (α := Int) rfl (by omega) (gf := 21) (lb := #[.pointer (some ⟨Bt, 0, none⟩), .pointer (some ⟨Bg, 0, none⟩)]) rfl trivial (enters_of Try.func21 (by kernel_rfl) rfl)
    (reached_seq 7 (by omega) w2 Bt Bg b m f L from_ Hct.out Hcg.out HG2.out HE.out HKi.out hfr) (fun _ => rfl)
    (fun pre => to_ ∉ pre)
    (fun pre W => to_ ∈ pre ∧ W.heap[w.heap.size + 1]? = some (.cells #[.bool true] 4 (0, 0)) ∧ Mod (fun k => k = w.heap.size + 1 ∨ w2.heap.size ≤ k) w2 W)
    ?hq (by simp)
    (fun z => { tmps := #[.slice A0 n c0, .int .i64 from_, .int .i64 to_, undef, undef, .pointer (some ⟨w.heap.size, 0, none⟩), .pointer (some ⟨w.heap.size + 1, 0, none⟩), .int .i64 z, .slice A0 n c0, .map (some b), .int .i64 from_, .func (.func 21) #[] #[.pointer (some ⟨Bt, 0, none⟩), .pointer (some ⟨Bg, 0, none⟩)], .int .i64 z, undef, undef, undef], defers := [] })
    ?assign ?body ?done ?stop
  case hq =>
    rintro pre X Y ⟨x1, x2, x3⟩ hm
    exact ⟨x1, (hm.block _ (Array.getElem?_eq_some_iff.1 x2).1 (by have := Hs2.out; omega)).trans x2, x3.trans hm (fun i _ e => .inr e)⟩
  case assign =>
    intro l z W K hK
    have HK := Lib.hid hK
    clear hK
    gi_wp2
    exact HK.out
  case body =>
    intro l pre z W hm hp
    have hb5 : W.heap[w.heap.size]? = some (.cells #[.int .i64 to_] 3 (0, 0)) := (hm.block _ (Array.getElem?_eq_some_iff.1 HB5.out).1 (by have := Hs2.out; omega)).trans HB5.out
    have hb6 : W.heap[w.heap.size + 1]? = some (.cells #[.bool false] 4 (0, 0)) := (hm.block _ (Array.getElem?_eq_some_iff.1 HB6.out).1 (by have := Hs2.out; omega)).trans HB6.out
    have c5 : W.cell? ⟨w.heap.size, 0, none⟩ = some (.int .i64 to_) := by rw [cell_of_row _ _ _ _ _ _ hb5]; rfl
    have c6 : W.cell? ⟨w.heap.size + 1, 0, none⟩ = some (.bool false) := by rw [cell_of_row _ _ _ _ _ _ hb6]; rfl
    have f6 := frozen_of_block hb6 0
    have Hb6 := Lib.hid hb6
    have Hm := Lib.hid hm
    have Hp := Lib.hid hp
    clear hb5 hb6 hm hp
    by_cases hz : z = to_
    · have hzt : (z == to_) = true := by simpa using hz
      have Hz := Lib.hid hz
      clear hz
      gi_wp2
      refine ⟨⟨?_, ?_, ?_⟩, by simp [World.setCell], fun k hk => ?_⟩
      · rw [← Hz.out]; simp
      · have := heap_set Hb6.out 0 (.bool true)
        exact this
      · refine (Hm.out.mono (fun _ _ e => .inr e)).setCell (p := ⟨w.heap.size + 1, 0, none⟩) (fun _ => .inl rfl) _
      · exact Below.heap_setCell W _ _ _ (by have := Hs2.out; simp; omega)
    · have hzt : (z == to_) = false := by simpa using hz
      have Hz := Lib.hid hz
      clear hz
      gi_wp2
      exact ⟨rfl, fun h => by rcases List.mem_append.1 h with h | h; exact Hp.out h; exact Hz.out (List.mem_singleton.1 h).symm⟩
  case done =>
    intro D xs W hD hS hp hm hK
    have hb6 : W.heap[w.heap.size + 1]? = some (.cells #[.bool false] 4 (0, 0)) := (hm.block _ (Array.getElem?_eq_some_iff.1 HB6.out).1 (by have := Hs2.out; omega)).trans HB6.out
    have c6 : W.cell? ⟨w.heap.size + 1, 0, none⟩ = some (.bool false) := by rw [cell_of_row _ _ _ _ _ _ hb6]; rfl
    have f6 := frozen_of_block hb6 0
    have Hb6 := Lib.hid hb6
    have Hm := Lib.hid hm
    have HD := Lib.hid hD
    have hr : rch (edg L) from_ to_ = false := rch_false.2 (fun h => hp ((hS to_).2 h))
    have HK2 : Hid ((W.setCell ⟨w.heap.size + 1, 0, none⟩ (.bool false)).heap[D]? = some (.deferred (some []))) := (Below.heap_setCell W _ _ _ (by have := Hs2.out; simp; omega)).trans hK
    have Hr := Lib.hid hr
    clear hb6 hm hD hS hp hK hr
    gi_wp2
    refine ⟨by simp, .inl ⟨_, _, rfl, run_takeDeferred HK2.out, ?_⟩⟩
    refine ⟨.bool false, ?_, by rw [Hr.out], ?_⟩
    · have h7 := ((mod_putObj (W.setCell ⟨w.heap.size + 1, 0, none⟩ (.bool false)) D (.deferred none)).block (w.heap.size + 1) (Array.getElem?_eq_some_iff.1 (heap_set Hb6.out 0 (.bool false))).1 (by have := HD.out; have := Hs2.out; omega)).trans (heap_set Hb6.out 0 (.bool false))
      have c7 : ((W.setCell ⟨w.heap.size + 1, 0, none⟩ (.bool false)).putObj D (.deferred none)).cell? ⟨w.heap.size + 1, 0, none⟩ = some (.bool false) := by rw [cell_of_row _ _ _ _ _ _ h7]; rfl
      simp [results, Try.results10, go_sem, c7]
    · have h8 : Mod (fun k => w.heap.size ≤ k) w W := (HmW.out.mono (fun _ _ h => h.elim)).trans Hm.out (fun i hi e => by have := HmW.out.size; omega)
      have h9 := (h8.setCell (p := ⟨w.heap.size + 1, 0, none⟩) (fun _ => Nat.le_succ _) (.bool false)).trans (mod_putObj _ D (.deferred none)) (fun i hi e => by have := HD.out; have := HmW.out.size; omega)
      exact ⟨h9.os, h9.tape, h9.output, h9.size, fun i hi _ => h9.block i hi (by omega)⟩
  case stop =>
    rintro D pre W hD hS ⟨hp, hb6, hm⟩ hK
    have hr : rch (edg L) from_ to_ = true := rch_true.2 (hS to_ hp)
    have Hr := Lib.hid hr
    have Hb6 := Lib.hid hb6
    have Hm := Lib.hid hm
    have HD := Lib.hid hD
    have HK2 := Lib.hid hK
    clear hr hb6 hm hD hS hp hK
    gi_wp2
    refine ⟨by simp, .inl ⟨_, _, rfl, run_takeDeferred HK2.out, ?_⟩⟩
    refine ⟨.bool true, ?_, by rw [Hr.out], ?_⟩
    · have h7 := ((mod_putObj W D (.deferred none)).block (w.heap.size + 1) (Array.getElem?_eq_some_iff.1 Hb6.out).1 (by have := HD.out; have := Hs2.out; omega)).trans Hb6.out
      have c7 : (W.putObj D (.deferred none)).cell? ⟨w.heap.size + 1, 0, none⟩ = some (.bool true) := by rw [cell_of_row _ _ _ _ _ _ h7]; rfl
      simp [results, Try.results10, go_sem, c7]
    · have h8 : Mod (fun k => w.heap.size ≤ k) w W := (HmW.out.mono (fun _ _ h => h.elim)).trans Hm.out (fun i hi e => by have := HmW.out.size; omega)
      have h9 := h8.trans (mod_putObj _ D (.deferred none)) (fun i hi e => by have := HD.out; have := HmW.out.size; omega)
      exact ⟨h9.os, h9.tape, h9.output, h9.size, fun i hi _ => h9.block i hi (by omega)⟩

set_option maxRecDepth 100000 in
theorem circle_ok (w : World) (A0 : Option Addr) (n c0 : Nat) (l : List Wt) (h : Wl w A0 n c0 l) (hf : Few l) (hk : ∀ x ∈ l, x.ok) (tx : Int) (htx : I64 tx) :
    Calls Try.prog 12 #[.slice A0 n c0, .int .i64 tx] w fun e w' => e = .returned (.bool (rch (edg (ps l)) tx tx)) ∧ Mod (fun _ => False) w w' := by
  have HR := Lib.hid (reach_ok w A0 n c0 l h hf hk tx tx htx)
  generalize rch (edg (ps l)) tx tx = r at *
  clear h hf hk
  go_enter Try.func12, Try.ntmps12
  go_wp2_with fail
  refine HR.out.mono ?_
  rintro e w1 ⟨rfl, hm⟩
  have HM := Lib.hid hm
  clear hm
  go_wp2
  go_ret
  exact ⟨rfl, HM.out⟩
end Go.Proofs.Ytbdfolopnocjmaa
