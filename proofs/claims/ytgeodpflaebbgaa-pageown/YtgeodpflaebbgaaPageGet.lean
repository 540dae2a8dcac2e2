/-
  page.Get, page.All.
-/
import Derived.Test.YtgeodpflaebbgaaPagePut
namespace Go.Proofs.Ytgeodpflaebbgaa
open Go Go.RowKit Go.Shelf
attribute [local go_sem] Oper.semAt_some

/-- What Get answers: a Val in new memory. -/
def GotVal (w w' : World) (e : Ending) (o : Option (List UInt8)) : Prop :=
  ∃ B m d, e = .returned (.agg #[.bool o.isSome, .slice B m d]) ∧ Sl w' B m d (o.getD []) ∧ (∀ k, blkOf B = some k → 0 < m → w.heap.size ≤ k) ∧ Mod (fun _ => False) w w'

set_option maxRecDepth 100000 in
set_option maxHeartbeats 1000000 in
theorem pget_ok (w : World) (A : Option Addr) (n c : Nat) (xs : List UInt8) (h : Sl w A n c xs) (k : Int) :
    Calls Try.prog 22 #[.slice A n c, .int .i64 k] w fun e w' => GotVal w w' e (mGet k (cont xs).l) := by
  have ha : Mod (fun _ => False) w (w.alloc (.cells #[.bool false, .slice none 0 0] 34)) := (Mod.refl _ w).alloc _
  have Hd := Lib.hid (decode_ok _ A n c xs (h.mod ha (fun _ _ _ => id)))
  have hbx : (w.alloc (.cells #[.bool false, .slice none 0 0] 34)).heap[w.heap.size]? = some (.cells #[.bool false, .slice none 0 0] 34 (0, 0)) := heap_alloc_new w _
  have Ha := Lib.hid ha
  obtain ⟨w0, hw0⟩ : ∃ w0, w0 = w.alloc (.cells #[.bool false, .slice none 0 0] 34) := ⟨_, rfl⟩
  rw [← hw0] at Hd Ha hbx
  have hblt : w.heap.size < w0.heap.size := by rw [hw0, World.size_alloc]; omega
  have Hbx := Lib.hid hbx
  clear h ha hbx
  go_enter Try.func22, Try.ntmps22
  go_wp2_with fail
  rw [← hw0]
  refine Hd.out.mono ?_
  rintro e w2 ⟨x, rfl, hx⟩
  have hl := hx.ct.vals.len
  have hc := (good_cont xs).count
  have Hg := Lib.hid (mget_ok w2 _ x.l hx.rd hx.ct.at_.srt (by omega) k)
  have Hx := Lib.hid hx
  clear hx hw0
  go_wp2_with fail
  refine Hg.out.mono ?_
  rintro e w3 ⟨rfl, hm3⟩
  have hb3 := ((Hx.out.old.trans hm3 (fun _ _ h => h)).block _ hblt id).trans Hbx.out
  have d0 : w3.cell? ⟨w.heap.size, 0, none⟩ = some (.bool false) := by rw [cell_of_row _ _ _ _ _ _ hb3]; rfl
  have d1 : w3.cell? ⟨w.heap.size, 1, none⟩ = some (.slice none 0 0) := by rw [cell_of_row _ _ _ _ _ _ hb3]; rfl
  have f0 : w3.frozen? ⟨w.heap.size, 0, none⟩ = false := frozen_of_block hb3 0
  have f1 : w3.frozen? ⟨w.heap.size, 1, none⟩ = false := frozen_of_block hb3 1
  have fin : ∀ (is : Bool) (v : Value), Mod (fun j => j = w.heap.size) w3 ((w3.setCell ⟨w.heap.size, 0, none⟩ (.bool is)).setCell ⟨w.heap.size, 1, none⟩ v) ∧
      ((w3.setCell ⟨w.heap.size, 0, none⟩ (.bool is)).setCell ⟨w.heap.size, 1, none⟩ v).cell? ⟨w.heap.size, 0, none⟩ = some (.bool is) ∧ ((w3.setCell ⟨w.heap.size, 0, none⟩ (.bool is)).setCell ⟨w.heap.size, 1, none⟩ v).cell? ⟨w.heap.size, 1, none⟩ = some v := by
    intro is v
    have g1 := heap_set hb3 0 (.bool is)
    have g2 := heap_set g1 1 v
    refine ⟨((Mod.refl (fun j => j = w.heap.size) w3).setCell (p := ⟨w.heap.size, 0, none⟩) (fun _ => rfl) _).setCell (p := ⟨w.heap.size, 1, none⟩) (fun _ => rfl) _, ?_, ?_⟩
    · rw [cell_of_row _ _ _ _ _ _ g2]; rfl
    · rw [cell_of_row _ _ _ _ _ _ g2]; rfl
  have Hfin := Lib.hid fin
  have Hv3 := Lib.hid ((Hx.out.ct.vals.keep hm3).get (k := k))
  have Hm3 := Lib.hid (Ha.out.trans (Hx.out.old.trans hm3 (fun _ _ h => h)) (fun _ _ h => h))
  clear fin hm3 hb3
  rcases Hv3.out with ⟨e1, e2⟩ | ⟨v, ys, e1, e2, hsl, hty⟩
  · rw [e1, show gotV (none : Option Sv) = .tuple #[.slice none 0 0, .bool false] from rfl]
    have He2 := Lib.hid e2
    clear e1 e2
    go_wp2
    obtain ⟨hmf, r0, r1⟩ := Hfin.out false (.slice none 0 0)
    refine bodyPost_ret (v := .agg #[.bool false, .slice none 0 0]) (by simp [results, Try.results22, go_sem, r0, r1]) rfl ?_
    rw [He2.out]
    exact ⟨none, 0, 0, rfl, Sl.none_ _ _ _, fun k e _ => by simp [blkOf] at e, Hm3.out.trans hmf (fun j hj e => by omega)⟩
  · rw [e1, show gotV (some v) = .tuple #[.slice v.a v.n v.c, .bool true] from rfl]
    have He2 := Lib.hid e2
    have Hsl := Lib.hid hsl
    have Hty := Lib.hid hty
    clear e1 e2 hsl hty
    go_wp2
    obtain ⟨hmf, r0, r1⟩ := Hfin.out true (.slice v.a v.n v.c)
    refine bodyPost_ret (v := .agg #[.bool true, .slice v.a v.n v.c]) (by simp [results, Try.results22, go_sem, r0, r1]) rfl ?_
    rw [He2.out]
    have hlo : ∀ k, blkOf v.a = some k → 0 < v.n → w0.heap.size ≤ k := fun k e hn => (Hty.out k e hn).1
    exact ⟨v.a, v.n, v.c, rfl, Hsl.out.mod hmf (fun j e hn e' => by have := hlo j e hn; omega), fun k e hn => by have := hlo k e hn; omega, Hm3.out.trans hmf (fun j hj e => by omega)⟩
end Go.Proofs.Ytgeodpflaebbgaa
