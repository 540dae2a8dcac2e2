/-
  The chapter's example (awake); an answer of Decode, and of Encode, in one form.
-/
import Derived.Test.YtmgimilcnjlpeaaDecR4
import Derived.Test.YtmgimilcnjlpeaaRMath2
import Derived.Test.YtmgimilcnjlpeaaRefS
namespace Go.Proofs.Ytmgimilcnjlpeaa
open Go Go.RowKit

def exD : RcD := ⟨6, fun i => if i = 3 then 1 else if i = 5 then 2 else if i = 6 then 3 else if i = 9 then 258 else 0, VlD.none, VlD.none⟩
theorem exD_may : mayB exD = true := by kernel_rfl
theorem exD_enc : encB exD = [6, 1, 2, 3, 2, 1, 0, 0] := by kernel_rfl

/-- Bytes in a block of their own. -/
theorem Sl.of_block {w : World} {q : Nat} {xs : List UInt8} (h : w.heap[q]? = some (.cells (xs.map bv).toArray 5 (0, 0))) : Sl w (some ⟨q, 0, none⟩) xs.length xs.length xs := Sl.lit xs h

set_option maxRecDepth 100000 in
set_option maxHeartbeats 2000000 in
theorem awake_ok (w : World) :
    Calls Try.prog 9 #[] w fun e w' => e = .returned (.bool true) ∧ Mod (fun _ => False) w w' := by
  have hc : Calls Try.prog 11 #[.agg #[.int .i64 6, .int .i64 0, .int .i64 0, .int .i64 1, .int .i64 0, .int .i64 2, .int .i64 3, .int .i64 0, .int .i64 0, .int .i64 258, .bool false, .slice none 0 0, .bool false, .slice none 0 0]] w fun e w' => ∃ q, e = .returned (.tuple #[.slice (some ⟨q, 0, none⟩) (encB exD).length (encB exD).length, .int .i64 0]) ∧
      w'.heap[q]? = some (.cells ((encB exD).map bv).toArray 5 (0, 0)) ∧ w.heap.size ≤ q ∧ Mod (fun _ => False) w w' := encode_yes w exD ⟨VlD.none_at w, VlD.none_at w⟩ exD_may
  rw [exD_enc] at hc
  have Hc := Lib.hid hc
  obtain ⟨r, hr1, hr2⟩ := dec_enc (w := w) (x := exD) ⟨VlD.none_at w, VlD.none_at w⟩ exD_may
  rw [exD_enc] at hr1
  have Hr1 := Lib.hid hr1
  have H6 : Hid (r.f 6 = 3) := hr2.f 6 (by omega) (by omega)
  have H9 : Hid (r.f 9 = 258) := hr2.f 9 (by omega) (by omega)
  clear hc hr1 hr2
  go_enter Try.func9, Try.ntmps9
  go_wp2_with fail
  refine Hc.out.mono ?_
  rintro e w1 ⟨q, rfl, hq, _, hm1⟩
  have hsl := Sl.of_block hq
  have Hd := Lib.hid (decode_ok w1 _ _ _ _ hsl (by simp))
  have Hsl := Lib.hid hsl
  have Hm1 := Lib.hid hm1
  clear hsl hq hm1 Hc
  simp only [List.length_cons, List.length_nil, Nat.reduceAdd] at *
  go_wp2_with fail
  refine Hd.out.mono ?_
  rintro e w2 ⟨⟨y, rfl, hy1, hy2, hy3⟩, hm2⟩
  rw [Hr1.out] at hy1
  rw [Hr1.out]
  have hf6 : y.f 6 = 3 := by have := congrArg (fun z : Rc => z.f 6) hy1; exact this.trans H6.out
  have hf9 : y.f 9 = 258 := by have := congrArg (fun z : Rc => z.f 9) hy1; exact this.trans H9.out
  have Hm2 := Lib.hid (Hm1.out.trans hm2 (fun _ _ h => h))
  have Hsl2 := Lib.hid (Hsl.out.mod hm2 (fun _ _ _ => id))
  clear hy1 hy2 hy3 hm2 Hd Hsl Hm1
  obtain ⟨cs, hcs⟩ : ∃ cs : Array Value, cs = #[.int .i64 y.k, .int .i64 (y.f 1), .int .i64 (y.f 2), .int .i64 (y.f 3), .int .i64 (y.f 4), .int .i64 (y.f 5), .int .i64 3, .int .i64 (y.f 7), .int .i64 (y.f 8), .int .i64 258, .bool y.o.is, .slice y.o.B y.o.m y.o.d, .bool y.v.is, .slice y.v.B y.v.m y.v.d] := ⟨_, rfl⟩
  obtain ⟨w4, hw4⟩ : ∃ w4, (w2.alloc (.cells #[.int .i64 y.k, .int .i64 (y.f 1), .int .i64 (y.f 2), .int .i64 (y.f 3), .int .i64 (y.f 4), .int .i64 (y.f 5), .int .i64 3, .int .i64 (y.f 7), .int .i64 (y.f 8), .int .i64 258, .bool y.o.is, .slice y.o.B y.o.m y.o.d, .bool y.v.is, .slice y.v.B y.v.m y.v.d] 26)).alloc
      (.cells #[.int .u8 6, .int .u8 1, .int .u8 2, .int .u8 3, .int .u8 2, .int .u8 1, .int .u8 0, .int .u8 0] 5) = w4 := ⟨_, rfl⟩
  have hm4 : Mod (fun _ => False) w2 w4 := by rw [← hw4]; exact ((Mod.refl _ w2).alloc _).alloc _
  have hb4 : w4.heap[w2.heap.size]? = some (.cells cs 26 (0, 0)) := by
    rw [← hw4, hcs]
    exact (Below.heap_alloc _ _ _ (by rw [World.size_alloc]; omega)).trans (heap_alloc_new w2 _)
  have hl4 : w4.heap[w2.heap.size + 1]? = some (.cells (([6, 1, 2, 3, 2, 1, 0, 0] : List UInt8).map bv).toArray 5 (0, 0)) := by
    rw [← hw4]
    have := heap_alloc_new (w2.alloc (.cells #[.int .i64 y.k, .int .i64 (y.f 1), .int .i64 (y.f 2), .int .i64 (y.f 3), .int .i64 (y.f 4), .int .i64 (y.f 5), .int .i64 3, .int .i64 (y.f 7), .int .i64 (y.f 8), .int .i64 258, .bool y.o.is, .slice y.o.B y.o.m y.o.d, .bool y.v.is, .slice y.v.B y.v.m y.v.d] 26)) (.cells (([6, 1, 2, 3, 2, 1, 0, 0] : List UInt8).map bv).toArray 5)
    rw [World.size_alloc] at this
    exact this
  have Hsame := Lib.hid (same_ok w4 _ _ _ _ _ _ _ _ (Hsl2.out.mod hm4 (fun _ _ _ => id)) (Sl.of_block hl4) (by simp) (by simp))
  have c6 : w4.cell? ⟨w2.heap.size, 6, none⟩ = some (.int .i64 3) := by rw [cell_of_row _ _ _ _ _ _ hb4, hcs]; rfl
  have c9 : w4.cell? ⟨w2.heap.size, 9, none⟩ = some (.int .i64 258) := by rw [cell_of_row _ _ _ _ _ _ hb4, hcs]; rfl
  have Hm4 := Lib.hid (Hm2.out.trans hm4 (fun _ _ h => h))
  have Hw4 := Lib.hid hw4
  clear hm4 hb4 hl4 hcs hw4 Hm2 Hsl2
  go_wp2_with fail
  rw [Hw4.out]
  clear Hw4
  refine Hsame.out.mono ?_
  rintro e w5 ⟨rfl, p, rfl⟩
  rw [eqB_self]
  have d6 : (w4.drewN p).cell? ⟨w2.heap.size, 6, none⟩ = some (.int .i64 3) := c6
  have d9 : (w4.drewN p).cell? ⟨w2.heap.size, 9, none⟩ = some (.int .i64 258) := c9
  have Hm5 := Lib.hid (Hm4.out.drewN p)
  clear c6 c9 Hsame Hm4 hf6 hf9
  generalize w4.drewN p = w5 at *
  go_wp2
  go_ret
  exact ⟨rfl, Hm5.out⟩
end Go.Proofs.Ytmgimilcnjlpeaa
