/-
  The walk of bobbinlaw06.RecBack.
-/
import Derived.Test.YtmgimilcnjlpeaaLaws0
namespace Go.Proofs.Ytmgimilcnjlpeaa
open Go Go.RowKit

set_option maxRecDepth 100000 in
set_option maxHeartbeats 4000000 in
theorem recback_walk (W : World) (x : RcD) (hx : x.At W) :
    Calls Try.prog 5 #[x.val] W fun e w' => e = .returned (.bool true) ∧ Below W.heap.size W w' := by
  obtain ⟨w1, hw1⟩ : ∃ w1, W.alloc (.cells x.cells 26) = w1 := ⟨_, rfl⟩
  have hm1 : Mod (fun _ => False) W w1 := by rw [← hw1]; exact (Mod.refl _ W).alloc _
  have hI1 : x.In w1 W.heap.size := by rw [← hw1]; exact RcD.In.new W x
  have Hw := Lib.hid (awake_ok w1)
  have Hm1 := Lib.hid hm1
  have HI1 := Lib.hid hI1
  have Hx := Lib.hid hx
  have Hw1 := Lib.hid hw1
  clear hm1 hI1 hx hw1
  go_enter Try.func5, Try.ntmps5
  go_wp2_with fail
  rw [show (W.alloc (.cells x.cells 26)) = w1 from Hw1.out]
  clear Hw1
  refine Hw.out.mono ?_
  rintro e w2 ⟨rfl, hm2⟩
  have HI2 := Lib.hid (HI1.out.keep hm2)
  have Hm2 := Lib.hid (Hm1.out.trans hm2 (fun _ _ h => h))
  have Hl := Lib.hid (rlight_ok w2 x)
  have p0 := HI2.out.kind
  have p1 := HI2.out.num (i := 1) (by omega) (by omega)
  have p2 := HI2.out.num (i := 2) (by omega) (by omega)
  have p3 := HI2.out.num (i := 3) (by omega) (by omega)
  have p4 := HI2.out.num (i := 4) (by omega) (by omega)
  have p5 := HI2.out.num (i := 5) (by omega) (by omega)
  have p6 := HI2.out.num (i := 6) (by omega) (by omega)
  have p7 := HI2.out.num (i := 7) (by omega) (by omega)
  have p8 := HI2.out.num (i := 8) (by omega) (by omega)
  have p9 := HI2.out.num (i := 9) (by omega) (by omega)
  have p10 := HI2.out.c10
  have p11 := HI2.out.c11
  have p12 := HI2.out.c12
  have p13 := HI2.out.c13
  clear hm2 Hw HI1 Hm1
  go_wp2_with fail
  refine Hl.out.mono ?_
  rintro e w3 ⟨rfl, hm3⟩
  have HI3 := Lib.hid (HI2.out.keep hm3)
  have Hm3 := Lib.hid (Hm2.out.trans hm3 (fun _ _ h => h))
  clear hm3 Hl HI2 Hm2 p0 p1 p2 p3 p4 p5 p6 p7 p8 p9 p10 p11 p12 p13
  cases hlt : (decide ((x.o.m : Int) ≤ 200) && decide ((x.v.m : Int) ≤ 200)) with
  | false =>
    clear hlt
    go_wp2
    go_ret
    exact ⟨rfl, Hm3.out.end_⟩
  | true =>
  have Hlt : Hid (x.o.m ≤ 200 ∧ x.v.m ≤ 200) := by simp at hlt; exact ⟨by omega, by omega⟩
  clear hlt
  have p0 := HI3.out.kind
  have p1 := HI3.out.num (i := 1) (by omega) (by omega)
  have p2 := HI3.out.num (i := 2) (by omega) (by omega)
  have p3 := HI3.out.num (i := 3) (by omega) (by omega)
  have p4 := HI3.out.num (i := 4) (by omega) (by omega)
  have p5 := HI3.out.num (i := 5) (by omega) (by omega)
  have p6 := HI3.out.num (i := 6) (by omega) (by omega)
  have p7 := HI3.out.num (i := 7) (by omega) (by omega)
  have p8 := HI3.out.num (i := 8) (by omega) (by omega)
  have p9 := HI3.out.num (i := 9) (by omega) (by omega)
  have p10 := HI3.out.c10
  have p11 := HI3.out.c11
  have p12 := HI3.out.c12
  have p13 := HI3.out.c13
  cases hmay : mayB x with
  | false =>
    have Hc := Lib.hid (encode_no w3 x hmay)
    have Hmay := Lib.hid hmay
    clear hmay
    go_wp2_with fail
    refine Hc.out.mono ?_
    rintro e w4 ⟨rfl, hm4⟩
    have HI4 := Lib.hid (HI3.out.keep hm4)
    have Hm4 := Lib.hid (Hm3.out.trans hm4 (fun _ _ h => h))
    clear hm4 Hc HI3 Hm3 p0 p1 p2 p3 p4 p5 p6 p7 p8 p9 p10 p11 p12 p13
    have p0 := HI4.out.kind
    have p1 := HI4.out.num (i := 1) (by omega) (by omega)
    have p2 := HI4.out.num (i := 2) (by omega) (by omega)
    have p3 := HI4.out.num (i := 3) (by omega) (by omega)
    have p4 := HI4.out.num (i := 4) (by omega) (by omega)
    have p5 := HI4.out.num (i := 5) (by omega) (by omega)
    have p6 := HI4.out.num (i := 6) (by omega) (by omega)
    have p7 := HI4.out.num (i := 7) (by omega) (by omega)
    have p8 := HI4.out.num (i := 8) (by omega) (by omega)
    have p9 := HI4.out.num (i := 9) (by omega) (by omega)
    have p10 := HI4.out.c10
    have p11 := HI4.out.c11
    have p12 := HI4.out.c12
    have p13 := HI4.out.c13
    have hq := may_ok w4 x
    rw [Hmay.out] at hq
    have Hq := Lib.hid hq
    clear hq
    go_wp2_with fail
    refine Hq.out.mono ?_
    rintro e w5 ⟨rfl, hm5⟩
    have Hm5 := Lib.hid (Hm4.out.trans hm5 (fun _ _ h => h))
    clear hm5 Hq p0 p1 p2 p3 p4 p5 p6 p7 p8 p9 p10 p11 p12 p13
    go_wp2
    go_ret
    exact ⟨rfl, Hm5.out.end_⟩
  | true =>
    have hx3 := Hx.out.keep Hm3.out
    have Hc := Lib.hid (encode_yes w3 x hx3 hmay)
    obtain ⟨r, hr1, hr2⟩ := dec_enc hx3 hmay
    have hsz := (encB_size hx3 hmay).2
    have Hsz := Lib.hid hsz
    have Hr1 := Lib.hid hr1
    have Hr2 := Lib.hid hr2
    clear hmay hr1 hr2 hx3 hsz
    go_wp2_with fail
    refine Hc.out.mono ?_
    rintro e w4 ⟨q, rfl, hq, _, hm4⟩
    have Hd := Lib.hid (decode_ok w4 _ _ _ _ (Sl.of_block hq) (by have := Hsz.out; omega))
    have HI4 := Lib.hid (HI3.out.keep hm4)
    have Hm4 := Lib.hid (Hm3.out.trans hm4 (fun _ _ h => h))
    clear hm4 Hc HI3 Hm3 hq p0 p1 p2 p3 p4 p5 p6 p7 p8 p9 p10 p11 p12 p13
    obtain ⟨n, hn⟩ : ∃ n, (encB x).length = n := ⟨_, rfl⟩
    rw [hn] at Hsz
    rw [hn] at Hd ⊢
    have hn75 : (n : Int) ≤ 75 := by have := Hsz.out; omega
    clear hn
    go_wp2_with fail
    refine Hd.out.mono ?_
    rintro e w5 ⟨⟨y, rfl, hy1, hy2, hy3⟩, hm5⟩
    rw [Hr1.out] at hy1
    rw [Hr1.out]
    have hyA : y.At w5 := ⟨hy2.at_, hy3.at_⟩
    have hm6 : Mod (fun _ => False) w5 (w5.alloc (.cells y.cells 26)) := (Mod.refl _ w5).alloc _
    have hm46 := hm5.trans hm6 (fun _ _ h => h)
    have Hm6 := Lib.hid (Hm4.out.trans hm46 (fun _ _ h => h))
    have hsr := sameR_req Hr2.out hy1
    have e1 : x.o.p = y.o.p := Hr2.out.o.symm.trans (congrArg (fun z : Rc => z.o) hy1).symm
    have e2 : x.v.p = y.v.p := Hr2.out.v.symm.trans (congrArg (fun z : Rc => z.v) hy1).symm
    have hb1 := At.len Hx.out.1 hyA.1 e1
    have hb2 := At.len Hx.out.2 hyA.2 e2
    have hlt := Hlt.out
    have hs := rsame_ok (w5.alloc (.cells y.cells 26)) x y (Hx.out.keep Hm6.out) (hyA.keep hm6) (by omega) (by omega) (by omega) (by omega)
    rw [show (sameN x y && (sameV x.o y.o && sameV x.v y.v && (x.k == y.k))) = true from hsr] at hs
    have Hs := Lib.hid hs
    have HI6 := Lib.hid (HI4.out.keep hm46)
    have HY6 : Hid (y.In (w5.alloc (.cells y.cells 26)) w5.heap.size) := RcD.In.new w5 y
    obtain ⟨w6, hw6⟩ : ∃ w6, w5.alloc (.cells y.cells 26) = w6 := ⟨_, rfl⟩
    rw [hw6] at Hs HI6 HY6 Hm6
    have p0 := HI6.out.kind
    have p1 := HI6.out.num (i := 1) (by omega) (by omega)
    have p2 := HI6.out.num (i := 2) (by omega) (by omega)
    have p3 := HI6.out.num (i := 3) (by omega) (by omega)
    have p4 := HI6.out.num (i := 4) (by omega) (by omega)
    have p5 := HI6.out.num (i := 5) (by omega) (by omega)
    have p6 := HI6.out.num (i := 6) (by omega) (by omega)
    have p7 := HI6.out.num (i := 7) (by omega) (by omega)
    have p8 := HI6.out.num (i := 8) (by omega) (by omega)
    have p9 := HI6.out.num (i := 9) (by omega) (by omega)
    have p10 := HI6.out.c10
    have p11 := HI6.out.c11
    have p12 := HI6.out.c12
    have p13 := HI6.out.c13
    have q0 := HY6.out.kind
    have q1 := HY6.out.num (i := 1) (by omega) (by omega)
    have q2 := HY6.out.num (i := 2) (by omega) (by omega)
    have q3 := HY6.out.num (i := 3) (by omega) (by omega)
    have q4 := HY6.out.num (i := 4) (by omega) (by omega)
    have q5 := HY6.out.num (i := 5) (by omega) (by omega)
    have q6 := HY6.out.num (i := 6) (by omega) (by omega)
    have q7 := HY6.out.num (i := 7) (by omega) (by omega)
    have q8 := HY6.out.num (i := 8) (by omega) (by omega)
    have q9 := HY6.out.num (i := 9) (by omega) (by omega)
    have q10 := HY6.out.c10
    have q11 := HY6.out.c11
    have q12 := HY6.out.c12
    have q13 := HY6.out.c13
    clear hy1 hy2 hy3 hm5 hm6 hm46 hsr e1 e2 hb1 hb2 hlt hs hyA Hd HI4 Hm4 Hr1 Hr2 Hlt Hx
    dsimp only
    go_wp2_with fail
    clear hw6
    refine Hs.out.mono ?_
    rintro e w7 ⟨rfl, hm7⟩
    have Hm7 := Lib.hid (Hm6.out.trans hm7 (fun _ _ h => h))
    clear hm7 Hs p0 p1 p2 p3 p4 p5 p6 p7 p8 p9 p10 p11 p12 p13 q0 q1 q2 q3 q4 q5 q6 q7 q8 q9 q10 q11 q12 q13
    go_wp2
    go_ret
    exact ⟨rfl, Hm7.out.end_⟩
end Go.Proofs.Ytmgimilcnjlpeaa
