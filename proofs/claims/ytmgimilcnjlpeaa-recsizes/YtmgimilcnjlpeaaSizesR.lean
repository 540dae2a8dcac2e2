/-
  The walk of bobbinlaw06.RecSizes.
-/
import Derived.Test.YtmgimilcnjlpeaaLaws0
namespace Go.Proofs.Ytmgimilcnjlpeaa
open Go Go.RowKit

set_option maxRecDepth 100000 in
set_option maxHeartbeats 4000000 in
theorem recsizes_walk (W : World) (x : RcD) (hx : x.At W) :
    Calls Try.prog 7 #[x.val] W fun e w' => e = .returned (.bool true) ∧ Below W.heap.size W w' := by
  obtain ⟨w1, hw1⟩ : ∃ w1, W.alloc (.cells x.cells 26) = w1 := ⟨_, rfl⟩
  have hm1 : Mod (fun _ => False) W w1 := by rw [← hw1]; exact (Mod.refl _ W).alloc _
  have hI1 : x.In w1 W.heap.size := by rw [← hw1]; exact RcD.In.new W x
  have Hw := Lib.hid (awake_ok w1)
  have Hm1 := Lib.hid hm1
  have HI1 := Lib.hid hI1
  have Hx := Lib.hid hx
  have Hw1 := Lib.hid hw1
  clear hm1 hI1 hx hw1
  go_enter Try.func7, Try.ntmps7
  go_wp2_with fail
  rw [show (W.alloc (.cells x.cells 26)) = w1 from Hw1.out]
  clear Hw1
  refine Hw.out.mono ?_
  rintro e w2 ⟨rfl, hm2⟩
  have HI2 := Lib.hid (HI1.out.keep hm2)
  have Hm2 := Lib.hid (Hm1.out.trans hm2 (fun _ _ h => h))
  have Hl := Lib.hid (rlight_ok w2 x)
  have p0 := HI2.out.kind
  have p1 := HI2.out.num (i := 1) (by omega) (by omega)
  have p2 := HI2.out.num (i := 2) (by omega) (by omega)
  have p3 := HI2.out.num (i := 3) (by omega) (by omega)
  have p4 := HI2.out.num (i := 4) (by omega) (by omega)
  have p5 := HI2.out.num (i := 5) (by omega) (by omega)
  have p6 := HI2.out.num (i := 6) (by omega) (by omega)
  have p7 := HI2.out.num (i := 7) (by omega) (by omega)
  have p8 := HI2.out.num (i := 8) (by omega) (by omega)
  have p9 := HI2.out.num (i := 9) (by omega) (by omega)
  have p10 := HI2.out.c10
  have p11 := HI2.out.c11
  have p12 := HI2.out.c12
  have p13 := HI2.out.c13
  clear hm2 Hw HI1 Hm1
  go_wp2_with fail
  refine Hl.out.mono ?_
  rintro e w3 ⟨rfl, hm3⟩
  have HI3 := Lib.hid (HI2.out.keep hm3)
  have Hm3 := Lib.hid (Hm2.out.trans hm3 (fun _ _ h => h))
  clear hm3 Hl HI2 Hm2 p0 p1 p2 p3 p4 p5 p6 p7 p8 p9 p10 p11 p12 p13
  cases hlt : (decide ((x.o.m : Int) ≤ 200) && decide ((x.v.m : Int) ≤ 200)) with
  | false =>
    clear hlt
    go_wp2
    go_ret
    exact ⟨rfl, Hm3.out.end_⟩
  | true =>
  have Hlt : Hid (x.o.m ≤ 200 ∧ x.v.m ≤ 200) := by simp at hlt; exact ⟨by omega, by omega⟩
  clear hlt
  have p0 := HI3.out.kind
  have p1 := HI3.out.num (i := 1) (by omega) (by omega)
  have p2 := HI3.out.num (i := 2) (by omega) (by omega)
  have p3 := HI3.out.num (i := 3) (by omega) (by omega)
  have p4 := HI3.out.num (i := 4) (by omega) (by omega)
  have p5 := HI3.out.num (i := 5) (by omega) (by omega)
  have p6 := HI3.out.num (i := 6) (by omega) (by omega)
  have p7 := HI3.out.num (i := 7) (by omega) (by omega)
  have p8 := HI3.out.num (i := 8) (by omega) (by omega)
  have p9 := HI3.out.num (i := 9) (by omega) (by omega)
  have p10 := HI3.out.c10
  have p11 := HI3.out.c11
  have p12 := HI3.out.c12
  have p13 := HI3.out.c13
  cases hmay : mayB x with
  | false =>
    have Hc := Lib.hid (encode_no w3 x hmay)
    clear hmay
    go_wp2_with fail
    refine Hc.out.mono ?_
    rintro e w4 ⟨rfl, hm4⟩
    have Hm4 := Lib.hid (Hm3.out.trans hm4 (fun _ _ h => h))
    clear hm4 Hc HI3 Hm3 p0 p1 p2 p3 p4 p5 p6 p7 p8 p9 p10 p11 p12 p13
    go_wp2
    go_ret
    exact ⟨rfl, Hm4.out.end_⟩
  | true =>
    have hx3 := Hx.out.keep Hm3.out
    have Hc := Lib.hid (encode_yes w3 x hx3 hmay)
    have Hsz := Lib.hid (encB_size hx3 hmay).1
    obtain ⟨ys, hys⟩ := encB_head hmay
    have Hys := Lib.hid hys
    obtain ⟨fl, hfl, _⟩ := mayB_kind hmay
    have hk := fields_kind' hfl
    have Hk := Lib.hid hk
    clear hmay hx3 hys hfl hk
    go_wp2_with fail
    refine Hc.out.mono ?_
    rintro e w4 ⟨q, rfl, hq, _, hm4⟩
    have HI4 := Lib.hid (HI3.out.keep hm4)
    have Hm4 := Lib.hid (Hm3.out.trans hm4 (fun _ _ h => h))
    have Hq0 : Hid (w4.cell? ⟨q, 0, none⟩ = some (bv (UInt8.ofNat x.k.toNat))) := by
      show _ = _
      rw [cell_of_row _ _ _ _ _ _ hq, Hys.out]
      rfl
    clear hm4 Hc HI3 Hm3 hq p0 p1 p2 p3 p4 p5 p6 p7 p8 p9 p10 p11 p12 p13
    obtain ⟨n, hn⟩ : ∃ n, (encB x).length = n := ⟨_, rfl⟩
    rw [hn] at Hsz
    rw [hn]
    have hl1 : (x.o.m : Int) ≤ 200 := by have := Hlt.out; omega
    have hl2 : (x.v.m : Int) ≤ 200 := by have := Hlt.out; omega
    have c11 := HI4.out.c11
    have c13 := HI4.out.c13
    have c0 := HI4.out.kind
    have q0 := Hq0.out
    have hlt4 := HI4.out.lt
    have hltq : q < w4.heap.size := World.block_lt_of_cell? w4 _ q0
    clear hn
    rcases Hk.out with hk | hk | hk | hk | hk | hk | hk | hk | hk | hk | hk
    · rw [hk] at c0 q0 Hsz
      have q1 : w4.cell? ⟨q, 0, none⟩ = some (.int .u8 1) := q0
      obtain rfl : n = 11 + x.o.m + x.v.m := Hsz.out
      clear hk q0 Hsz
      go_wp2_with fail
      go_quiet (fail)
      go_wp2
      go_ret
      exact ⟨rfl, ((Hm4.out.alloc _).drewN _).end_⟩
    · rw [hk] at c0 q0 Hsz
      have q1 : w4.cell? ⟨q, 0, none⟩ = some (.int .u8 2) := q0
      obtain rfl : n = 10 + x.v.m := Hsz.out
      clear hk q0 Hsz
      go_wp2_with fail
      go_quiet (fail)
      go_wp2
      go_ret
      exact ⟨rfl, ((Hm4.out.alloc _).drewN _).end_⟩
    · rw [hk] at c0 q0 Hsz
      have q1 : w4.cell? ⟨q, 0, none⟩ = some (.int .u8 3) := q0
      obtain rfl : n = 2 := Hsz.out
      clear hk q0 Hsz
      go_wp2_with fail
      go_quiet (fail)
      go_wp2
      go_ret
      exact ⟨rfl, ((Hm4.out.alloc _).drewN _).end_⟩
    · rw [hk] at c0 q0 Hsz
      have q1 : w4.cell? ⟨q, 0, none⟩ = some (.int .u8 4) := q0
      obtain rfl : n = 2 := Hsz.out
      clear hk q0 Hsz
      go_wp2_with fail
      go_quiet (fail)
      go_wp2
      go_ret
      exact ⟨rfl, ((Hm4.out.alloc _).drewN _).end_⟩
    · rw [hk] at c0 q0 Hsz
      have q1 : w4.cell? ⟨q, 0, none⟩ = some (.int .u8 5) := q0
      obtain rfl : n = 2 := Hsz.out
      clear hk q0 Hsz
      go_wp2_with fail
      go_quiet (fail)
      go_wp2
      go_ret
      exact ⟨rfl, ((Hm4.out.alloc _).drewN _).end_⟩
    · rw [hk] at c0 q0 Hsz
      have q1 : w4.cell? ⟨q, 0, none⟩ = some (.int .u8 6) := q0
      obtain rfl : n = 8 := Hsz.out
      clear hk q0 Hsz
      go_wp2_with fail
      go_quiet (fail)
      go_wp2
      go_ret
      exact ⟨rfl, ((Hm4.out.alloc _).drewN _).end_⟩
    · rw [hk] at c0 q0 Hsz
      have q1 : w4.cell? ⟨q, 0, none⟩ = some (.int .u8 7) := q0
      obtain rfl : n = 1 := Hsz.out
      clear hk q0 Hsz
      go_wp2_with fail
      go_quiet (fail)
      go_wp2
      go_ret
      exact ⟨rfl, ((Hm4.out.alloc _).drewN _).end_⟩
    · rw [hk] at c0 q0 Hsz
      have q1 : w4.cell? ⟨q, 0, none⟩ = some (.int .u8 8) := q0
      obtain rfl : n = 11 := Hsz.out
      clear hk q0 Hsz
      go_wp2_with fail
      go_quiet (fail)
      go_wp2
      go_ret
      exact ⟨rfl, ((Hm4.out.alloc _).drewN _).end_⟩
    · rw [hk] at c0 q0 Hsz
      have q1 : w4.cell? ⟨q, 0, none⟩ = some (.int .u8 9) := q0
      obtain rfl : n = 6 := Hsz.out
      clear hk q0 Hsz
      go_wp2_with fail
      go_quiet (fail)
      go_wp2
      go_ret
      exact ⟨rfl, ((Hm4.out.alloc _).drewN _).end_⟩
    · rw [hk] at c0 q0 Hsz
      have q1 : w4.cell? ⟨q, 0, none⟩ = some (.int .u8 10) := q0
      obtain rfl : n = 8 := Hsz.out
      clear hk q0 Hsz
      go_wp2_with fail
      go_quiet (fail)
      go_wp2
      go_ret
      exact ⟨rfl, ((Hm4.out.alloc _).drewN _).end_⟩
    · rw [hk] at c0 q0 Hsz
      have q1 : w4.cell? ⟨q, 0, none⟩ = some (.int .u8 11) := q0
      obtain rfl : n = 5 := Hsz.out
      clear hk q0 Hsz
      go_wp2_with fail
      go_quiet (fail)
      go_wp2
      go_ret
      exact ⟨rfl, ((Hm4.out.alloc _).drewN _).end_⟩
end Go.Proofs.Ytmgimilcnjlpeaa
