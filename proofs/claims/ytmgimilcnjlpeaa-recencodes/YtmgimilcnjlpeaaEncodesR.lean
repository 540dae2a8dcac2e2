/-
  The walk of bobbinlaw06.RecEncodes.
-/
import Derived.Test.YtmgimilcnjlpeaaLaws0
import Derived.Test.YtmgimilcnjlpeaaRefE
namespace Go.Proofs.Ytmgimilcnjlpeaa
open Go Go.RowKit

set_option maxRecDepth 100000 in
set_option maxHeartbeats 4000000 in
theorem recencodes_walk (w : World) (x : RcD) (hx : x.At w) :
    Calls Try.prog 3 #[x.val] w fun e w' => e = .returned (.bool true) ∧ Below w.heap.size w w' := by
  obtain ⟨w1, hw1⟩ : ∃ w1, w.alloc (.cells x.cells 26) = w1 := ⟨_, rfl⟩
  have hm1 : Mod (fun _ => False) w w1 := by rw [← hw1]; exact (Mod.refl _ w).alloc _
  have hI1 : x.In w1 w.heap.size := by rw [← hw1]; exact RcD.In.new w x
  have Hw := Lib.hid (awake_ok w1)
  have Hm1 := Lib.hid hm1
  have HI1 := Lib.hid hI1
  have Hx := Lib.hid hx
  have Hw1 := Lib.hid hw1
  clear hm1 hI1 hx hw1
  go_enter Try.func3, Try.ntmps3
  go_wp2_with fail
  rw [show (w.alloc (.cells x.cells 26)) = w1 from Hw1.out]
  clear Hw1
  refine Hw.out.mono ?_
  rintro e w2 ⟨rfl, hm2⟩
  have HI2 := Lib.hid (HI1.out.keep hm2)
  have Hm2 := Lib.hid (Hm1.out.trans hm2 (fun _ _ h => h))
  have Hl := Lib.hid (rlight_ok w2 x)
  have p0 := HI2.out.kind
  have p1 := HI2.out.num (i := 1) (by omega) (by omega)
  have p2 := HI2.out.num (i := 2) (by omega) (by omega)
  have p3 := HI2.out.num (i := 3) (by omega) (by omega)
  have p4 := HI2.out.num (i := 4) (by omega) (by omega)
  have p5 := HI2.out.num (i := 5) (by omega) (by omega)
  have p6 := HI2.out.num (i := 6) (by omega) (by omega)
  have p7 := HI2.out.num (i := 7) (by omega) (by omega)
  have p8 := HI2.out.num (i := 8) (by omega) (by omega)
  have p9 := HI2.out.num (i := 9) (by omega) (by omega)
  have p10 := HI2.out.c10
  have p11 := HI2.out.c11
  have p12 := HI2.out.c12
  have p13 := HI2.out.c13
  clear hm2 Hw HI1 Hm1
  go_wp2_with fail
  refine Hl.out.mono ?_
  rintro e w3 ⟨rfl, hm3⟩
  have HI3 := Lib.hid (HI2.out.keep hm3)
  have Hm3 := Lib.hid (Hm2.out.trans hm3 (fun _ _ h => h))
  clear hm3 Hl HI2 Hm2 p0 p1 p2 p3 p4 p5 p6 p7 p8 p9 p10 p11 p12 p13
  cases hlt : (decide ((x.o.m : Int) ≤ 200) && decide ((x.v.m : Int) ≤ 200)) with
  | false =>
    clear hlt
    go_wp2
    go_ret
    exact ⟨rfl, Hm3.out.end_⟩
  | true =>
  clear hlt
  have p0 := HI3.out.kind
  have p1 := HI3.out.num (i := 1) (by omega) (by omega)
  have p2 := HI3.out.num (i := 2) (by omega) (by omega)
  have p3 := HI3.out.num (i := 3) (by omega) (by omega)
  have p4 := HI3.out.num (i := 4) (by omega) (by omega)
  have p5 := HI3.out.num (i := 5) (by omega) (by omega)
  have p6 := HI3.out.num (i := 6) (by omega) (by omega)
  have p7 := HI3.out.num (i := 7) (by omega) (by omega)
  have p8 := HI3.out.num (i := 8) (by omega) (by omega)
  have p9 := HI3.out.num (i := 9) (by omega) (by omega)
  have p10 := HI3.out.c10
  have p11 := HI3.out.c11
  have p12 := HI3.out.c12
  have p13 := HI3.out.c13
  cases hmay : mayB x with
  | false =>
    have Hc := Lib.hid (encode_no w3 x hmay)
    have Hmay := Lib.hid hmay
    go_wp2_with fail
    refine Hc.out.mono ?_
    rintro e w4 ⟨rfl, hm4⟩
    have HI4 := Lib.hid (HI3.out.keep hm4)
    have Hm4 := Lib.hid (Hm3.out.trans hm4 (fun _ _ h => h))
    have Hc2 := Lib.hid (rencode_no w4 x hmay)
    clear hm4 Hc HI3 Hm3 p0 p1 p2 p3 p4 p5 p6 p7 p8 p9 p10 p11 p12 p13 hmay
    have p0 := HI4.out.kind
    have p1 := HI4.out.num (i := 1) (by omega) (by omega)
    have p2 := HI4.out.num (i := 2) (by omega) (by omega)
    have p3 := HI4.out.num (i := 3) (by omega) (by omega)
    have p4 := HI4.out.num (i := 4) (by omega) (by omega)
    have p5 := HI4.out.num (i := 5) (by omega) (by omega)
    have p6 := HI4.out.num (i := 6) (by omega) (by omega)
    have p7 := HI4.out.num (i := 7) (by omega) (by omega)
    have p8 := HI4.out.num (i := 8) (by omega) (by omega)
    have p9 := HI4.out.num (i := 9) (by omega) (by omega)
    have p10 := HI4.out.c10
    have p11 := HI4.out.c11
    have p12 := HI4.out.c12
    have p13 := HI4.out.c13
    go_wp2_with fail
    refine Hc2.out.mono ?_
    rintro e w5 ⟨rfl, hm5⟩
    have HI5 := Lib.hid (HI4.out.keep hm5)
    have Hm5 := Lib.hid (Hm4.out.trans hm5 (fun _ _ h => h))
    have hsm := same_ok w5 none none 0 0 0 0 [] [] (Sl.none_ _ _ _) (Sl.none_ _ _ _) (by omega) (by omega)
    rw [eqB_self] at hsm
    have Hsm := Lib.hid hsm
    clear hm5 Hc2 HI4 Hm4 p0 p1 p2 p3 p4 p5 p6 p7 p8 p9 p10 p11 p12 p13 hsm
    go_wp2_with fail
    refine Hsm.out.mono ?_
    rintro e w6 ⟨rfl, q6, rfl⟩
    have hm6 : Mod (fun _ => False) w5 (w5.drewN q6) := (Mod.refl _ w5).drewN q6
    have HI6 := Lib.hid (HI5.out.keep hm6)
    have Hm6 := Lib.hid (Hm5.out.trans hm6 (fun _ _ h => h))
    clear hm6 Hsm HI5 Hm5
    generalize w5.drewN q6 = w6 at *
    have hd6 : Mod (fun _ => False) w6 w6.drew := (Mod.refl _ w6).drew
    have HMA : Hid (∀ W, Mod (fun _ => False) w6 W → Calls Try.prog 14 #[x.val] W fun e w' => e = .returned (.bool false) ∧ Mod (fun _ => False) w6 w') := fun W h => (may_ok W x).mono fun e w' he => ⟨by rw [he.1, Hmay.out], h.trans he.2 (fun _ _ h => h)⟩
    have HMB : Hid (∀ W, Mod (fun _ => False) w6 W → Calls Try.prog 15 #[x.val] W fun e w' => e = .returned (.bool false) ∧ Mod (fun _ => False) w6 w') := fun W h => (rmay_ok W x).mono fun e w' he => ⟨by rw [he.1, Hmay.out], h.trans he.2 (fun _ _ h => h)⟩
    go_wp2
    go_region_held3 (fun w' => w'.cell? ⟨w.heap.size, 0, none⟩ = some (.int .i64 x.k) ∧ w'.cell? ⟨w.heap.size, 1, none⟩ = some (.int .i64 (x.f 1)) ∧ w'.cell? ⟨w.heap.size, 2, none⟩ = some (.int .i64 (x.f 2)) ∧ w'.cell? ⟨w.heap.size, 3, none⟩ = some (.int .i64 (x.f 3)) ∧ w'.cell? ⟨w.heap.size, 4, none⟩ = some (.int .i64 (x.f 4)) ∧ w'.cell? ⟨w.heap.size, 5, none⟩ = some (.int .i64 (x.f 5)) ∧ w'.cell? ⟨w.heap.size, 6, none⟩ = some (.int .i64 (x.f 6)) ∧ w'.cell? ⟨w.heap.size, 7, none⟩ = some (.int .i64 (x.f 7)) ∧ w'.cell? ⟨w.heap.size, 8, none⟩ = some (.int .i64 (x.f 8)) ∧ w'.cell? ⟨w.heap.size, 9, none⟩ = some (.int .i64 (x.f 9)) ∧ w'.cell? ⟨w.heap.size, 10, none⟩ = some (.bool x.o.is) ∧ w'.cell? ⟨w.heap.size, 11, none⟩ = some (.slice x.o.B x.o.m x.o.d) ∧ w'.cell? ⟨w.heap.size, 12, none⟩ = some (.bool x.v.is) ∧ w'.cell? ⟨w.heap.size, 13, none⟩ = some (.slice x.v.B x.v.m x.v.d)) (first | exact (HI6.out.keep hd6).all | exact (HI6.out.keep hmA).all | exact (HI6.out.keep hmB).all) (first | (go_at_call 14; refine (HMA.out _ (by first | exact hd6 | exact hmB)).mono ?_; rintro e wA ⟨rfl, hmA⟩) | (go_at_call 15; refine (HMB.out _ (by first | exact hd6 | exact hmA)).mono ?_; rintro e wB ⟨rfl, hmB⟩))
    all_goals
      go_wp2
      go_ret
      first
        | exact ⟨rfl, (Hm6.out.trans hmA (fun _ _ h => h)).end_⟩
        | exact ⟨rfl, (Hm6.out.trans hmB (fun _ _ h => h)).end_⟩
  | true =>
    have hx3 := Hx.out.keep Hm3.out
    have Hc := Lib.hid (encode_yes w3 x hx3 hmay)
    have Hsz := Lib.hid (encB_size hx3 hmay).2
    have Hmay := Lib.hid hmay
    clear hx3
    go_wp2_with fail
    refine Hc.out.mono ?_
    rintro e w4 ⟨q, rfl, hq, _, hm4⟩
    have HI4 := Lib.hid (HI3.out.keep hm4)
    have Hm4 := Lib.hid (Hm3.out.trans hm4 (fun _ _ h => h))
    have HS4 := Lib.hid (Sl.of_block hq)
    have Hc2 := Lib.hid (rencode_yes w4 x (Hx.out.keep Hm4.out) hmay)
    clear hm4 Hc HI3 Hm3 p0 p1 p2 p3 p4 p5 p6 p7 p8 p9 p10 p11 p12 p13 hmay hq
    have p0 := HI4.out.kind
    have p1 := HI4.out.num (i := 1) (by omega) (by omega)
    have p2 := HI4.out.num (i := 2) (by omega) (by omega)
    have p3 := HI4.out.num (i := 3) (by omega) (by omega)
    have p4 := HI4.out.num (i := 4) (by omega) (by omega)
    have p5 := HI4.out.num (i := 5) (by omega) (by omega)
    have p6 := HI4.out.num (i := 6) (by omega) (by omega)
    have p7 := HI4.out.num (i := 7) (by omega) (by omega)
    have p8 := HI4.out.num (i := 8) (by omega) (by omega)
    have p9 := HI4.out.num (i := 9) (by omega) (by omega)
    have p10 := HI4.out.c10
    have p11 := HI4.out.c11
    have p12 := HI4.out.c12
    have p13 := HI4.out.c13
    obtain ⟨xs, hxs⟩ : ∃ xs, encB x = xs := ⟨_, rfl⟩
    rw [hxs] at Hc2 HS4 Hsz ⊢
    clear hxs
    obtain ⟨n, hn⟩ : ∃ n, xs.length = n := ⟨_, rfl⟩
    rw [hn] at Hc2 HS4 Hsz ⊢
    clear hn
    have hn75 : n ≤ 75 := Hsz.out
    go_wp2_with fail
    refine Hc2.out.mono ?_
    rintro e w5 ⟨A5, c5, rfl, hS5, hm5⟩
    have HI5 := Lib.hid (HI4.out.keep hm5)
    have Hm5 := Lib.hid (Hm4.out.trans hm5 (fun _ _ h => h))
    have hsm := same_ok w5 _ _ _ _ _ _ _ _ (HS4.out.mod hm5 (fun _ _ _ => id)) hS5 (by omega) (by omega)
    rw [eqB_self] at hsm
    have Hsm := Lib.hid hsm
    clear hm5 Hc2 HI4 Hm4 p0 p1 p2 p3 p4 p5 p6 p7 p8 p9 p10 p11 p12 p13 hsm hS5 HS4
    go_wp2_with fail
    refine Hsm.out.mono ?_
    rintro e w6 ⟨rfl, q6, rfl⟩
    have hm6 : Mod (fun _ => False) w5 (w5.drewN q6) := (Mod.refl _ w5).drewN q6
    have HI6 := Lib.hid (HI5.out.keep hm6)
    have Hm6 := Lib.hid (Hm5.out.trans hm6 (fun _ _ h => h))
    clear hm6 Hsm HI5 Hm5
    generalize w5.drewN q6 = w6 at *
    have hd6 : Mod (fun _ => False) w6 w6.drew := (Mod.refl _ w6).drew
    have HMA : Hid (∀ W, Mod (fun _ => False) w6 W → Calls Try.prog 14 #[x.val] W fun e w' => e = .returned (.bool true) ∧ Mod (fun _ => False) w6 w') := fun W h => (may_ok W x).mono fun e w' he => ⟨by rw [he.1, Hmay.out], h.trans he.2 (fun _ _ h => h)⟩
    have HMB : Hid (∀ W, Mod (fun _ => False) w6 W → Calls Try.prog 15 #[x.val] W fun e w' => e = .returned (.bool true) ∧ Mod (fun _ => False) w6 w') := fun W h => (rmay_ok W x).mono fun e w' he => ⟨by rw [he.1, Hmay.out], h.trans he.2 (fun _ _ h => h)⟩
    go_wp2
    go_region_held3 (fun w' => w'.cell? ⟨w.heap.size, 0, none⟩ = some (.int .i64 x.k) ∧ w'.cell? ⟨w.heap.size, 1, none⟩ = some (.int .i64 (x.f 1)) ∧ w'.cell? ⟨w.heap.size, 2, none⟩ = some (.int .i64 (x.f 2)) ∧ w'.cell? ⟨w.heap.size, 3, none⟩ = some (.int .i64 (x.f 3)) ∧ w'.cell? ⟨w.heap.size, 4, none⟩ = some (.int .i64 (x.f 4)) ∧ w'.cell? ⟨w.heap.size, 5, none⟩ = some (.int .i64 (x.f 5)) ∧ w'.cell? ⟨w.heap.size, 6, none⟩ = some (.int .i64 (x.f 6)) ∧ w'.cell? ⟨w.heap.size, 7, none⟩ = some (.int .i64 (x.f 7)) ∧ w'.cell? ⟨w.heap.size, 8, none⟩ = some (.int .i64 (x.f 8)) ∧ w'.cell? ⟨w.heap.size, 9, none⟩ = some (.int .i64 (x.f 9)) ∧ w'.cell? ⟨w.heap.size, 10, none⟩ = some (.bool x.o.is) ∧ w'.cell? ⟨w.heap.size, 11, none⟩ = some (.slice x.o.B x.o.m x.o.d) ∧ w'.cell? ⟨w.heap.size, 12, none⟩ = some (.bool x.v.is) ∧ w'.cell? ⟨w.heap.size, 13, none⟩ = some (.slice x.v.B x.v.m x.v.d)) (first | exact (HI6.out.keep hd6).all | exact (HI6.out.keep hmA).all | exact (HI6.out.keep hmB).all) (first | (go_at_call 14; refine (HMA.out _ (by first | exact hd6 | exact hmB)).mono ?_; rintro e wA ⟨rfl, hmA⟩) | (go_at_call 15; refine (HMB.out _ (by first | exact hd6 | exact hmA)).mono ?_; rintro e wB ⟨rfl, hmB⟩))
    all_goals
      go_wp2
      go_ret
      first
        | exact ⟨rfl, (Hm6.out.trans hmA (fun _ _ h => h)).end_⟩
        | exact ⟨rfl, (Hm6.out.trans hmB (fun _ _ h => h)).end_⟩
end Go.Proofs.Ytmgimilcnjlpeaa
