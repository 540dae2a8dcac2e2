/-
  The walk of bobbinlaw06.RecApart.
-/
import Derived.Test.YtmgimilcnjlpeaaLaws0
namespace Go.Proofs.Ytmgimilcnjlpeaa
open Go Go.RowKit

theorem eqB_iff {xs ys : List UInt8} : eqB xs ys = true ↔ xs = ys := by unfold eqB; simp
theorem sameV_iff {x y : VlD} : sameV x y = true → x.p = y.p := by
  unfold sameV
  intro h
  rw [Bool.and_eq_true, eqB_iff] at h
  have h2 : x.is = y.is := by simpa using h.2
  unfold VlD.p
  rw [h.1, h2]
theorem sameR_all {x y : RcD} (h : sameR x y = true) : x.k = y.k ∧ (∀ i, 1 ≤ i → i ≤ 9 → x.f i = y.f i) ∧ x.o.p = y.o.p ∧ x.v.p = y.v.p := by
  unfold sameR at h
  simp only [Bool.and_eq_true] at h
  obtain ⟨h1, ⟨h2, h3⟩, h4⟩ := h
  unfold sameN at h1
  simp only [Bool.and_eq_true, beq_iff_eq] at h1 h4
  obtain ⟨⟨⟨⟨⟨⟨⟨⟨a1, a2⟩, a3⟩, a4⟩, a5⟩, a6⟩, a7⟩, a8⟩, a9⟩ := h1
  exact ⟨h4, ten a1 a2 a3 a4 a5 a6 a7 a8 a9, sameV_iff h2, sameV_iff h3⟩
theorem encP_same {x y : RcD} (hf : ∀ i, 1 ≤ i → i ≤ 9 → x.f i = y.f i) (ho : x.o.p = y.o.p) (hv : x.v.p = y.v.p) {f : Fld} (hg : f.good) : encF x f = encF y f := by
  rw [encF_p, encF_p]
  cases f with
  | num i wd => show le wd (x.f i).toNat = le wd (y.f i).toNat; rw [hf i hg.1 hg.2.1]
  | old => show encVP x.o.p = encVP y.o.p; rw [ho]
  | new => show encVP x.v.p = encVP y.v.p; rw [hv]
theorem apart_iff {w : World} {x y : RcD} (hx : x.At w) (hy : y.At w) (h1 : mayB x = true) (h2 : mayB y = true) : eqB (encB x) (encB y) = sameR x y := by
  rw [Bool.eq_iff_iff, eqB_iff]
  constructor
  · intro h
    obtain ⟨r, e1, r1⟩ := dec_enc hx h1
    obtain ⟨s, e2, r2⟩ := dec_enc hy h2
    rw [h, e2] at e1
    injection e1 with _ e1
    subst e1
    exact sameR_of (r1.k.symm.trans r2.k) (fun i a b => (r1.f i a b).symm.trans (r2.f i a b)) (r1.o.symm.trans r2.o) (r1.v.symm.trans r2.v)
  · intro h
    obtain ⟨a, b, c, d⟩ := sameR_all h
    obtain ⟨fl, hfl, hrest⟩ := mayB_kind h1
    clear hrest
    unfold encB
    rw [← a, hfl]
    show UInt8.ofNat x.k.toNat :: fl.flatMap (encF x) = UInt8.ofNat y.k.toNat :: fl.flatMap (encF y)
    rw [a]
    congr 1
    have hg := fields_good hfl
    clear hfl
    induction fl with
    | nil => rfl
    | cons f fl ih => rw [List.flatMap_cons, List.flatMap_cons, encP_same b c d (hg f (List.mem_cons_self ..)), ih (fun g hg' => hg g (List.mem_cons_of_mem _ hg'))]

set_option maxRecDepth 100000 in
set_option maxHeartbeats 4000000 in
theorem recapart_walk (W : World) (x y : RcD) (hx : x.At W) (hy : y.At W) :
    Calls Try.prog 8 #[x.val, y.val] W fun e w' => e = .returned (.bool true) ∧ Below W.heap.size W w' := by
  obtain ⟨w1, hw1⟩ : ∃ w1, (W.alloc (.cells x.cells 26)).alloc (.cells y.cells 26) = w1 := ⟨_, rfl⟩
  have hm1 : Mod (fun _ => False) W w1 := by rw [← hw1]; exact ((Mod.refl _ W).alloc _).alloc _
  have hX1 : x.In w1 W.heap.size := by rw [← hw1]; exact (RcD.In.new W x).keep ((Mod.refl _ _).alloc _)
  have hY1 : y.In w1 (W.heap.size + 1) := by
    rw [← hw1]
    have := RcD.In.new (W.alloc (.cells x.cells 26)) y
    rw [World.size_alloc] at this
    exact this
  have Hw := Lib.hid (awake_ok w1)
  have Hm1 := Lib.hid hm1
  have HX1 := Lib.hid hX1
  have HY1 := Lib.hid hY1
  have Hx := Lib.hid hx
  have Hy := Lib.hid hy
  have Hw1 := Lib.hid hw1
  clear hm1 hX1 hY1 hx hy hw1
  go_enter Try.func8, Try.ntmps8
  go_wp2_with fail
  rw [show (W.alloc (.cells x.cells 26)).alloc (.cells y.cells 26) = w1 from Hw1.out]
  clear Hw1
  refine Hw.out.mono ?_
  rintro e w2 ⟨rfl, hm2⟩
  have HX2 := Lib.hid (HX1.out.keep hm2)
  have HY2 := Lib.hid (HY1.out.keep hm2)
  have Hm2 := Lib.hid (Hm1.out.trans hm2 (fun _ _ h => h))
  have Hl := Lib.hid (rlight_ok w2 x)
  have p0 := HX2.out.kind
  have p1 := HX2.out.num (i := 1) (by omega) (by omega)
  have p2 := HX2.out.num (i := 2) (by omega) (by omega)
  have p3 := HX2.out.num (i := 3) (by omega) (by omega)
  have p4 := HX2.out.num (i := 4) (by omega) (by omega)
  have p5 := HX2.out.num (i := 5) (by omega) (by omega)
  have p6 := HX2.out.num (i := 6) (by omega) (by omega)
  have p7 := HX2.out.num (i := 7) (by omega) (by omega)
  have p8 := HX2.out.num (i := 8) (by omega) (by omega)
  have p9 := HX2.out.num (i := 9) (by omega) (by omega)
  have p10 := HX2.out.c10
  have p11 := HX2.out.c11
  have p12 := HX2.out.c12
  have p13 := HX2.out.c13
  clear hm2 Hw HX1 HY1 Hm1
  go_wp2_with fail
  refine Hl.out.mono ?_
  rintro e w3 ⟨rfl, hm3⟩
  have HX3 := Lib.hid (HX2.out.keep hm3)
  have HY3 := Lib.hid (HY2.out.keep hm3)
  have Hm3 := Lib.hid (Hm2.out.trans hm3 (fun _ _ h => h))
  have Hl2 := Lib.hid (rlight_ok w3 y)
  clear hm3 Hl HX2 HY2 Hm2 p0 p1 p2 p3 p4 p5 p6 p7 p8 p9 p10 p11 p12 p13
  have p0 := HY3.out.kind
  have p1 := HY3.out.num (i := 1) (by omega) (by omega)
  have p2 := HY3.out.num (i := 2) (by omega) (by omega)
  have p3 := HY3.out.num (i := 3) (by omega) (by omega)
  have p4 := HY3.out.num (i := 4) (by omega) (by omega)
  have p5 := HY3.out.num (i := 5) (by omega) (by omega)
  have p6 := HY3.out.num (i := 6) (by omega) (by omega)
  have p7 := HY3.out.num (i := 7) (by omega) (by omega)
  have p8 := HY3.out.num (i := 8) (by omega) (by omega)
  have p9 := HY3.out.num (i := 9) (by omega) (by omega)
  have p10 := HY3.out.c10
  have p11 := HY3.out.c11
  have p12 := HY3.out.c12
  have p13 := HY3.out.c13
  go_wp2_with fail
  refine Hl2.out.mono ?_
  rintro e w4 ⟨rfl, hm4⟩
  have HX4 := Lib.hid (HX3.out.keep hm4)
  have HY4 := Lib.hid (HY3.out.keep hm4)
  have Hm4 := Lib.hid (Hm3.out.trans hm4 (fun _ _ h => h))
  clear hm4 Hl2 HX3 HY3 Hm3 p0 p1 p2 p3 p4 p5 p6 p7 p8 p9 p10 p11 p12 p13
  cases hl1 : (decide ((x.o.m : Int) ≤ 200) && decide ((x.v.m : Int) ≤ 200)) with
  | false =>
    clear hl1
    generalize (decide ((y.o.m : Int) ≤ 200) && decide ((y.v.m : Int) ≤ 200)) = b2
    go_wp2
    go_ret
    exact ⟨rfl, Hm4.out.end_⟩
  | true =>
  cases hl2 : (decide ((y.o.m : Int) ≤ 200) && decide ((y.v.m : Int) ≤ 200)) with
  | false =>
    clear hl1 hl2
    go_wp2
    go_ret
    exact ⟨rfl, Hm4.out.end_⟩
  | true =>
  have Hlt : Hid ((x.o.m ≤ 200 ∧ x.v.m ≤ 200) ∧ y.o.m ≤ 200 ∧ y.v.m ≤ 200) := by simp at hl1 hl2; exact ⟨⟨by omega, by omega⟩, by omega, by omega⟩
  clear hl1 hl2
  have p0 := HX4.out.kind
  have p1 := HX4.out.num (i := 1) (by omega) (by omega)
  have p2 := HX4.out.num (i := 2) (by omega) (by omega)
  have p3 := HX4.out.num (i := 3) (by omega) (by omega)
  have p4 := HX4.out.num (i := 4) (by omega) (by omega)
  have p5 := HX4.out.num (i := 5) (by omega) (by omega)
  have p6 := HX4.out.num (i := 6) (by omega) (by omega)
  have p7 := HX4.out.num (i := 7) (by omega) (by omega)
  have p8 := HX4.out.num (i := 8) (by omega) (by omega)
  have p9 := HX4.out.num (i := 9) (by omega) (by omega)
  have p10 := HX4.out.c10
  have p11 := HX4.out.c11
  have p12 := HX4.out.c12
  have p13 := HX4.out.c13
  have Hq := Lib.hid (may_ok w4 x)
  go_wp2_with fail
  refine Hq.out.mono ?_
  rintro e w5 ⟨rfl, hm5⟩
  have HX5 := Lib.hid (HX4.out.keep hm5)
  have HY5 := Lib.hid (HY4.out.keep hm5)
  have Hm5 := Lib.hid (Hm4.out.trans hm5 (fun _ _ h => h))
  clear hm5 Hq HX4 HY4 Hm4 p0 p1 p2 p3 p4 p5 p6 p7 p8 p9 p10 p11 p12 p13
  cases hmx : mayB x with
  | false =>
    clear hmx
    go_wp2
    go_ret
    exact ⟨rfl, Hm5.out.end_⟩
  | true =>
  have p0 := HY5.out.kind
  have p1 := HY5.out.num (i := 1) (by omega) (by omega)
  have p2 := HY5.out.num (i := 2) (by omega) (by omega)
  have p3 := HY5.out.num (i := 3) (by omega) (by omega)
  have p4 := HY5.out.num (i := 4) (by omega) (by omega)
  have p5 := HY5.out.num (i := 5) (by omega) (by omega)
  have p6 := HY5.out.num (i := 6) (by omega) (by omega)
  have p7 := HY5.out.num (i := 7) (by omega) (by omega)
  have p8 := HY5.out.num (i := 8) (by omega) (by omega)
  have p9 := HY5.out.num (i := 9) (by omega) (by omega)
  have p10 := HY5.out.c10
  have p11 := HY5.out.c11
  have p12 := HY5.out.c12
  have p13 := HY5.out.c13
  have Hq := Lib.hid (may_ok w5 y)
  go_wp2_with fail
  refine Hq.out.mono ?_
  rintro e w6 ⟨rfl, hm6⟩
  have HX6 := Lib.hid (HX5.out.keep hm6)
  have HY6 := Lib.hid (HY5.out.keep hm6)
  have Hm6 := Lib.hid (Hm5.out.trans hm6 (fun _ _ h => h))
  clear hm6 Hq HX5 HY5 Hm5 p0 p1 p2 p3 p4 p5 p6 p7 p8 p9 p10 p11 p12 p13
  cases hmy : mayB y with
  | false =>
    clear hmx hmy
    go_wp2
    go_ret
    exact ⟨rfl, Hm6.out.end_⟩
  | true =>
  have Heq := Lib.hid (apart_iff Hx.out Hy.out hmx hmy)
  have Hsx := Lib.hid (encB_size Hx.out hmx).2
  have Hsy := Lib.hid (encB_size Hy.out hmy).2
  have Hmy := Lib.hid hmy
  have Hc := Lib.hid (encode_yes w6 x (Hx.out.keep Hm6.out) hmx)
  have p0 := HX6.out.kind
  have p1 := HX6.out.num (i := 1) (by omega) (by omega)
  have p2 := HX6.out.num (i := 2) (by omega) (by omega)
  have p3 := HX6.out.num (i := 3) (by omega) (by omega)
  have p4 := HX6.out.num (i := 4) (by omega) (by omega)
  have p5 := HX6.out.num (i := 5) (by omega) (by omega)
  have p6 := HX6.out.num (i := 6) (by omega) (by omega)
  have p7 := HX6.out.num (i := 7) (by omega) (by omega)
  have p8 := HX6.out.num (i := 8) (by omega) (by omega)
  have p9 := HX6.out.num (i := 9) (by omega) (by omega)
  have p10 := HX6.out.c10
  have p11 := HX6.out.c11
  have p12 := HX6.out.c12
  have p13 := HX6.out.c13
  clear hmx hmy
  go_wp2_with fail
  refine Hc.out.mono ?_
  rintro e w7 ⟨q, rfl, hq, _, hm7⟩
  have HX7 := Lib.hid (HX6.out.keep hm7)
  have HY7 := Lib.hid (HY6.out.keep hm7)
  have Hm7 := Lib.hid (Hm6.out.trans hm7 (fun _ _ h => h))
  have Hq7 := Lib.hid (Sl.of_block hq)
  clear hm7 hq Hc HX6 HY6 Hm6 p0 p1 p2 p3 p4 p5 p6 p7 p8 p9 p10 p11 p12 p13
  have p0 := HY7.out.kind
  have p1 := HY7.out.num (i := 1) (by omega) (by omega)
  have p2 := HY7.out.num (i := 2) (by omega) (by omega)
  have p3 := HY7.out.num (i := 3) (by omega) (by omega)
  have p4 := HY7.out.num (i := 4) (by omega) (by omega)
  have p5 := HY7.out.num (i := 5) (by omega) (by omega)
  have p6 := HY7.out.num (i := 6) (by omega) (by omega)
  have p7 := HY7.out.num (i := 7) (by omega) (by omega)
  have p8 := HY7.out.num (i := 8) (by omega) (by omega)
  have p9 := HY7.out.num (i := 9) (by omega) (by omega)
  have p10 := HY7.out.c10
  have p11 := HY7.out.c11
  have p12 := HY7.out.c12
  have p13 := HY7.out.c13
  have Hc := Lib.hid (encode_yes w7 y (Hy.out.keep Hm7.out) Hmy.out)
  obtain ⟨n1, hn1⟩ : ∃ n, (encB x).length = n := ⟨_, rfl⟩
  rw [hn1] at Hsx Hq7
  rw [hn1]
  clear hn1
  go_wp2_with fail
  refine Hc.out.mono ?_
  rintro e w8 ⟨q', rfl, hq', _, hm8⟩
  have HX8 := Lib.hid (HX7.out.keep hm8)
  have HY8 := Lib.hid (HY7.out.keep hm8)
  have Hm8 := Lib.hid (Hm7.out.trans hm8 (fun _ _ h => h))
  have hqx := Hq7.out.mod hm8 (fun _ _ _ => id)
  have hqy := Sl.of_block hq'
  obtain ⟨n2, hn2⟩ : ∃ n, (encB y).length = n := ⟨_, rfl⟩
  rw [hn2] at Hsy hqy
  rw [hn2]
  have hsm := same_ok w8 _ _ _ _ _ _ _ _ hqx hqy (by have := Hsx.out; omega) (by have := Hsy.out; omega)
  rw [Heq.out] at hsm
  have Hsm := Lib.hid hsm
  clear hm8 hq' Hc HX7 HY7 Hm7 hn2 hqx hqy hsm Hq7 p0 p1 p2 p3 p4 p5 p6 p7 p8 p9 p10 p11 p12 p13
  go_wp2_with fail
  refine Hsm.out.mono ?_
  rintro e w9 ⟨rfl, q9, rfl⟩
  have hm9 : Mod (fun _ => False) w8 (w8.drewN q9) := (Mod.refl _ w8).drewN q9
  have HX9 := Lib.hid (HX8.out.keep hm9)
  have HY9 := Lib.hid (HY8.out.keep hm9)
  have Hm9 := Lib.hid (Hm8.out.trans hm9 (fun _ _ h => h))
  clear hm9 Hsm HX8 HY8 Hm8
  generalize w8.drewN q9 = w9 at *
  have hlt := Hlt.out
  have Hs := Lib.hid (rsame_ok w9 x y (Hx.out.keep Hm9.out) (Hy.out.keep Hm9.out) (by omega) (by omega) (by omega) (by omega))
  clear hlt
  have p0 := HX9.out.kind
  have p1 := HX9.out.num (i := 1) (by omega) (by omega)
  have p2 := HX9.out.num (i := 2) (by omega) (by omega)
  have p3 := HX9.out.num (i := 3) (by omega) (by omega)
  have p4 := HX9.out.num (i := 4) (by omega) (by omega)
  have p5 := HX9.out.num (i := 5) (by omega) (by omega)
  have p6 := HX9.out.num (i := 6) (by omega) (by omega)
  have p7 := HX9.out.num (i := 7) (by omega) (by omega)
  have p8 := HX9.out.num (i := 8) (by omega) (by omega)
  have p9 := HX9.out.num (i := 9) (by omega) (by omega)
  have p10 := HX9.out.c10
  have p11 := HX9.out.c11
  have p12 := HX9.out.c12
  have p13 := HX9.out.c13
  have q0 := HY9.out.kind
  have q1 := HY9.out.num (i := 1) (by omega) (by omega)
  have q2 := HY9.out.num (i := 2) (by omega) (by omega)
  have q3 := HY9.out.num (i := 3) (by omega) (by omega)
  have q4 := HY9.out.num (i := 4) (by omega) (by omega)
  have q5 := HY9.out.num (i := 5) (by omega) (by omega)
  have q6 := HY9.out.num (i := 6) (by omega) (by omega)
  have q7 := HY9.out.num (i := 7) (by omega) (by omega)
  have q8 := HY9.out.num (i := 8) (by omega) (by omega)
  have q9 := HY9.out.num (i := 9) (by omega) (by omega)
  have q10 := HY9.out.c10
  have q11 := HY9.out.c11
  have q12 := HY9.out.c12
  have q13 := HY9.out.c13
  go_wp2_with fail
  refine Hs.out.mono ?_
  rintro e w10 ⟨rfl, hm10⟩
  have Hm10 := Lib.hid (Hm9.out.trans hm10 (fun _ _ h => h))
  rw [show (sameN x y && (sameV x.o y.o && sameV x.v y.v && (x.k == y.k))) = sameR x y from rfl]
  clear hm10 Hs HX9 HY9 Hm9 p0 p1 p2 p3 p4 p5 p6 p7 p8 p9 p10 p11 p12 p13 q0 q1 q2 q3 q4 q5 q6 q7 q8 q9 q10 q11 q12 q13
  cases sameR x y
  all_goals
    go_wp2
    go_ret
    exact ⟨rfl, Hm10.out.end_⟩
end Go.Proofs.Ytmgimilcnjlpeaa
