/-
  The walk of bobbinlaw06.RecOnly.
-/
import Derived.Test.YtmgimilcnjlpeaaLaws0
import Derived.Deep.DeepCutAuto
namespace Go.Proofs.Ytmgimilcnjlpeaa
open Go Go.RowKit

theorem Sl.first {w : World} {A : Option Addr} {n c : Nat} {xs : List UInt8} (h : Sl w A n c xs) (k : Nat) (hk : k ≤ n) : Sl w A k c (xs.take k) := by
  refine ⟨by rw [List.length_take, h.1]; omega, Nat.le_trans hk h.2.1, fun hp => ?_⟩
  obtain ⟨b, o, rfl, hc⟩ := h.2.2 (by omega)
  refine ⟨b, o, rfl, fun j hj => ?_⟩
  rw [hc j (by omega)]
  simp [hj]

set_option maxRecDepth 100000 in
set_option maxHeartbeats 4000000 in
theorem reconly_walk (W : World) (A : Option Addr) (n c : Nat) (xs : List UInt8) (h : Sl W A n c xs) (hc : c ≤ maxLen) (k : Int) :
    Calls Try.prog 6 #[.slice A n c, .int .i64 k] W fun e w' => e = .returned (.bool true) ∧ Below W.heap.size W w' := by
  have Hw := Lib.hid (awake_ok W)
  have H := Lib.hid h
  have Hlen := Lib.hid h.len
  have Hcap := Lib.hid h.cap
  unfold maxLen at hc
  have Hc0 := Lib.hid hc
  clear h hc
  go_enter Try.func6, Try.ntmps6
  go_wp2_with fail
  refine Hw.out.mono ?_
  rintro e w1 ⟨rfl, hm1⟩
  have Hm1 := Lib.hid hm1
  have H1 := Lib.hid (H.out.mod hm1 (fun _ _ _ => id))
  clear hm1 Hw
  by_cases hbig : 500 < n
  · go_wp2
    go_ret
    exact ⟨rfl, Hm1.out.end_⟩
  · have Hd := Lib.hid (decode_ok w1 A n c xs H1.out (by omega))
    go_wp2_with fail
    refine Hd.out.mono ?_
    rintro e w2 ⟨⟨y, rfl, hy1, hy2, hy3⟩, hm2⟩
    have hyA : y.At w2 := ⟨hy2.at_, hy3.at_⟩
    obtain ⟨w3, hw3⟩ : ∃ w3, w2.alloc (.cells y.cells 26) = w3 := ⟨_, rfl⟩
    have hm3 : Mod (fun _ => False) w2 w3 := by rw [← hw3]; exact (Mod.refl _ w2).alloc _
    have HY3 : Hid (y.In w3 w2.heap.size) := by rw [← hw3]; exact RcD.In.new w2 y
    have Hm3 := Lib.hid ((Hm1.out.trans hm2 (fun _ _ h => h)).trans hm3 (fun _ _ h => h))
    have HyA := Lib.hid (hyA.keep hm3)
    have Hp := Lib.hid hy1
    clear Hd hm2 hm3 hyA hy1 hy2 hy3 Hm1 H1
    by_cases her : (decode xs).1 = 0
    · rw [her]
      have hdec : decode xs = (0, y.p) := by rw [Hp.out, ← her]
      have Honly := Lib.hid (dec_only HyA.out hdec)
      have Hc := Lib.hid (encode_yes w3 y HyA.out Honly.out.1)
      have p0 := HY3.out.kind
      have p1 := HY3.out.num (i := 1) (by omega) (by omega)
      have p2 := HY3.out.num (i := 2) (by omega) (by omega)
      have p3 := HY3.out.num (i := 3) (by omega) (by omega)
      have p4 := HY3.out.num (i := 4) (by omega) (by omega)
      have p5 := HY3.out.num (i := 5) (by omega) (by omega)
      have p6 := HY3.out.num (i := 6) (by omega) (by omega)
      have p7 := HY3.out.num (i := 7) (by omega) (by omega)
      have p8 := HY3.out.num (i := 8) (by omega) (by omega)
      have p9 := HY3.out.num (i := 9) (by omega) (by omega)
      have p10 := HY3.out.c10
      have p11 := HY3.out.c11
      have p12 := HY3.out.c12
      have p13 := HY3.out.c13
      clear her hdec Hp
      go_wp2_with fail
      clear hw3
      refine Hc.out.mono ?_
      rintro e w4 ⟨q, rfl, hq, _, hm4⟩
      have hqy := Sl.of_block hq
      have Hm4 := Lib.hid (Hm3.out.trans hm4 (fun _ _ h => h))
      have HY4 := Lib.hid (HY3.out.keep hm4)
      have HyA4 := Lib.hid (HyA.out.keep hm4)
      rw [Honly.out.2.1] at hqy ⊢
      rw [Hlen.out] at hqy ⊢
      have hsm := same_ok w4 _ _ _ _ _ _ _ _ (H.out.mod Hm4.out (fun _ _ _ => id)) hqy (by omega) (by omega)
      rw [eqB_self] at hsm
      have Hsm := Lib.hid hsm
      clear Hc hq hm4 Hm3 HY3 HyA hqy hsm p0 p1 p2 p3 p4 p5 p6 p7 p8 p9 p10 p11 p12 p13
      go_wp2_with fail
      refine Hsm.out.mono ?_
      rintro e w5 ⟨rfl, q5, rfl⟩
      have hm5 : Mod (fun _ => False) w4 (w4.drewN q5) := (Mod.refl _ w4).drewN q5
      have HY5 := Lib.hid (HY4.out.keep hm5)
      have HyA5 := Lib.hid (HyA4.out.keep hm5)
      have Hm5 := Lib.hid (Hm4.out.trans hm5 (fun _ _ h => h))
      clear hm5 Hsm HY4 HyA4 Hm4
      generalize w4.drewN q5 = w5 at *
      by_cases hk : k < 0 ∨ (n : Int) ≤ k
      · have hmy := may_ok w5 y
        rw [Honly.out.1] at hmy
        have Hmy := Lib.hid hmy
        have p0 := HY5.out.kind
        have p1 := HY5.out.num (i := 1) (by omega) (by omega)
        have p2 := HY5.out.num (i := 2) (by omega) (by omega)
        have p3 := HY5.out.num (i := 3) (by omega) (by omega)
        have p4 := HY5.out.num (i := 4) (by omega) (by omega)
        have p5 := HY5.out.num (i := 5) (by omega) (by omega)
        have p6 := HY5.out.num (i := 6) (by omega) (by omega)
        have p7 := HY5.out.num (i := 7) (by omega) (by omega)
        have p8 := HY5.out.num (i := 8) (by omega) (by omega)
        have p9 := HY5.out.num (i := 9) (by omega) (by omega)
        have p10 := HY5.out.c10
        have p11 := HY5.out.c11
        have p12 := HY5.out.c12
        have p13 := HY5.out.c13
        clear hmy
        by_cases hk0 : k < 0
        · have hd : decide (k < 0) = true := by simpa using hk0
          clear hk hk0
          go_wp2_with fail
          refine Hmy.out.mono ?_
          rintro e w6 ⟨rfl, hm6⟩
          have Hm6 := Lib.hid (Hm5.out.trans hm6 (fun _ _ h => h))
          clear hm6 Hmy p0 p1 p2 p3 p4 p5 p6 p7 p8 p9 p10 p11 p12 p13
          go_wp2
          go_ret
          exact ⟨rfl, Hm6.out.end_⟩
        · have hd : decide (k < 0) = false := by simpa using hk0
          have hd2 : decide ((n : Int) ≤ k) = true := by have := hk.resolve_left hk0; simpa using this
          clear hk hk0
          go_wp2_with fail
          refine Hmy.out.mono ?_
          rintro e w6 ⟨rfl, hm6⟩
          have Hm6 := Lib.hid (Hm5.out.trans hm6 (fun _ _ h => h))
          clear hm6 Hmy p0 p1 p2 p3 p4 p5 p6 p7 p8 p9 p10 p11 p12 p13
          go_wp2
          go_ret
          exact ⟨rfl, Hm6.out.end_⟩
      · obtain ⟨j, rfl⟩ : ∃ j : Nat, k = j := ⟨k.toNat, by omega⟩
        have hj : j < n := by omega
        have hjI : (j : Int) < n := by omega
        have hjc : (j : Int) ≤ c := by have := Hcap.out; omega
        have hsl5 := (H.out.mod Hm5.out (fun _ _ _ => id)).first j (by omega)
        have Hd5 := Lib.hid (decode_ok w5 A j c (xs.take j) hsl5 (by omega))
        have H6 : Hid ((decode (xs.take j)).1 = 6) := Honly.out.2.2 j (by rw [Hlen.out]; exact hj)
        obtain ⟨b, o, rfl, hcell⟩ := H.out.2.2 (by omega)
        clear hcell hk hsl5
        go_wp2_with fail
        refine Hd5.out.mono ?_
        rintro e w6 ⟨⟨z, rfl, hz1, hz2, hz3⟩, hm6⟩
        rw [H6.out]
        obtain ⟨w7, hw7⟩ : ∃ w7, w6.alloc (.cells z.cells 26) = w7 := ⟨_, rfl⟩
        have hm7 : Mod (fun _ => False) w6 w7 := by rw [← hw7]; exact (Mod.refl _ w6).alloc _
        have hm57 := hm6.trans hm7 (fun _ _ h => h)
        have HY7 := Lib.hid (HY5.out.keep hm57)
        have Hm7 := Lib.hid (Hm5.out.trans hm57 (fun _ _ h => h))
        have hmy := may_ok w7 y
        rw [Honly.out.1] at hmy
        have Hmy := Lib.hid hmy
        have p0 := HY7.out.kind
        have p1 := HY7.out.num (i := 1) (by omega) (by omega)
        have p2 := HY7.out.num (i := 2) (by omega) (by omega)
        have p3 := HY7.out.num (i := 3) (by omega) (by omega)
        have p4 := HY7.out.num (i := 4) (by omega) (by omega)
        have p5 := HY7.out.num (i := 5) (by omega) (by omega)
        have p6 := HY7.out.num (i := 6) (by omega) (by omega)
        have p7 := HY7.out.num (i := 7) (by omega) (by omega)
        have p8 := HY7.out.num (i := 8) (by omega) (by omega)
        have p9 := HY7.out.num (i := 9) (by omega) (by omega)
        have p10 := HY7.out.c10
        have p11 := HY7.out.c11
        have p12 := HY7.out.c12
        have p13 := HY7.out.c13
        clear hmy hm6 hm7 hm57 hz1 hz2 hz3 Hd5 HY5 Hm5
        go_wp2_with fail
        clear hw7
        refine Hmy.out.mono ?_
        rintro e w8 ⟨rfl, hm8⟩
        have Hm8 := Lib.hid (Hm7.out.trans hm8 (fun _ _ h => h))
        clear hm8 Hmy p0 p1 p2 p3 p4 p5 p6 p7 p8 p9 p10 p11 p12 p13
        go_wp2
        go_ret
        exact ⟨rfl, Hm8.out.end_⟩
    · obtain ⟨he67, hzr⟩ := decode_err her
      have hyz : y.p = RcD.zero.p := by rw [Hp.out, hzr]; rfl
      obtain ⟨er, hee⟩ : ∃ er, (decode xs).1 = er := ⟨_, rfl⟩
      rw [hee] at he67 her
      rw [hee]
      have hsr : sameR y RcD.zero = true := sameR_of (congrArg (fun z : Rc => z.k) hyz) (fun i _ _ => congrFun (congrArg (fun z : Rc => z.f) hyz) i) (congrArg (fun z : Rc => z.o) hyz) (congrArg (fun z : Rc => z.v) hyz)
      have e1 := At.len HyA.out.1 (VlD.none_at w3) (congrArg (fun z : Rc => z.o) hyz)
      have e2 := At.len HyA.out.2 (VlD.none_at w3) (congrArg (fun z : Rc => z.v) hyz)
      have e3 : VlD.none.m = 0 := rfl
      have hs : Calls Try.prog 18 #[y.val, .agg #[.int .i64 0, .int .i64 0, .int .i64 0, .int .i64 0, .int .i64 0, .int .i64 0, .int .i64 0, .int .i64 0, .int .i64 0, .int .i64 0, .bool false, .slice none 0 0, .bool false, .slice none 0 0]] w3 fun e w' => e = .returned (.bool (sameR y RcD.zero)) ∧ Mod (fun _ => False) w3 w' :=
        rsame_ok w3 y RcD.zero HyA.out ⟨VlD.none_at w3, VlD.none_at w3⟩ (by omega) (by omega) (by show VlD.none.m ≤ _; omega) (by show VlD.none.m ≤ _; omega)
      rw [hsr] at hs
      have Hs := Lib.hid hs
      have hne : (er != 0) = true := by rw [bne_iff_ne]; exact her
      have p0 := HY3.out.kind
      have p1 := HY3.out.num (i := 1) (by omega) (by omega)
      have p2 := HY3.out.num (i := 2) (by omega) (by omega)
      have p3 := HY3.out.num (i := 3) (by omega) (by omega)
      have p4 := HY3.out.num (i := 4) (by omega) (by omega)
      have p5 := HY3.out.num (i := 5) (by omega) (by omega)
      have p6 := HY3.out.num (i := 6) (by omega) (by omega)
      have p7 := HY3.out.num (i := 7) (by omega) (by omega)
      have p8 := HY3.out.num (i := 8) (by omega) (by omega)
      have p9 := HY3.out.num (i := 9) (by omega) (by omega)
      have p10 := HY3.out.c10
      have p11 := HY3.out.c11
      have p12 := HY3.out.c12
      have p13 := HY3.out.c13
      have He : Hid (er = 6 ∨ er = 7) := he67
      clear hs hsr e1 e2 e3 hyz hzr hee he67 her Hp HyA HY3
      go_wp2_with fail
      clear hw3
      refine Hs.out.mono ?_
      rintro e w4 ⟨rfl, hm4⟩
      have Hm4 := Lib.hid (Hm3.out.trans hm4 (fun _ _ h => h))
      clear hm4 Hs p0 p1 p2 p3 p4 p5 p6 p7 p8 p9 p10 p11 p12 p13 hne
      rcases He.out with rfl | rfl
      all_goals
        go_wp2
        go_ret
        exact ⟨rfl, Hm4.out.end_⟩
end Go.Proofs.Ytmgimilcnjlpeaa
