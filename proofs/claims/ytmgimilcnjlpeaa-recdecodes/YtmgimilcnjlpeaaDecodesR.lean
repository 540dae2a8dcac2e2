/-
  The walk of bobbinlaw06.RecDecodes.
-/
import Derived.Test.YtmgimilcnjlpeaaLaws0
import Derived.Test.YtmgimilcnjlpeaaRefD3
namespace Go.Proofs.Ytmgimilcnjlpeaa
open Go Go.RowKit

theorem valB_len {own : Bool} {v : VlD} (h : valB own v = true) : v.m ≤ 32 := by
  simp only [valB, Bool.and_eq_true, decide_eq_true_eq] at h
  have := h.1.1
  omega
theorem big_val {w : World} {xs : List UInt8} {y : RcD} (hy : y.At w) (h : y.p = (decode xs).2) : y.o.m ≤ 32 ∧ y.v.m ≤ 32 := by
  by_cases he : (decode xs).1 = 0
  · obtain ⟨h1, _, _⟩ := dec_only hy (xs := xs) (by rw [h, ← he])
    obtain ⟨fl, hfl, _⟩ := mayB_kind h1
    rw [← refMay_ok hfl] at h1
    unfold refMay at h1
    rw [Bool.and_eq_true, Bool.and_eq_true] at h1
    exact ⟨valB_len h1.1.2, valB_len h1.2⟩
  · have hz := (decode_err he).2
    rw [hz] at h
    have e1 := At.len hy.1 (VlD.none_at w) (congrArg (fun z : Rc => z.o) h)
    have e2 := At.len hy.2 (VlD.none_at w) (congrArg (fun z : Rc => z.v) h)
    have e3 : VlD.none.m = 0 := rfl
    omega

set_option maxRecDepth 100000 in
set_option maxHeartbeats 4000000 in
theorem recdecodes_walk (W : World) (A : Option Addr) (n c : Nat) (xs : List UInt8) (h : Sl W A n c xs) (hc : c ≤ maxLen) :
    Calls Try.prog 4 #[.slice A n c] W fun e w' => e = .returned (.bool true) ∧ Below W.heap.size W w' := by
  have Hw := Lib.hid (awake_ok W)
  have H := Lib.hid h
  have Hc0 := Lib.hid hc
  clear h hc
  go_enter Try.func4, Try.ntmps4
  go_wp2_with fail
  refine Hw.out.mono ?_
  rintro e w1 ⟨rfl, hm1⟩
  have Hm1 := Lib.hid hm1
  have H1 := Lib.hid (H.out.mod hm1 (fun _ _ _ => id))
  clear hm1 Hw
  by_cases hbig : 500 < n
  · go_wp2
    go_ret
    exact ⟨rfl, Hm1.out.end_⟩
  · have Hd := Lib.hid (decode_ok w1 A n c xs H1.out (by omega))
    go_wp2_with fail
    refine Hd.out.mono ?_
    rintro e w2 ⟨⟨y, rfl, hy1, hy2, hy3⟩, hm2⟩
    have hyA : y.At w2 := ⟨hy2.at_, hy3.at_⟩
    obtain ⟨w3, hw3⟩ : ∃ w3, w2.alloc (.cells y.cells 26) = w3 := ⟨_, rfl⟩
    have hm3 : Mod (fun _ => False) w2 w3 := by rw [← hw3]; exact (Mod.refl _ w2).alloc _
    have HY3 : Hid (y.In w3 w2.heap.size) := by rw [← hw3]; exact RcD.In.new w2 y
    have Hm3 := Lib.hid ((Hm1.out.trans hm2 (fun _ _ h => h)).trans hm3 (fun _ _ h => h))
    have HyA := Lib.hid (hyA.keep hm3)
    have Hp := Lib.hid hy1
    have Hr := Lib.hid (rdecode_ok w3 A n c xs (H.out.mod Hm3.out (fun _ _ _ => id)) (by omega) Hc0.out)
    have Hbig := Lib.hid (big_val hyA hy1)
    obtain ⟨er, her⟩ : ∃ er, (decode xs).1 = er := ⟨_, rfl⟩
    rw [her] at ⊢
    have Her := Lib.hid her
    clear Hd hm2 hm3 hyA hy1 hy2 hy3 Hm1 H1 her
    have Hw3 := Lib.hid hw3
    clear hw3
    go_wp2_with fail
    rw [show w2.alloc (.cells y.cells 26) = w3 from Hw3.out]
    clear Hw3
    refine Hr.out.mono ?_
    rintro e w4 ⟨⟨z, rfl, hz1, hzA⟩, hm4⟩
    rw [Her.out] at ⊢
    obtain ⟨w5, hw5⟩ : ∃ w5, w4.alloc (.cells z.cells 26) = w5 := ⟨_, rfl⟩
    have hm5 : Mod (fun _ => False) w4 w5 := by rw [← hw5]; exact (Mod.refl _ w4).alloc _
    have hm35 := hm4.trans hm5 (fun _ _ h => h)
    have HZ5 : Hid (z.In w5 w4.heap.size) := by rw [← hw5]; exact RcD.In.new w4 z
    have HY5 := Lib.hid (HY3.out.keep hm35)
    have Hm5 := Lib.hid (Hm3.out.trans hm35 (fun _ _ h => h))
    have hyz : y.p = z.p := Hp.out.trans hz1.symm
    have hsr : sameR y z = true := sameR_of (congrArg (fun z : Rc => z.k) hyz) (fun i _ _ => congrFun (congrArg (fun z : Rc => z.f) hyz) i) (congrArg (fun z : Rc => z.o) hyz) (congrArg (fun z : Rc => z.v) hyz)
    have e1 := At.len HyA.out.1 hzA.1 (congrArg (fun z : Rc => z.o) hyz)
    have e2 := At.len HyA.out.2 hzA.2 (congrArg (fun z : Rc => z.v) hyz)
    have hb := Hbig.out
    have hs := rsame_ok w5 y z (HyA.out.keep hm35) (hzA.keep hm5) (by omega) (by omega) (by omega) (by omega)
    rw [show (sameN y z && (sameV y.o z.o && sameV y.v z.v && (y.k == z.k))) = true from hsr] at hs
    have Hs := Lib.hid hs
    have p0 := HY5.out.kind
    have p1 := HY5.out.num (i := 1) (by omega) (by omega)
    have p2 := HY5.out.num (i := 2) (by omega) (by omega)
    have p3 := HY5.out.num (i := 3) (by omega) (by omega)
    have p4 := HY5.out.num (i := 4) (by omega) (by omega)
    have p5 := HY5.out.num (i := 5) (by omega) (by omega)
    have p6 := HY5.out.num (i := 6) (by omega) (by omega)
    have p7 := HY5.out.num (i := 7) (by omega) (by omega)
    have p8 := HY5.out.num (i := 8) (by omega) (by omega)
    have p9 := HY5.out.num (i := 9) (by omega) (by omega)
    have p10 := HY5.out.c10
    have p11 := HY5.out.c11
    have p12 := HY5.out.c12
    have p13 := HY5.out.c13
    have q0 := HZ5.out.kind
    have q1 := HZ5.out.num (i := 1) (by omega) (by omega)
    have q2 := HZ5.out.num (i := 2) (by omega) (by omega)
    have q3 := HZ5.out.num (i := 3) (by omega) (by omega)
    have q4 := HZ5.out.num (i := 4) (by omega) (by omega)
    have q5 := HZ5.out.num (i := 5) (by omega) (by omega)
    have q6 := HZ5.out.num (i := 6) (by omega) (by omega)
    have q7 := HZ5.out.num (i := 7) (by omega) (by omega)
    have q8 := HZ5.out.num (i := 8) (by omega) (by omega)
    have q9 := HZ5.out.num (i := 9) (by omega) (by omega)
    have q10 := HZ5.out.c10
    have q11 := HZ5.out.c11
    have q12 := HZ5.out.c12
    have q13 := HZ5.out.c13
    clear hs hsr e1 e2 hyz hz1 hzA hm4 hm5 hm35 Hr HyA Hbig hb Hp HY3 Hm3
    dsimp only
    go_wp2_with fail
    clear hw5
    refine Hs.out.mono ?_
    rintro e w6 ⟨rfl, hm6⟩
    have Hm6 := Lib.hid (Hm5.out.trans hm6 (fun _ _ h => h))
    clear hm6 Hs p0 p1 p2 p3 p4 p5 p6 p7 p8 p9 p10 p11 p12 p13 q0 q1 q2 q3 q4 q5 q6 q7 q8 q9 q10 q11 q12 q13
    go_wp2
    go_ret
    exact ⟨rfl, Hm6.out.end_⟩
end Go.Proofs.Ytmgimilcnjlpeaa
