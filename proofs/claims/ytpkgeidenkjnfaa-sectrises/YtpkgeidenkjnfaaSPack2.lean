/-
  sect.Pack, Fits.
-/
import Derived.Test.YtpkgeidenkjnfaaSPack
namespace Go.Proofs.Ytpkgeidenkjnfaa
open Go Go.RowKit Go.Shelf

/-- What Pack answers: bytes in a row of the call's own, and an error. -/
structure PackAns (w : World) (er : Int) (bs : List UInt8) (e : Ending) (w' : World) : Prop where
  ex : ∃ A m c, e = .returned (.tuple #[.slice A m c, .int .i64 er]) ∧ OwV w' w.heap.size 5 A m c (bs.map bv)
  old : Mod (fun _ => False) w w'

set_option maxRecDepth 100000 in
set_option maxHeartbeats 2000000 in
theorem pack_ok (w : World) (x : BtD) (hx : x.At w) (hn : x.n ≤ 200) :
    Calls Try.prog 10 #[x.val] w (PackAns w (packE x.e x.s x.f x.l) (packR x.e x.s x.f x.l)) := by
  obtain ⟨w1, hw1⟩ : ∃ w1, w.alloc (.cells x.cells 24) = w1 := ⟨_, rfl⟩
  have hI : x.In w1 w.heap.size := by rw [← hw1]; exact BtD.In.new w x
  have hm1 : Mod (fun _ => False) w w1 := by rw [← hw1]; exact (Mod.refl _ w).alloc _
  have Hm1 := Lib.hid hm1
  have HI1 := Lib.hid hI
  have Hx := Lib.hid hx
  have Hn := Lib.hid hn
  have hlen : x.l.length = x.n := Rs.len hx
  have Hlen := Lib.hid hlen
  have Hw1 := Lib.hid hw1
  have Hh := Lib.hid (mayHead_ok w1 x)
  have c0 := hI.c0
  have c1 := hI.c1
  have c2 := hI.c2
  have c3 := hI.c3
  clear hI hm1 hx hn hlen hw1
  go_enter Try.func10, Try.ntmps10
  go_wp2_with fail
  rw [show w.alloc (.cells x.cells 24) = w1 from Hw1.out]
  clear Hw1
  refine Hh.out.mono ?_
  rintro e w2 ⟨rfl, hm2⟩
  have Hm2 := Lib.hid (Hm1.out.trans hm2 (fun _ _ h => h))
  have hI2 := HI1.out.keep hm2
  have HI2 := Lib.hid hI2
  clear c0 c1 c2 c3 Hh hm2 Hm1 HI1
  cases hh : headOk x.e x.s x.f with
  | false =>
    have He : Hid (packE x.e x.s x.f x.l = 1) := packE_arg hh
    have Hb : Hid (packR x.e x.s x.f x.l = []) := packR_no (by rw [He.out]; decide)
    clear hh hI2
    go_wp2
    go_ret2
    exact ⟨⟨none, 0, 0, by rw [He.out]; rfl, by rw [Hb.out]; exact OwV.nil _ _ _⟩, Hm2.out⟩
  | true =>
  have hp := ps_new w2
  have hmp : Mod (fun _ => False) w2 (w2.alloc (.cells #[.slice none 0 0] 52)) := (Mod.refl _ w2).alloc _
  have hI3 := hI2.keep hmp
  have d0 := hI3.c0
  have d1 := hI3.c1
  have d2 := hI3.c2
  have d3 := hI3.c3
  have Hb := Lib.hid (begin_ok w2 _ _ hp x hh Hn.out)
  have Hhd := Lib.hid hh
  clear hh hI2 hp hmp hI3
  obtain ⟨w3, hw3⟩ : ∃ w3, w2.alloc (.cells #[.slice none 0 0] 52) = w3 := ⟨_, rfl⟩
  rw [hw3] at Hb d0 d1 d2 d3
  go_wp2_with fail
  refine Hb.out.mono ?_
  rintro e w4 ⟨rfl, h4⟩
  have hI4 := HI2.out.keep h4.old
  have d3 := hI4.c3
  have hE := each_ok w2 w4 _ _ h4 (by rw [headB_len]; omega) x.A x.n x.c x.l (Rs.keep Hx.out Hm2.out) Hn.out
  have HE := Lib.hid hE
  clear d0 d1 d2 hw3 hE h4 hI4 Hb
  go_wp2_with fail
  refine HE.out.mono ?_
  rintro e w5 ⟨rfl, h5, hm5⟩
  have Hm5 := Lib.hid (Hm2.out.trans hm5 (fun _ _ h => h))
  have HI5 := Lib.hid (HI2.out.keep hm5)
  have H5 := Lib.hid h5
  clear h5 hm5 HE d3 HI2 Hm2
  cases hall : x.l.all mayB with
  | false =>
    have He : Hid (packE x.e x.s x.f x.l = 1) := packE_rec hall
    have Hb : Hid (packR x.e x.s x.f x.l = []) := packR_no (by rw [He.out]; decide)
    rw [eachE_no hall]
    clear hall H5
    go_wp2
    go_ret2
    exact ⟨⟨none, 0, 0, by rw [He.out]; rfl, by rw [Hb.out]; exact OwV.nil _ _ _⟩, Hm5.out⟩
  | true =>
  rw [eachE_yes hall]
  have h5 : PS w2 w2.heap.size (packB x.e x.s x.f x.l) w5 := by unfold packB; rw [Hlen.out]; exact H5.out hall
  have hrl : (packB x.e x.s x.f x.l).length ≤ 20000 := by
    have h1 := recsB_len (fun y hy => Hx.out.ats y hy) hall
    have h2 := Hlen.out
    have h3 := Hn.out
    have h4 : x.l.length * 76 ≤ 200 * 76 := Nat.mul_le_mul_right 76 (by omega)
    unfold packB
    rw [List.length_append, headB_len]
    omega
  have HB := Lib.hid (ps_bytes h5 (by omega))
  have Hall := Lib.hid hall
  have Hrl := Lib.hid hrl
  clear h5 H5 hall hrl
  obtain ⟨m, hm⟩ : ∃ m, (packB x.e x.s x.f x.l).length = m := ⟨_, rfl⟩
  have Hmm := Lib.hid hm
  rw [hm] at HB
  have hmI : (m : Int) ≤ 20000 := by have := Hrl.out; omega
  clear hm
  go_wp2_with fail
  refine HB.out.mono ?_
  rintro e w6 ⟨rfl, hf1, _, hf3⟩
  have Hm6 := Lib.hid (Hm5.out.trans hf3 (fun _ _ h => h))
  have d3 := (HI5.out.keep hf3).c3
  have Hf1 := Lib.hid hf1
  clear hf1 hf3 HB HI5
  by_cases h60 : 60 < x.n
  · have He : Hid (packE x.e x.s x.f x.l = 2) := packE_long Hhd.out Hall.out (.inl (by rw [Hlen.out]; exact h60))
    have Hb : Hid (packR x.e x.s x.f x.l = []) := packR_no (by rw [He.out]; decide)
    have hd : decide ((60 : Int) < x.n) = true := by simp; omega
    clear h60
    go_wp2
    go_ret2
    exact ⟨⟨none, 0, 0, by rw [He.out]; rfl, by rw [Hb.out]; exact OwV.nil _ _ _⟩, Hm6.out⟩
  by_cases h248 : 248 < m
  · have He : Hid (packE x.e x.s x.f x.l = 2) := packE_long Hhd.out Hall.out (.inr (by rw [Hmm.out]; exact h248))
    have Hb : Hid (packR x.e x.s x.f x.l = []) := packR_no (by rw [He.out]; decide)
    have hd : decide ((60 : Int) < x.n) = false := by simp; omega
    have hd2 : decide ((248 : Int) < m) = true := by simp; omega
    clear h60 h248
    go_wp2
    go_ret2
    exact ⟨⟨none, 0, 0, by rw [He.out]; rfl, by rw [Hb.out]; exact OwV.nil _ _ _⟩, Hm6.out⟩
  · have He : Hid (packE x.e x.s x.f x.l = 0) := packE_ok Hhd.out Hall.out (by rw [Hmm.out, Hlen.out]; omega)
    have Hb : Hid (packR x.e x.s x.f x.l = packB x.e x.s x.f x.l) := packR_ok He.out
    have hd : decide ((60 : Int) < x.n) = false := by simp; omega
    have hd2 : decide ((248 : Int) < m) = false := by simp; omega
    have Hlt : Hid (w.heap.size ≤ w5.heap.size) := Hm5.out.size
    clear h60 h248
    go_wp2
    go_ret2
    refine ⟨⟨some ⟨w5.heap.size, 0, none⟩, m, m, by rw [He.out]; rfl, ?_⟩, Hm6.out⟩
    rw [Hb.out]
    have := OwV.of_block (base := w.heap.size) (e := 5) (cur := (packB x.e x.s x.f x.l).map bv) Hlt.out Hf1.out (by rw [List.length_map, Hmm.out]; have := Hrl.out; rw [Hmm.out] at this; unfold maxLen; omega)
    rw [List.length_map, Hmm.out] at this
    exact this

def fitsB (l : List RcD) : Bool := packE 0 0 0 l == 0
set_option maxRecDepth 100000 in
theorem fits_ok (w : World) (A : Option Addr) (n c : Nat) (l : List RcD) (h : Rs w A n c l) (hn : n ≤ 200) :
    Calls Try.prog 13 #[.slice A n c] w fun e w' => e = .returned (.bool (fitsB l)) ∧ Mod (fun _ => False) w w' := by
  have hp := pack_ok w ⟨0, 0, 0, A, n, c, l⟩ h hn
  have Hp : Hid (Calls Try.prog 10 #[.agg #[.int .i64 0, .int .i64 0, .int .i64 0, .slice A n c]] w (PackAns w (packE 0 0 0 l) (packR 0 0 0 l))) := hp
  clear hp h hn
  go_enter Try.func13, Try.ntmps13
  go_wp2_with fail
  refine Hp.out.mono ?_
  rintro e w1 ⟨⟨A1, m1, c1, rfl, _⟩, hm⟩
  have Hm := Lib.hid hm
  clear hm Hp
  go_wp2
  go_ret
  exact ⟨rfl, Hm.out⟩
end Go.Proofs.Ytpkgeidenkjnfaa
