/-
  bobbinref07.Pack, Fits.
-/
import Derived.Test.YtpkgeidenkjnfaaSRef2
namespace Go.Proofs.Ytpkgeidenkjnfaa
open Go Go.RowKit Go.Shelf

theorem okN_inB2 {e : Int} : okN e 2 = inB e 65535 := by
  rw [Bool.eq_iff_iff, okN_pw]
  simp [inB, pw]
  omega
theorem okN4_of {s : Int} (h : inB s 16777215 = true) : okN s 4 = true := by
  rw [okN_pw]
  simp [inB] at h
  simp [pw]
  omega
/-- The document's tests, and ours. -/
theorem head_ref (e s f : Int) : headOk e s f = (numOk e s f && decide (s ≤ 16777215) && decide (f ≤ s)) := by
  rw [Bool.eq_iff_iff]
  unfold headOk numOk
  simp only [Bool.and_eq_true, okN_pw, inB, pw, decide_eq_true_iff]
  simp
  omega

structure RPackAns (w : World) (er : Int) (bs : List UInt8) (e : Ending) (w' : World) : Prop where
  ex : ∃ A m c, e = .returned (.tuple #[.slice A m c, .int .i64 er]) ∧ Sl w' A m c bs
  old : Mod (fun _ => False) w w'

set_option maxRecDepth 100000 in
set_option maxHeartbeats 2000000 in
theorem rpack_ok (w : World) (x : BtD) (hx : x.At w) (hn : x.n ≤ 200) :
    Calls Try.prog 11 #[x.val] w (RPackAns w (packE x.e x.s x.f x.l) (packR x.e x.s x.f x.l)) := by
  obtain ⟨w1, hw1⟩ : ∃ w1, w.alloc (.cells x.cells 24) = w1 := ⟨_, rfl⟩
  have hI : x.In w1 w.heap.size := by rw [← hw1]; exact BtD.In.new w x
  have hm1 : Mod (fun _ => False) w w1 := by rw [← hw1]; exact (Mod.refl _ w).alloc _
  have Hm1 := Lib.hid hm1
  have HI1 := Lib.hid hI
  have Hx := Lib.hid hx
  have hlen : x.l.length = x.n := Rs.len hx
  have Hlen := Lib.hid hlen
  have Hn := Lib.hid hn
  have Hw1 := Lib.hid hw1
  have Hb := Lib.hid (rbytes_ok w1 x (hx.keep hm1) hn)
  have c0 := hI.c0
  have c1 := hI.c1
  have c2 := hI.c2
  have c3 := hI.c3
  clear hI hm1 hx hn hlen hw1
  go_enter Try.func11, Try.ntmps11
  go_wp2_with fail
  rw [show w.alloc (.cells x.cells 24) = w1 from Hw1.out]
  clear Hw1
  refine Hb.out.mono ?_
  rintro e w2 ⟨⟨A, m, c, rfl, hs⟩, hm2⟩
  have Hm2 := Lib.hid (Hm1.out.trans hm2 (fun _ _ h => h))
  have hI2 := HI1.out.keep hm2
  have c1 := hI2.c1
  have c2 := hI2.c2
  have c3 := hI2.c3
  have Hs := Lib.hid hs
  clear c0 Hb hm2 Hm1 HI1 hs hI2
  cases hok : refOk x.e x.s x.f x.l with
  | false =>
    have He : Hid (packE x.e x.s x.f x.l = 1) := by
      show _ = _
      unfold packE
      rw [head_ref]
      unfold refOk at hok
      rw [show (numOk x.e x.s x.f && decide (x.s ≤ 16777215) && decide (x.f ≤ x.s) && x.l.all mayB) = false by
        rcases Bool.and_eq_false_iff.1 hok with h | h <;> rw [h] <;> simp]
      rfl
    have Hb : Hid (packR x.e x.s x.f x.l = []) := packR_no (by rw [He.out]; decide)
    clear hok
    go_wp2
    go_ret2
    exact ⟨⟨none, 0, 0, by rw [He.out]; rfl, by rw [Hb.out]; exact Sl.none_ _ _ _⟩, Hm2.out⟩
  | true =>
  have hok2 := hok
  unfold refOk at hok
  rw [Bool.and_eq_true] at hok
  obtain ⟨hnum, hall⟩ := hok
  rw [refR_yes hok2] at Hs
  by_cases hs : 16777215 < x.s
  · have He : Hid (packE x.e x.s x.f x.l = 1) := packE_arg (by rw [head_ref, decide_eq_false (by omega : ¬ x.s ≤ 16777215)]; simp)
    have Hb : Hid (packR x.e x.s x.f x.l = []) := packR_no (by rw [He.out]; decide)
    have hd : decide ((16777215 : Int) < x.s) = true := by simpa using hs
    clear hok2 hnum hall hs
    go_wp2
    go_ret2
    exact ⟨⟨none, 0, 0, by rw [He.out]; rfl, by rw [Hb.out]; exact Sl.none_ _ _ _⟩, Hm2.out⟩
  have hd : decide ((16777215 : Int) < x.s) = false := by simpa using hs
  by_cases hf : x.s < x.f
  · have He : Hid (packE x.e x.s x.f x.l = 1) := packE_arg (by rw [head_ref, decide_eq_false (by omega : ¬ x.f ≤ x.s)]; simp)
    have Hb : Hid (packR x.e x.s x.f x.l = []) := packR_no (by rw [He.out]; decide)
    have hd2 : decide (x.s < x.f) = true := by simpa using hf
    clear hok2 hnum hall hs hf
    go_wp2
    go_ret2
    exact ⟨⟨none, 0, 0, by rw [He.out]; rfl, by rw [Hb.out]; exact Sl.none_ _ _ _⟩, Hm2.out⟩
  have hd2 : decide (x.s < x.f) = false := by simpa using hf
  have hhead : headOk x.e x.s x.f = true := by rw [head_ref, hnum, decide_eq_true (by omega : x.s ≤ 16777215), decide_eq_true (by omega : x.f ≤ x.s)]; rfl
  have Hhd := Lib.hid hhead
  have Hall := Lib.hid hall
  have Hml : Hid ((packB x.e x.s x.f x.l).length = m) := Hs.out.len
  clear hok2 hnum hall hs hf hhead
  by_cases h60 : 60 < x.n
  · have He : Hid (packE x.e x.s x.f x.l = 2) := packE_long Hhd.out Hall.out (.inl (by rw [Hlen.out]; exact h60))
    have Hb : Hid (packR x.e x.s x.f x.l = []) := packR_no (by rw [He.out]; decide)
    have hd3 : decide ((60 : Int) < x.n) = true := by simp; omega
    clear h60
    go_wp2
    go_ret2
    exact ⟨⟨none, 0, 0, by rw [He.out]; rfl, by rw [Hb.out]; exact Sl.none_ _ _ _⟩, Hm2.out⟩
  by_cases h248 : 248 < m
  · have He : Hid (packE x.e x.s x.f x.l = 2) := packE_long Hhd.out Hall.out (.inr (by rw [Hml.out]; exact h248))
    have Hb : Hid (packR x.e x.s x.f x.l = []) := packR_no (by rw [He.out]; decide)
    have hd3 : decide ((60 : Int) < x.n) = false := by simp; omega
    have hd4 : decide ((248 : Int) < m) = true := by simp; omega
    clear h60 h248
    go_wp2
    go_ret2
    exact ⟨⟨none, 0, 0, by rw [He.out]; rfl, by rw [Hb.out]; exact Sl.none_ _ _ _⟩, Hm2.out⟩
  · have He : Hid (packE x.e x.s x.f x.l = 0) := packE_ok Hhd.out Hall.out (by rw [Hml.out, Hlen.out]; omega)
    have Hb : Hid (packR x.e x.s x.f x.l = packB x.e x.s x.f x.l) := packR_ok He.out
    have hd3 : decide ((60 : Int) < x.n) = false := by simp; omega
    have hd4 : decide ((248 : Int) < m) = false := by simp; omega
    clear h60 h248
    go_wp2
    go_ret2
    exact ⟨⟨A, m, c, by rw [He.out]; rfl, by rw [Hb.out]; exact Hs.out⟩, Hm2.out⟩

set_option maxRecDepth 100000 in
theorem rfits_ok (w : World) (A : Option Addr) (n c : Nat) (l : List RcD) (h : Rs w A n c l) (hn : n ≤ 200) :
    Calls Try.prog 14 #[.slice A n c] w fun e w' => e = .returned (.bool (packE 0 0 0 l == 0)) ∧ Mod (fun _ => False) w w' := by
  have hp := rpack_ok w ⟨0, 0, 0, A, n, c, l⟩ h hn
  have Hp : Hid (Calls Try.prog 11 #[.agg #[.int .i64 0, .int .i64 0, .int .i64 0, .slice A n c]] w (RPackAns w (packE 0 0 0 l) (packR 0 0 0 l))) := hp
  clear hp h hn
  go_enter Try.func14, Try.ntmps14
  go_wp2_with fail
  refine Hp.out.mono ?_
  rintro e w1 ⟨⟨A1, m1, c1, rfl, _⟩, hm⟩
  have Hm := Lib.hid hm
  clear hm Hp
  go_wp2
  go_ret
  exact ⟨rfl, Hm.out⟩
end Go.Proofs.Ytpkgeidenkjnfaa
