/-
  sect.within, mayHead, packer.add, packer.begin, each.
-/
import Derived.Test.YtpkgeidenkjnfaaSBase
namespace Go.Proofs.Ytpkgeidenkjnfaa
open Go Go.RowKit Go.Shelf

set_option maxRecDepth 100000 in
theorem within_ok (w : World) (n m : Int) :
    Calls Try.prog 30 #[.int .i64 n, .int .i64 m] w fun e w' => e = .returned (.bool (inB n m)) ∧ w = w' := by
  by_cases h : 0 ≤ n
  · have Hd : Hid (inB n m = decide (n ≤ m)) := by show _ = _; simp [inB, h]
    go_enter Try.func30, Try.ntmps30
    go_wp2
    go_ret
    exact ⟨by rw [Hd.out]; rfl, rfl⟩
  · have Hd : Hid (inB n m = false) := by show _ = _; simp [inB, h]
    have h' : n < 0 := by omega
    clear h
    go_enter Try.func30, Try.ntmps30
    go_wp2
    go_ret
    exact ⟨by rw [Hd.out]; rfl, rfl⟩

set_option maxRecDepth 100000 in
set_option maxHeartbeats 1000000 in
theorem mayHead_ok (w : World) (x : BtD) :
    Calls Try.prog 24 #[x.val] w fun e w' => e = .returned (.bool (headOk x.e x.s x.f)) ∧ Mod (fun _ => False) w w' := by
  obtain ⟨w1, hw1⟩ : ∃ w1, w.alloc (.cells x.cells 24) = w1 := ⟨_, rfl⟩
  have hI : x.In w1 w.heap.size := by rw [← hw1]; exact BtD.In.new w x
  have Hm : Hid (Mod (fun _ => False) w w1) := by rw [← hw1]; exact (Mod.refl _ w).alloc _
  have c0 := hI.c0
  have c1 := hI.c1
  have c2 := hI.c2
  have H0 := Lib.hid (within_ok w1 x.e 65535)
  have H1 := Lib.hid (within_ok w1 x.s 16777215)
  have H2 := Lib.hid (within_ok w1 x.f x.s)
  clear hI
  cases h0 : inB x.e 65535 with
  | false =>
    have Hr : Hid (headOk x.e x.s x.f = false) := by show _ = _; unfold headOk; rw [h0]; rfl
    rw [h0] at H0
    clear h0
    go_enter Try.func24, Try.ntmps24
    go_wp2_with fail
    refine H0.out.mono ?_
    rintro e w2 ⟨rfl, rfl⟩
    clear hw1 H0 H1 H2
    go_wp2
    go_ret
    exact ⟨by rw [Hr.out]; rfl, Hm.out⟩
  | true =>
    rw [h0] at H0
    cases h1 : inB x.s 16777215 with
    | false =>
      have Hr : Hid (headOk x.e x.s x.f = false) := by show _ = _; unfold headOk; rw [h0, h1]; rfl
      rw [h1] at H1
      clear h0 h1
      go_enter Try.func24, Try.ntmps24
      go_wp2_with fail
      refine H0.out.mono ?_
      rintro e w2 ⟨rfl, rfl⟩
      clear hw1
      go_wp2_with fail
      refine H1.out.mono ?_
      rintro e w3 ⟨rfl, rfl⟩
      clear H0 H1 H2
      go_wp2
      go_ret
      exact ⟨by rw [Hr.out]; rfl, Hm.out⟩
    | true =>
      have Hr : Hid (headOk x.e x.s x.f = inB x.f x.s) := by show _ = _; unfold headOk; rw [h0, h1]; rfl
      rw [h1] at H1
      clear h0 h1
      go_enter Try.func24, Try.ntmps24
      go_wp2_with fail
      refine H0.out.mono ?_
      rintro e w2 ⟨rfl, rfl⟩
      clear hw1
      go_wp2_with fail
      refine H1.out.mono ?_
      rintro e w3 ⟨rfl, rfl⟩
      go_wp2_with fail
      refine H2.out.mono ?_
      rintro e w4 ⟨rfl, rfl⟩
      clear H0 H1 H2
      go_wp2
      go_ret
      exact ⟨by rw [Hr.out]; rfl, Hm.out⟩

set_option maxRecDepth 100000 in
set_option maxHeartbeats 1000000 in
theorem padd_no (w W : World) (g : Nat) (xs : List UInt8) (h : PS w g xs W) (x : RcD) (hm : mayB x = false) :
    Calls Try.prog 27 #[.pointer (some ⟨g, 0, none⟩), x.val] W fun e W' => e = .returned (.int .i64 1) ∧ PS w g xs W' := by
  obtain ⟨w1, hw1⟩ : ∃ w1, W.alloc (.cells x.cells 45) = w1 := ⟨_, rfl⟩
  have hI : x.In w1 W.heap.size := by rw [← hw1]; exact RcD.In.new W x
  have h1 : PS w g xs w1 := by rw [← hw1]; exact h.keep ((Mod.refl _ W).alloc _)
  have Hc := Lib.hid (encode_no w1 x hm)
  have H1 := Lib.hid h1
  have Hw1 := Lib.hid hw1
  have p0 := hI.kind
  have p1 := hI.num (i := 1) (by omega) (by omega)
  have p2 := hI.num (i := 2) (by omega) (by omega)
  have p3 := hI.num (i := 3) (by omega) (by omega)
  have p4 := hI.num (i := 4) (by omega) (by omega)
  have p5 := hI.num (i := 5) (by omega) (by omega)
  have p6 := hI.num (i := 6) (by omega) (by omega)
  have p7 := hI.num (i := 7) (by omega) (by omega)
  have p8 := hI.num (i := 8) (by omega) (by omega)
  have p9 := hI.num (i := 9) (by omega) (by omega)
  have p10 := hI.c10
  have p11 := hI.c11
  have p12 := hI.c12
  have p13 := hI.c13
  clear hI h1 hm h hw1
  go_enter Try.func27, Try.ntmps27
  go_wp2_with fail
  rw [show W.alloc (.cells x.cells 45) = w1 from Hw1.out]
  clear Hw1
  refine Hc.out.mono ?_
  rintro e w2 ⟨rfl, hm2⟩
  have H2 := Lib.hid (H1.out.keep hm2)
  clear hm2 Hc H1 p0 p1 p2 p3 p4 p5 p6 p7 p8 p9 p10 p11 p12 p13
  go_wp2
  go_ret
  exact ⟨rfl, H2.out⟩

set_option maxRecDepth 100000 in
set_option maxHeartbeats 1000000 in
theorem padd_yes (w W : World) (g : Nat) (xs : List UInt8) (h : PS w g xs W) (hl : xs.length ≤ 800000) (x : RcD) (hx : x.At W) (hm : mayB x = true) :
    Calls Try.prog 27 #[.pointer (some ⟨g, 0, none⟩), x.val] W fun e W' => e = .returned (.int .i64 0) ∧ PS w g (xs ++ lenc x) W' := by
  obtain ⟨w1, hw1⟩ : ∃ w1, W.alloc (.cells x.cells 45) = w1 := ⟨_, rfl⟩
  have hI : x.In w1 W.heap.size := by rw [← hw1]; exact RcD.In.new W x
  have hm1 : Mod (fun _ => False) W w1 := by rw [← hw1]; exact (Mod.refl _ W).alloc _
  obtain ⟨A, n, c, hw⟩ := h.ex
  have hn : xs.length = n := by have := hw.2.2.len; simpa using this
  have Hold := Lib.hid (h.old.trans hm1 (fun _ _ h => h))
  have Hwr : Hid (Wr w1 w.heap.size g A n c xs) := hw.mod hm1 id (fun _ _ => id)
  have Hn : Hid (n ≤ 800000) := by show _ ≤ _; omega
  have Hsz := Lib.hid (encB_size hx hm).2
  have Hc := Lib.hid (encode_yes w1 x (hx.keep hm1) hm)
  have Hw1 := Lib.hid hw1
  have p0 := hI.kind
  have p1 := hI.num (i := 1) (by omega) (by omega)
  have p2 := hI.num (i := 2) (by omega) (by omega)
  have p3 := hI.num (i := 3) (by omega) (by omega)
  have p4 := hI.num (i := 4) (by omega) (by omega)
  have p5 := hI.num (i := 5) (by omega) (by omega)
  have p6 := hI.num (i := 6) (by omega) (by omega)
  have p7 := hI.num (i := 7) (by omega) (by omega)
  have p8 := hI.num (i := 8) (by omega) (by omega)
  have p9 := hI.num (i := 9) (by omega) (by omega)
  have p10 := hI.c10
  have p11 := hI.c11
  have p12 := hI.c12
  have p13 := hI.c13
  clear hI hm h hw1 hm1 hw hn hl hx
  go_enter Try.func27, Try.ntmps27
  go_wp2_with fail
  rw [show W.alloc (.cells x.cells 45) = w1 from Hw1.out]
  clear Hw1
  refine Hc.out.mono ?_
  rintro e w2 ⟨q, rfl, hq, hq2, hm2⟩
  have hwr2 : Wr w2 w.heap.size g A n c xs := Hwr.out.mod hm2 id (fun _ _ => id)
  have hsep : ∀ k, blkOf (some ⟨q, 0, none⟩ : Option Addr) = some k → 0 < (encB x).length → ¬ WF g A k := by
    intro k hk _ e
    injection hk with hk
    have hk : q = k := hk
    subst hk
    rcases e with e | e
    · have := Hwr.out.lt; omega
    · have := (Hwr.out.2.2.lt q e).2; omega
  have Hl := Lib.hid (lay_ok w2 _ g A n c xs hwr2 (by have := Hn.out; omega) _ _ _ _ (Sl.of_block hq) (by have := Hsz.out; omega) hsep)
  have H2 := Lib.hid hwr2
  have Hold2 := Lib.hid (Hold.out.trans hm2 (fun _ _ h => h))
  clear hm2 Hc Hwr Hold hq hq2 hwr2 hsep p0 p1 p2 p3 p4 p5 p6 p7 p8 p9 p10 p11 p12 p13
  obtain ⟨m, hm⟩ : ∃ m, (encB x).length = m := ⟨_, rfl⟩
  have Hm := Lib.hid hm
  rw [hm] at Hl ⊢
  clear hm Hsz
  go_wp2_with fail
  refine Hl.out.mono ?_
  rintro e w3 ⟨rfl, A', c', h3, hm3, _⟩
  have H3 : Hid (PS w g (xs ++ lenc x) w3) := ⟨⟨A', _, c', by unfold lenc; rw [Hm.out]; exact h3⟩, wr_old H2.out Hold2.out hm3⟩
  clear h3 hm3 Hl H2 Hold2
  go_wp2
  go_ret
  exact ⟨rfl, H3.out⟩

set_option maxRecDepth 100000 in
set_option maxHeartbeats 2000000 in
theorem begin_ok (w W : World) (g : Nat) (h : PS w g [] W) (x : BtD) (hh : headOk x.e x.s x.f = true) (hl : x.n ≤ 200) :
    Calls Try.prog 25 #[.pointer (some ⟨g, 0, none⟩), x.val] W fun e W' => e = .returned (.tuple #[]) ∧ PS w g (headB x.e x.s x.f x.n) W' := by
  obtain ⟨w1, hw1⟩ : ∃ w1, W.alloc (.cells x.cells 24) = w1 := ⟨_, rfl⟩
  have hI : x.In w1 W.heap.size := by rw [← hw1]; exact BtD.In.new W x
  have hm1 : Mod (fun _ => False) W w1 := by rw [← hw1]; exact (Mod.refl _ W).alloc _
  have hbd := headOk_bd hh
  have H1 := Lib.hid (ps_put (h.keep hm1.drew) (by simp) x.e 2 rfl hbd.1 (by show x.e < 256 ^ (2 : Nat); omega))
  have Hbd := Lib.hid hbd
  have Hl := Lib.hid hl
  have HI := Lib.hid hI
  have Hw1 := Lib.hid hw1
  have c0 := hI.c0
  clear hI hm1 hbd hh hl hw1
  go_enter Try.func25, Try.ntmps25
  go_wp2_with fail
  rw [show W.alloc (.cells x.cells 24) = w1 from Hw1.out]
  clear Hw1
  go_still_tail 5, (by kernel_rfl)
  change wpList _ _ _ _ _ w1.drew
  have HI1 : Hid (x.In w1.drew W.heap.size) := HI.out
  clear c0 HI
  generalize w1.drew = wd at *
  go_wp2_with fail
  refine H1.out.mono ?_
  rintro e w2 ⟨rfl, h2, hf2⟩
  have hI2 := HI1.out.far hf2
  have c1 := hI2.c1
  have H2 := Lib.hid (ps_put (h2.keep ((Mod.refl _ w2).drew)) (by simp [le_length]) x.s 4 rfl Hbd.out.2.2.1 (by have := Hbd.out; show x.s < 256 ^ (4 : Nat); omega))
  have HI2 : Hid (x.In w2.drew W.heap.size) := hI2
  clear h2 hf2 hI2 H1 HI1
  go_wp2_with fail
  go_still_tail 5, (by kernel_rfl)
  change wpList _ _ _ _ _ w2.drew
  clear c1
  generalize w2.drew = wd2 at *
  go_wp2_with fail
  refine H2.out.mono ?_
  rintro e w3 ⟨rfl, h3, hf3⟩
  have hI3 := HI2.out.far hf3
  have c2 := hI3.c2
  have H3 := Lib.hid (ps_put (h3.keep ((Mod.refl _ w3).drew)) (by simp [le_length]) x.f 4 rfl Hbd.out.2.2.2.2.1 (by have := Hbd.out; show x.f < 256 ^ (4 : Nat); omega))
  have HI3 : Hid (x.In w3.drew W.heap.size) := hI3
  clear h3 hf3 hI3 H2 HI2
  go_wp2_with fail
  go_still_tail 5, (by kernel_rfl)
  change wpList _ _ _ _ _ w3.drew
  clear c2
  generalize w3.drew = wd3 at *
  go_wp2_with fail
  refine H3.out.mono ?_
  rintro e w4 ⟨rfl, h4, hf4⟩
  have hI4 := HI3.out.far hf4
  have c3 := hI4.c3
  have H4 := Lib.hid (ps_put (h4.keep ((Mod.refl _ w4).drew)) (by simp [le_length]) (x.n : Int) 1 rfl (by omega) (by have := Hl.out; show (x.n : Int) < 256 ^ (1 : Nat); omega))
  clear h4 hf4 hI4 H3 HI3
  go_wp2_with fail
  go_still_tail 6, (by kernel_rfl)
  change wpList _ _ _ _ _ w4.drew
  clear c3
  generalize w4.drew = wd4 at *
  go_wp2_with fail
  refine H4.out.mono ?_
  rintro e w5 ⟨rfl, h5, _⟩
  have H5 : Hid (PS w g (headB x.e x.s x.f x.n) w5) := h5
  clear h5 H4
  go_wp2
  go_end0
  exact ⟨rfl, H5.out⟩

def eachE (l : List RcD) : Int := if l.all mayB then 0 else 1
theorem eachE_no {l : List RcD} (h : l.all mayB = false) : eachE l = 1 := by unfold eachE; rw [h]; rfl
theorem eachE_yes {l : List RcD} (h : l.all mayB = true) : eachE l = 0 := by unfold eachE; rw [h]; rfl
structure EachAns (w : World) (g : Nat) (xs : List UInt8) (l : List RcD) (e : Ending) (W' : World) : Prop where
  ret : e = .returned (.int .i64 (eachE l))
  yes : l.all mayB = true → PS w g (xs ++ recsB l) W'
  old : Mod (fun _ => False) w W'

set_option maxRecDepth 100000 in
set_option maxHeartbeats 2000000 in
theorem each_ok (w W : World) (g : Nat) (xs : List UInt8) (h : PS w g xs W) (hl : xs.length ≤ 700000) (A : Option Addr) (n c : Nat) (l : List RcD) (hr : Rs w A n c l) (hn : n ≤ 200) :
    Calls Try.prog 26 #[.slice A n c, .func (.func 27) #[.pointer (some ⟨g, 0, none⟩)] #[]] W fun e W' => EachAns w g xs l e W' := by
  have hlen := hr.len
  have Hr := Lib.hid hr
  have Hl := Lib.hid hl
  have Hlen := Lib.hid hlen
  have hnI : (n : Int) ≤ 200 := by omega
  have H := Lib.hid h
  clear h hr hl hlen hn
  go_enter Try.func26, Try.ntmps26
  go_wp2_with fail
  go_loopw [10] (fun i wr => ∃ j : Nat, j ≤ n ∧ i = .int .i64 j ∧ (l.take j).all mayB = true ∧ PS w g (xs ++ recsB (l.take j)) wr) (fun i _ => n - (intOf i).toNat)
  case atStart => exact ⟨0, by omega, rfl, by simp, by simpa [recsB] using H.out⟩
  case round =>
    obtain ⟨j, hj, rfl, hall, hps⟩ := hrel
    have Hall := Lib.hid hall
    have Hps := Lib.hid hps
    clear hall hps
    by_cases hlt : j < n
    · obtain ⟨b, o, rfl, hc⟩ := Hr.out.cells (by omega)
      have hx : l[j]? = some (l[j]'(by rw [Hlen.out]; exact hlt)) := List.getElem?_eq_getElem _
      obtain ⟨x, hxe⟩ : ∃ x, x = l[j]'(by rw [Hlen.out]; exact hlt) := ⟨_, rfl⟩
      rw [← hxe] at hx
      clear hxe
      have hC := (hc j x hx).keep (Hps.out.old.block b (hc j x hx).lt id)
      have hxm := List.mem_of_getElem? hx
      have HxA : Hid (x.At wr) := (Hr.out.ats x hxm).keep Hps.out.old
      have p0 := hC.k
      have p1 := hC.f1
      have p2 := hC.f2
      have p3 := hC.f3
      have p4 := hC.f4
      have p5 := hC.f5
      have p6 := hC.f6
      have p7 := hC.f7
      have p8 := hC.f8
      have p9 := hC.f9
      have p10 := hC.c10
      have p11 := hC.c11
      have p12 := hC.c12
      have p13 := hC.c13
      have Hx := Lib.hid hx
      have Hrl : Hid ((recsB (l.take j)).length ≤ 200 * 76) := by
        have := recsB_len (l := l.take j) (fun y hy => Hr.out.ats y (List.mem_of_mem_take hy)) Hall.out
        have h2 : (l.take j).length ≤ j := by simp; omega
        show _ ≤ _
        have : (l.take j).length * 76 ≤ 200 * 76 := Nat.mul_le_mul_right 76 (by omega)
        omega
      clear hC hxm hx hc
      have hps2 : PS w g (xs ++ recsB (l.take j)) (wr.alloc (.cells x.cells 45)) := Hps.out.keep ((Mod.refl _ wr).alloc _)
      cases hmay : mayB x with
      | false =>
        have Hadd := Lib.hid (padd_no w _ g _ hps2 x hmay)
        have Hno : Hid (l.all mayB = false) := all_no Hx.out hmay
        clear hps2 hmay
        go_wp2_with fail
        refine Hadd.out.mono ?_
        rintro e w2 ⟨rfl, h2⟩
        have H2 := Lib.hid h2.old
        clear h2 Hadd p0 p1 p2 p3 p4 p5 p6 p7 p8 p9 p10 p11 p12 p13
        go_wp2
        go_ret
        exact ⟨by rw [eachE_no Hno.out]; rfl, fun h => absurd (h.symm.trans Hno.out) (by decide), H2.out⟩
      | true =>
        have Hadd := Lib.hid (padd_yes w _ g _ hps2 (by have := Hrl.out; have := Hl.out; simp; omega) x (HxA.out.keep ((Mod.refl _ wr).alloc _)) hmay)
        have Hal : Hid ((l.take (j + 1)).all mayB = true) := by show _ = _; rw [all_succ Hx.out, Hall.out, hmay]; rfl
        clear hps2 hmay
        go_wp2_with fail
        refine Hadd.out.mono ?_
        rintro e w2 ⟨rfl, h2⟩
        have H2 : Hid (PS w g (xs ++ recsB (l.take (j + 1))) w2) := by show PS _ _ _ _; rw [recsB_succ Hx.out, ← List.append_assoc]; exact h2
        clear h2 Hadd p0 p1 p2 p3 p4 p5 p6 p7 p8 p9 p10 p11 p12 p13
        go_wp2
        go_roundw
        case rel => exact ⟨j + 1, by omega, by go_num, Hal.out, H2.out⟩
        case measure => simp [intOf]; omega
    · obtain rfl : j = n := by omega
      have e : l.take j = l := List.take_of_length_le (by rw [Hlen.out]; omega)
      rw [e] at Hall Hps
      clear e
      go_wp2
      go_ret
      exact ⟨by rw [eachE_yes Hall.out]; rfl, fun _ => Hps.out, Hps.out.old⟩
end Go.Proofs.Ytpkgeidenkjnfaa
