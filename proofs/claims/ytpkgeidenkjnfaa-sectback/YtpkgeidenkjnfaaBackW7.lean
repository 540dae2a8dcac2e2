/-
  SectBack's walk.
-/
import Derived.Test.YtpkgeidenkjnfaaAwake7
import Derived.Test.YtpkgeidenkjnfaaSRef
import Derived.Test.YtpkgeidenkjnfaaSUn3
import Derived.Test.YtpkgeidenkjnfaaSMath7
import Derived.Test.YtpkgeidenkjnfaaSSame
namespace Go.Proofs.Ytpkgeidenkjnfaa
open Go Go.RowKit

theorem zeros_succ (bs : List UInt8) (z : Nat) : (bs ++ List.replicate z 0) ++ [0] = bs ++ List.replicate (z + 1) 0 := by
  rw [List.append_assoc, ← List.replicate_succ']

/-- Records that were read back are the same. -/
theorem back_same {w w' : World} {l : List RcD} {L : List RcD} (hx : ∀ x ∈ l, x.At w) (hm : l.all mayB = true) (hl : ∀ x ∈ l, x.o.m ≤ 100 ∧ x.v.m ≤ 100) (hL : ∀ y ∈ L, y.At w') (h : L.map RcD.p = l.map dec2) :
    L.length = l.length ∧ ∀ (i : Nat) (a b : RcD), l[i]? = some a → L[i]? = some b → sameR a b = true ∧ a.o.m ≤ 1000 ∧ a.v.m ≤ 1000 ∧ b.o.m ≤ 1000 ∧ b.v.m ≤ 1000 := by
  refine ⟨by have := congrArg List.length h; simpa using this, fun i a b ha hb => ?_⟩
  have hi := congrArg (fun z : List Rc => z[i]?) h
  simp only [List.getElem?_map, ha, hb, Option.map_some] at hi
  injection hi with hi
  have ham := List.mem_of_getElem? ha
  obtain ⟨r, hr1, hr2⟩ := dec_enc (hx a ham) (List.all_eq_true.1 hm a ham)
  have hbr : b.p = r := by rw [hi]; unfold dec2; rw [hr1]
  have e1 : a.o.p = b.o.p := hr2.o.symm.trans (congrArg (fun z : Rc => z.o) hbr).symm
  have e2 : a.v.p = b.v.p := hr2.v.symm.trans (congrArg (fun z : Rc => z.v) hbr).symm
  have hbA := hL b (List.mem_of_getElem? hb)
  have m1 := At.len (hx a ham).1 hbA.1 e1
  have m2 := At.len (hx a ham).2 hbA.2 e2
  have hla := hl a ham
  exact ⟨sameR_req hr2 hbr, by omega, by omega, by omega, by omega⟩

set_option maxRecDepth 100000 in
set_option maxHeartbeats 4000000 in
theorem back_walk (W : World) (x : BtD) (hx : x.At W) (nn : Int) :
    Calls Try.prog 5 #[x.val, .int .i64 nn] W fun e w' => e = .returned (.bool true) ∧ Below W.heap.size W w' := by
  obtain ⟨w1, hw1⟩ : ∃ w1, W.alloc (.cells x.cells 24) = w1 := ⟨_, rfl⟩
  have hI : x.In w1 W.heap.size := by rw [← hw1]; exact BtD.In.new W x
  have Hm1 : Hid (Mod (fun _ => False) W w1) := by rw [← hw1]; exact (Mod.refl _ W).alloc _
  have HI1 := Lib.hid hI
  have Hx := Lib.hid hx
  have hlen : x.l.length = x.n := Rs.len hx
  have Hlen := Lib.hid hlen
  have Hw1 := Lib.hid hw1
  have Hw := Lib.hid (awake_ok w1)
  clear hI hx hlen hw1
  go_enter Try.func5, Try.ntmps5
  go_wp2_with fail
  rw [show W.alloc (.cells x.cells 24) = w1 from Hw1.out]
  clear Hw1
  refine Hw.out.mono ?_
  rintro e w2 ⟨rfl, hm2⟩
  have HI2 := Lib.hid (HI1.out.keep hm2)
  have hm2' := Hm1.out.trans hm2 (fun _ _ h => h)
  have Hm2 := Lib.hid hm2'
  have Hl : Hid (Calls Try.prog 9 #[.slice x.A x.n x.c, .int .i64 100] w2 fun e w' => e = .returned (.bool (lightB x.l 100)) ∧ Mod (fun _ => False) w2 w') := light_ok w2 x.A x.n x.c x.l (Rs.keep Hx.out hm2') 100 (by omega)
  have c3 := HI2.out.c3
  clear hm2 hm2' Hw HI1 Hm1
  go_wp2_with fail
  refine Hl.out.mono ?_
  rintro e w3 ⟨rfl, hm3⟩
  have HI3 := Lib.hid (HI2.out.keep hm3)
  have Hm3 := Lib.hid (Hm2.out.trans hm3 (fun _ _ h => h))
  clear hm3 Hl HI2 Hm2 c3
  cases hl : lightB x.l 100 with
  | false =>
    clear hl
    go_wp2
    go_ret
    exact ⟨rfl, Hm3.out.end_⟩
  | true =>
  have hn : x.n ≤ 200 := by have := (lightB_len hl).1; have := Hlen.out; omega
  have Hn := Lib.hid hn
  have Hlt := Lib.hid (lightB_len hl).2
  have Hp := Lib.hid (pack_ok w3 x (Hx.out.keep Hm3.out) hn)
  have c0 := HI3.out.c0
  have c1 := HI3.out.c1
  have c2 := HI3.out.c2
  have c3 := HI3.out.c3
  clear hl hn
  go_wp2_with fail
  refine Hp.out.mono ?_
  rintro e w4 ⟨⟨A, m, c, rfl, ho⟩, hm4⟩
  have hml : (packR x.e x.s x.f x.l).length = m := by have := ho.len; simpa using this
  by_cases her : packE x.e x.s x.f x.l = 0
  · rw [her]
    rw [packR_ok her] at ho hml
    have Hrow : Hid (Row7 w3 w4 A m c (packB x.e x.s x.f x.l)) := ⟨ho, hm4⟩
    have HI4 := Lib.hid (HI3.out.keep hm4)
    have Her := Lib.hid her
    have hm248 : m ≤ 248 := by rw [← hml]; exact (packE_zero her).2.2.2
    have Hml := Lib.hid hml
    have Hm248 := Lib.hid hm248
    clear c0 c1 c2 c3 ho hm4 Hp her hml hm248 HI4
    go_wp2_with fail
    go_loopw [7, 9] (fun b i wr => ∃ (z k c' : Nat) (A' : Option Addr), k = m + z ∧ k ≤ 248 ∧ i = .int .i64 z ∧ b = .slice A' k c' ∧ Row7 w3 wr A' k c' (packB x.e x.s x.f x.l ++ List.replicate z 0)) (fun b _ _ => 248 - (match b with | .slice _ k _ => k | _ => 0))
    case atStart => exact ⟨0, m, c, A, rfl, Hm248.out, rfl, rfl, by simpa using Hrow.out⟩
    case round =>
      obtain ⟨z, k, c', A', hk, hk248, rfl, rfl, hrow⟩ := hrel
      have Hrw := Lib.hid hrow
      have Hk := Lib.hid hk
      have hzI : (z : Int) ≤ 248 := by omega
      have hkI : (k : Int) ≤ 248 := by omega
      clear hrow hk
      by_cases hgo : (z : Int) < nn ∧ k < 248
      · obtain ⟨hz, hk2⟩ := hgo
        have hd : decide ((k : Int) < 248) = true := by simp; omega
        have hr2 := Hrw.out.keep ((Mod.refl _ wr).alloc (.cells #[.int .u8 0] 5))
        obtain ⟨bz, hbz⟩ : ∃ bz, packB x.e x.s x.f x.l ++ List.replicate z 0 = bz := ⟨_, rfl⟩
        have Hbz := Lib.hid hbz
        rw [hbz] at hr2
        clear hbz
        have Hr2 := Lib.hid hr2
        have hown := hr2.own
        have hsrc := Src.one wr (.int .u8 0) 5 rfl
        have hsz : w3.heap.size ≤ (wr.alloc (.cells #[.int .u8 0] 5)).heap.size := hr2.old.size
        clear hr2
        go_wp2_with (at_builtin; refine wpList_app (.tmp 44) (.tmp 45) byteElem rfl rfl rfl rfl hown hsrc (by omega) (by unfold maxLen; omega) hsz ?_)
        intro A5 k5 w5 how hgr hat
        have hr5 := Hr2.out.grow (ys := [0]) how hgr
        rw [← Hbz.out, zeros_succ] at hr5
        have H5 := Lib.hid hr5
        clear how hgr hat hr5 hown hsrc hsz Hr2
        go_wp2
        go_roundw
        case rel => exact ⟨z + 1, k + 1, k5, A5, by rw [Hk.out]; omega, by omega, by go_num, rfl, H5.out⟩
        case measure => simp; omega
      · have hcond : decide ((z : Int) < nn) = false ∨ decide ((z : Int) < nn) = true ∧ decide ((k : Int) < 248) = false := by
          by_cases h1 : (z : Int) < nn
          · exact .inr ⟨by simpa using h1, by simp; omega⟩
          · exact .inl (by simpa using h1)
        clear hgo
        have hsl := Hrw.out.own.sl
        have hmw := Hm3.out.trans Hrw.out.old (fun _ _ h => h)
        have hun := unpack_ok wr A' k c' _ hsl
        have hats : ∀ y ∈ x.l, y.At W := fun y hy => Hx.out.ats y hy
        obtain ⟨u1, u2, u3, u4⟩ := unpack_pack hats Her.out z (by rw [Hml.out, ← Hk.out]; exact hk248)
        rw [u1] at hun
        have Hun := Lib.hid hun
        have U2 := Lib.hid u2
        have U3 := Lib.hid u3
        have U4 := Lib.hid u4
        have Hmw := Lib.hid hmw
        have HIr := Lib.hid (HI3.out.keep Hrw.out.old)
        clear hsl hun hats u1 u2 u3 u4 hmw
        rcases hcond with h1 | ⟨h1, h2⟩
        all_goals
          go_wp2_with fail
          refine Hun.out.mono ?_
          rintro e w5 ⟨⟨B, mm, d, L, rfl, hrow5, hown5, hmap⟩, hm5⟩
          rw [U2.out, U3.out, U4.out]
          have hLA : ∀ y ∈ L, y.At w5 := fun y hy => ⟨(hown5 y hy).1.at_, (hown5 y hy).2.at_⟩
          obtain ⟨hLl, hLs⟩ := back_same (w := W) (w' := w5) (fun y hy => Hx.out.ats y hy) (packE_zero Her.out).2.1 Hlt.out hLA hmap
          have hRL := hrow5.recs hLA
          have hmm : mm = x.n := by rw [← hRL.len, hLl, Hlen.out]
          subst hmm
          obtain ⟨w6, hw6⟩ : ∃ w6, w5.alloc (.cells #[.int .i64 x.e, .int .i64 x.s, .int .i64 x.f, .slice B x.n d] 24) = w6 := ⟨_, rfl⟩
          have hma : Mod (fun _ => False) w5 w6 := by rw [← hw6]; exact (Mod.refl _ w5).alloc _
          have hY6 : BtD.In w6 ⟨x.e, x.s, x.f, B, x.n, d, L⟩ w5.heap.size := by rw [← hw6]; exact BtD.In.new w5 ⟨x.e, x.s, x.f, B, x.n, d, L⟩
          have hm56 := hm5.trans hma (fun _ _ h => h)
          have HI6 := Lib.hid (HIr.out.keep hm56)
          have Hm6 := Lib.hid (Hmw.out.trans hm56 (fun _ _ h => h))
          have Hsm := Lib.hid (bsame_ok w6 x ⟨x.e, x.s, x.f, B, x.n, d, L⟩ (Hx.out.keep Hm6.out) (hRL.keep hma) rfl rfl rfl rfl (by have := Hn.out; omega) hLs)
          have c0 := HI6.out.c0
          have c1 := HI6.out.c1
          have c2 := HI6.out.c2
          have c3 := HI6.out.c3
          have d0 := hY6.c0
          have d1 := hY6.c1
          have d2 := hY6.c2
          have d3 := hY6.c3
          clear hrow5 hown5 hmap hm5 hLA hLl hLs hRL hma hY6 hm56 Hun U2 U3 U4
          go_wp2_with fail
          clear hw6
          refine Hsm.out.mono ?_
          rintro e w7 ⟨rfl, hm7⟩
          have HI7 := Lib.hid (HI6.out.keep hm7)
          have Hm7 := Lib.hid (Hm6.out.trans hm7 (fun _ _ h => h))
          have hft := fits_ok w7 x.A x.n x.c x.l (Rs.keep Hx.out Hm7.out) Hn.out
          rw [fits_packs Her.out] at hft
          have Hft := Lib.hid hft
          clear c0 c1 c2 c3 d0 d1 d2 d3 hm7 hft Hsm HI6 Hm6
          have c3 := HI7.out.c3
          go_wp2_with fail
          refine Hft.out.mono ?_
          rintro e w8 ⟨rfl, hm8⟩
          have Hm8 := Lib.hid (Hm7.out.trans hm8 (fun _ _ h => h))
          clear hm8 Hft c3
          go_wp2
          go_ret
          exact ⟨rfl, Hm8.out.end_⟩
  · rw [packR_no her] at hml
    have hb : (packE x.e x.s x.f x.l != 0) = true := by simpa using her
    obtain rfl : m = 0 := hml.symm
    have Hm4 := Lib.hid (Hm3.out.trans hm4 (fun _ _ h => h))
    clear c0 c1 c2 c3 ho hm4 Hp her hml
    generalize packE x.e x.s x.f x.l = er at *
    go_wp2
    go_ret
    exact ⟨rfl, Hm4.out.end_⟩
end Go.Proofs.Ytpkgeidenkjnfaa
