/-
  SectPacks' walk.
-/
import Derived.Test.YtpkgeidenkjnfaaAwake7
import Derived.Test.YtpkgeidenkjnfaaSRef3
import Derived.Deep.RegionHeld3
namespace Go.Proofs.Ytpkgeidenkjnfaa
open Go Go.RowKit

theorem packR_len (e s f : Int) (l : List RcD) : (packR e s f l).length ≤ 248 := by
  unfold packR
  split
  · rename_i h
    exact (packE_zero h).2.2.2
  · simp

set_option maxRecDepth 100000 in
set_option maxHeartbeats 4000000 in
theorem packs_walk (W : World) (x : BtD) (hx : x.At W) :
    Calls Try.prog 3 #[x.val] W fun e w' => e = .returned (.bool true) ∧ Below W.heap.size W w' := by
  obtain ⟨w1, hw1⟩ : ∃ w1, W.alloc (.cells x.cells 24) = w1 := ⟨_, rfl⟩
  have hI : x.In w1 W.heap.size := by rw [← hw1]; exact BtD.In.new W x
  have Hm1 : Hid (Mod (fun _ => False) W w1) := by rw [← hw1]; exact (Mod.refl _ W).alloc _
  have HI1 := Lib.hid hI
  have Hx := Lib.hid hx
  have hlen : x.l.length = x.n := Rs.len hx
  have Hlen := Lib.hid hlen
  have Hw1 := Lib.hid hw1
  have Hw := Lib.hid (awake_ok w1)
  clear hI hx hlen hw1
  go_enter Try.func3, Try.ntmps3
  go_wp2_with fail
  rw [show W.alloc (.cells x.cells 24) = w1 from Hw1.out]
  clear Hw1
  refine Hw.out.mono ?_
  rintro e w2 ⟨rfl, hm2⟩
  have HI2 := Lib.hid (HI1.out.keep hm2)
  have hm2' := Hm1.out.trans hm2 (fun _ _ h => h)
  have Hm2 := Lib.hid hm2'
  have Hl : Hid (Calls Try.prog 9 #[.slice x.A x.n x.c, .int .i64 100] w2 fun e w' => e = .returned (.bool (lightB x.l 100)) ∧ Mod (fun _ => False) w2 w') := light_ok w2 x.A x.n x.c x.l (Rs.keep Hx.out hm2') 100 (by omega)
  have c3 := HI2.out.c3
  clear hm2 hm2' Hw HI1 Hm1
  go_wp2_with fail
  refine Hl.out.mono ?_
  rintro e w3 ⟨rfl, hm3⟩
  have HI3 := Lib.hid (HI2.out.keep hm3)
  have Hm3 := Lib.hid (Hm2.out.trans hm3 (fun _ _ h => h))
  clear hm3 Hl HI2 Hm2 c3
  cases hl : lightB x.l 100 with
  | false =>
    clear hl
    go_wp2
    go_ret
    exact ⟨rfl, Hm3.out.end_⟩
  | true =>
  have hn : x.n ≤ 200 := by have := (lightB_len hl).1; have := Hlen.out; omega
  have Hn := Lib.hid hn
  have Hp := Lib.hid (pack_ok w3 x (Hx.out.keep Hm3.out) hn)
  have c0 := HI3.out.c0
  have c1 := HI3.out.c1
  have c2 := HI3.out.c2
  have c3 := HI3.out.c3
  clear hl hn
  have Hbl := Lib.hid (packR_len x.e x.s x.f x.l)
  go_wp2_with fail
  refine Hp.out.mono ?_
  rintro e w4 ⟨⟨A, m, c, rfl, ho⟩, hm4⟩
  have HI4 := Lib.hid (HI3.out.keep hm4)
  have hm4' := Hm3.out.trans hm4 (fun _ _ h => h)
  have Hm4 := Lib.hid hm4'
  have Hs4 := Lib.hid ho.sl
  have Hr := Lib.hid (rpack_ok w4 x (Hx.out.keep hm4') Hn.out)
  clear c0 c1 c2 c3 ho hm4 hm4' Hp HI3 Hm3
  have c0 := HI4.out.c0
  have c1 := HI4.out.c1
  have c2 := HI4.out.c2
  have c3 := HI4.out.c3
  go_wp2_with fail
  refine Hr.out.mono ?_
  rintro e w5 ⟨⟨A5, m5, k5, rfl, hs5⟩, hm5⟩
  have hs4 := Hs4.out.mod hm5 (fun _ _ _ => id)
  have HI5 := Lib.hid (HI4.out.keep hm5)
  have Hm5 := Lib.hid (Hm4.out.trans hm5 (fun _ _ h => h))
  have Hsame := Lib.hid (same_ok w5 _ _ _ _ _ _ _ _ hs4 hs5 (by rw [← hs4.len]; have := Hbl.out; omega) (by rw [← hs5.len]; have := Hbl.out; omega))
  rw [eqB_self] at Hsame
  clear c0 c1 c2 c3 hs4 hs5 hm5 Hr HI4 Hm4 Hs4
  go_wp2_with fail
  refine Hsame.out.mono ?_
  rintro e w6 ⟨rfl, p, rfl⟩
  have HI6 : Hid (x.In (w5.drewN p) W.heap.size) := HI5.out
  have Hm6 := Lib.hid (Hm5.out.drewN p)
  clear Hsame HI5 Hm5
  generalize w5.drewN p = w6 at *
  generalize packE x.e x.s x.f x.l = er at *
  have Hbox : Hid (∀ V, Mod (fun _ => False) w6 V → V.cell? ⟨W.heap.size, 3, none⟩ = some (.slice x.A x.n x.c)) := fun V hm => (HI6.out.keep hm).c3
  have HR : Hid (∀ V, Mod (fun _ => False) w6 V → Rs V x.A x.n x.c x.l) := fun V hm => Rs.keep Hx.out (Hm6.out.trans hm (fun _ _ h => h))
  have HF : Hid (∀ V, Mod (fun _ => False) w6 V → Calls Try.prog 13 #[.slice x.A x.n x.c] V fun e w' => e = .returned (.bool (fitsB x.l)) ∧ Mod (fun _ => False) w6 w') := fun V hm =>
    (fits_ok V x.A x.n x.c x.l (HR.out V hm) Hn.out).mono (fun e w' h => ⟨h.1, hm.trans h.2 (fun _ _ h => h)⟩)
  have HG : Hid (∀ V, Mod (fun _ => False) w6 V → Calls Try.prog 14 #[.slice x.A x.n x.c] V fun e w' => e = .returned (.bool (fitsB x.l)) ∧ Mod (fun _ => False) w6 w') := fun V hm =>
    (rfits_ok V x.A x.n x.c x.l (HR.out V hm) Hn.out).mono (fun e w' h => ⟨h.1, hm.trans h.2 (fun _ _ h => h)⟩)
  generalize fitsB x.l = fb at *
  have M0 : Hid (Mod (fun _ => False) w6 w6.drew) := (Mod.refl _ w6).drew
  go_wp2_with fail
  go_region_held3 (fun w' => w'.cell? ⟨W.heap.size, 3, none⟩ = some (.slice x.A x.n x.c)) (first | exact Hbox.out _ M0.out | exact Hbox.out _ hmB | exact Hbox.out _ hmA) (first | (go_at_call 13; refine (HF.out _ (by first | exact M0.out | exact hmB)).mono ?_; rintro e wA ⟨rfl, hmA⟩) | (go_at_call 14; refine (HG.out _ (by first | exact M0.out | exact hmA)).mono ?_; rintro e wB ⟨rfl, hmB⟩))
  all_goals
    have MA := Lib.hid (Hm6.out.trans hmA (fun _ _ h => h))
    have MB := Lib.hid (Hm6.out.trans hmB (fun _ _ h => h))
    clear hmA hmB
    go_wp2
    go_ret
    first
      | exact ⟨rfl, MB.out.end_⟩
      | exact ⟨rfl, MA.out.end_⟩
end Go.Proofs.Ytpkgeidenkjnfaa
