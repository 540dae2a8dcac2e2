/-
  The chapter's example (awake).
-/
import Derived.Test.YtfgngmoeedegiaaLive
namespace Go.Proofs.Ytfgngmoeedegiaa
open Go Go.RowKit

def aw0 : Dk := Dk.fresh (List.replicate 2 (fill 0))
def aw1 : Dk := ⟨[fill 0, fill 0], [(0, fill 1)], false, 0, false⟩
def aw2 : Dk := ⟨[fill 1, fill 0], [], false, 0, false⟩
def aw3 : Dk := ⟨[fill 1, fill 0], [(0, fill 2)], false, 0, false⟩
def aw4 : Dk := ⟨[fill 1, fill 0], [(0, fill 2), (1, fill 2)], false, 0, false⟩
def awx : Dk := Dk.fresh [fill 1, fill 0]
def awy : Dk := Dk.fresh [fill 2, fill 2]
theorem aw1_eq : aw0.write 0 (fill 1) = aw1 := by simp [aw0, aw1, Dk.write, Dk.fresh, Dk.reach, Dk.stepE, Dk.stepD, fill_len]
theorem aw2_eq : aw1.sync = aw2 := by simp [aw1, aw2, Dk.sync, Dk.stepE, Dk.stepD, Dk.now, lay]
theorem aw3_eq : aw2.write 0 (fill 2) = aw3 := by simp [aw2, aw3, Dk.write, Dk.reach, Dk.stepE, Dk.stepD, fill_len]
theorem aw4_eq : aw3.write 1 (fill 2) = aw4 := by simp [aw3, aw4, Dk.write, Dk.reach, Dk.stepE, Dk.stepD, fill_len]
theorem awx_eq : aw4.crash (keptN [] (-1) 0) = awx := by
  have f0 : keptN [] (-1) 0 0 = 0 := by decide
  have f1 : keptN [] (-1) 0 1 = 0 := by decide
  simp [aw4, awx, Dk.crash, crashGo, f0, f1, part_zero, Dk.fresh]
theorem awy_eq : aw4.crash (keptN [true] (-1) 0) = awy := by
  have f0 : keptN [true] (-1) 0 0 = 256 := by decide
  have f1 : keptN [true] (-1) 0 1 = 256 := by decide
  simp [aw4, awy, Dk.crash, crashGo, f0, f1, part_all _ _ (fill_len _) (fill_len _), Dk.fresh]
theorem awE0 : aw0.writeE 0 256 = 0 := by simp [aw0, Dk.writeE, Dk.fresh, Dk.reach, Dk.stepE]
theorem awE1 : aw1.syncE = 0 := by simp [aw1, Dk.syncE, Dk.stepE]
theorem awE2 : aw2.writeE 0 256 = 0 := by simp [aw2, Dk.writeE, Dk.reach, Dk.stepE]
theorem awE3 : aw3.writeE 1 256 = 0 := by simp [aw3, Dk.writeE, Dk.reach, Dk.stepE]
theorem awR0 : awx.read 0 = fill 1 ∧ awx.reach 0 = 0 := by simp [awx, Dk.fresh, Dk.read, Dk.reach, Dk.now, lay]
theorem awR1 : awx.read 1 = fill 0 ∧ awx.reach 1 = 0 := by simp [awx, Dk.fresh, Dk.read, Dk.reach, Dk.now, lay]
theorem awR2 : awy.read 0 = fill 2 ∧ awy.reach 0 = 0 := by simp [awy, Dk.fresh, Dk.read, Dk.reach, Dk.now, lay]
theorem awR3 : awy.read 1 = fill 2 ∧ awy.reach 1 = 0 := by simp [awy, Dk.fresh, Dk.read, Dk.reach, Dk.now, lay]
theorem fill_at (b : UInt8) (j : Nat) (hj : j < 256) : (fill b).getD j 0 = b := by
  unfold fill
  rw [List.getD_eq_getElem?_getD, List.getElem?_replicate, if_pos hj]
  rfl
/-- Sector(b), as bytes of a slice. -/
theorem Sl.fillAt {w : World} {A : Option Addr} {n c : Nat} {b : UInt8} (h : Sl w A n c (fill b)) (j : Nat) (hj : j < 256) : ∃ g o, A = some ⟨g, o, none⟩ ∧ w.cell? ⟨g, o + j, none⟩ = some (bv b) := by
  have hn : n = 256 := by rw [← h.len, fill_len]
  obtain ⟨g, o, hA, hc⟩ := h.2.2 (by omega)
  exact ⟨g, o, hA, by rw [hc j (by omega), fill_at b j hj]⟩
theorem fill_n {w : World} {A : Option Addr} {n c : Nat} {b : UInt8} (h : Sl w A n c (fill b)) : n = 256 := by rw [← h.len, fill_len]

/-- Write(i, Sector(b)), the sector made just before. -/
theorem dev_writeS (w0 w w1 : World) (x : DV) (d : Dk) (h : Dev w0 w x d) (i : Int) (g : Nat) (b : UInt8) (hf : FreshR w w1 (some ⟨g, 0, none⟩) 256 256 (fill b)) (hW : d.pend.length ≤ 1000) :
    Calls Try.prog 13 #[.pointer (some ⟨x.p, 0, none⟩), .int .i64 i, .slice (some ⟨g, 0, none⟩) 256 256] w1 fun e w' => e = .returned (.int .i64 (d.writeE i 256)) ∧ ∃ x', x'.p = x.p ∧ Dev w0 w' x' (d.write i (fill b)) ∧ Mod x.M w1 w' := by
  refine (dev_write w0 w1 x d (h.keep hf.2) i _ 256 256 (fill b) hf.sl (fun _ hk => h.apart (hf.new hk)) hW).mono ?_
  rintro e w' ⟨he, x', h1, h2, h3, _, _⟩
  exact ⟨he, x', h1, h2, h3⟩

set_option maxRecDepth 100000 in
set_option maxHeartbeats 4000000 in
theorem awake_ok (w : World) : Calls Try.prog 9 #[] w fun e w' => e = .returned (.bool true) ∧ Mod (fun _ => False) w w' := by
  go_enter Try.func9, Try.ntmps9
  go_wp2_with fail
  refine (dev_new w w (Mod.refl _ _) 2 (by omega) (by omega)).mono ?_
  rintro e w1 ⟨x0, rfl, h0⟩
  have H0 : Hid (Dev w w1 x0 aw0) := h0
  clear h0
  go_wp2_with fail
  refine (sector_ok w1 1).mono ?_
  rintro e w2 ⟨g1, rfl, hf1⟩
  have Hw1 := Lib.hid (dev_writeS w w1 w2 x0 aw0 H0.out 0 g1 1 hf1 (by simp [aw0, Dk.fresh]))
  rw [awE0, aw1_eq] at Hw1
  clear hf1 H0
  go_wp2_with fail
  refine Hw1.out.mono ?_
  rintro e w3 ⟨rfl, x1, hp1, h1, _⟩
  rw [← hp1]
  have H1 := Lib.hid h1
  clear h1 hp1 Hw1
  have Hs := Lib.hid (dev_sync w w3 x1 aw1 H1.out (by simp [aw1]))
  rw [awE1, aw2_eq] at Hs
  clear H1
  go_wp2_with fail
  refine Hs.out.mono ?_
  rintro e w4 ⟨rfl, x2, hp, h2, _⟩
  rw [← hp]
  have H2 := Lib.hid h2
  clear h2 hp Hs
  go_wp2_with fail
  refine (sector_ok w4 2).mono ?_
  rintro e w5 ⟨g2, rfl, hf2⟩
  have Hw2 := Lib.hid (dev_writeS w w4 w5 x2 aw2 H2.out 0 g2 2 hf2 (by simp [aw2]))
  rw [awE2, aw3_eq] at Hw2
  clear hf2 H2
  go_wp2_with fail
  refine Hw2.out.mono ?_
  rintro e w6 ⟨rfl, x3, hp2, h3, _⟩
  rw [← hp2]
  have H3 := Lib.hid h3
  clear h3 hp2 Hw2
  go_wp2_with fail
  refine (sector_ok w6 2).mono ?_
  rintro e w7 ⟨g3, rfl, hf3⟩
  have Hw3 := Lib.hid (dev_writeS w w6 w7 x3 aw3 H3.out 1 g3 2 hf3 (by simp [aw3]))
  rw [awE3, aw4_eq] at Hw3
  clear hf3 H3
  go_wp2_with fail
  refine Hw3.out.mono ?_
  rintro e w8 ⟨rfl, x4, hp3, h4, _⟩
  rw [← hp3]
  have H4 := Lib.hid h4
  clear h4 hp3 Hw3
  have Hc := Lib.hid (dev_crash w w8 x4 aw4 H4.out (by simp [aw4]) none 0 0 [] (-1) 0 (Bl.nil _) (by omega))
  rw [awx_eq] at Hc
  go_wp2_with fail
  refine Hc.out.mono ?_
  rintro e w9 ⟨xx, rfl, hx, hm⟩
  have Hx := Lib.hid hx
  have H5 := Lib.hid (H4.out.keep (hm.alloc (.cells #[.bool true] 4)))
  clear hx hm Hc H4
  have Hc := Lib.hid (dev_crash w _ x4 aw4 H5.out (by simp [aw4]) _ 1 1 [true] (-1) 0 (Bl.lit w9 true 4) (by omega))
  rw [awy_eq] at Hc
  go_wp2_with fail
  refine Hc.out.mono ?_
  rintro e w10 ⟨xy, rfl, hy, hm⟩
  have Hy := Lib.hid hy
  have Hx' := Lib.hid ((Hx.out.keep ((Mod.refl _ _).alloc (.cells #[.bool true] 4))).keep hm)
  clear hy hm Hc H5 Hx
  have Hr := Lib.hid (dev_read w w10 xx awx Hx'.out 0)
  rw [awR0.1, awR0.2] at Hr
  go_wp2_with fail
  refine Hr.out.mono ?_
  rintro e w11 ⟨A0, n0, c0, rfl, hf0⟩
  obtain rfl := fill_n hf0.sl
  have Hf0 := Lib.hid hf0.sl
  have HX := Lib.hid (Hx'.out.keep hf0.2)
  have HY := Lib.hid (Hy.out.keep hf0.2)
  clear hf0 Hr Hx' Hy
  have Hx' := HX
  have Hy := HY
  clear HX HY
  have Hr := Lib.hid (dev_read w w11 xx awx Hx'.out 1)
  rw [awR1.1, awR1.2] at Hr
  go_wp2_with fail
  refine Hr.out.mono ?_
  rintro e w12 ⟨A1, n1, c1, rfl, hf1⟩
  obtain rfl := fill_n hf1.sl
  have Hf1 := Lib.hid hf1.sl
  have HX := Lib.hid (Hx'.out.keep hf1.2)
  have HY := Lib.hid (Hy.out.keep hf1.2)
  have HF0 := Lib.hid (Hf0.out.mod hf1.2 (fun _ _ _ => id))
  clear hf1 Hr Hx' Hy Hf0
  have Hx' := HX
  have Hy := HY
  clear HX HY
  have Hf0 := HF0
  clear HF0
  have Hr := Lib.hid (dev_read w w12 xy awy Hy.out 0)
  rw [awR2.1, awR2.2] at Hr
  go_wp2_with fail
  refine Hr.out.mono ?_
  rintro e w13 ⟨A2, n2, c2, rfl, hf2⟩
  obtain rfl := fill_n hf2.sl
  have Hf2 := Lib.hid hf2.sl
  have HX := Lib.hid (Hx'.out.keep hf2.2)
  have HY := Lib.hid (Hy.out.keep hf2.2)
  have HF0 := Lib.hid (Hf0.out.mod hf2.2 (fun _ _ _ => id))
  have HF1 := Lib.hid (Hf1.out.mod hf2.2 (fun _ _ _ => id))
  clear hf2 Hr Hx' Hy Hf0 Hf1
  have Hx' := HX
  have Hy := HY
  clear HX HY
  have Hf0 := HF0
  clear HF0
  have Hf1 := HF1
  clear HF1
  have Hr := Lib.hid (dev_read w w13 xy awy Hy.out 1)
  rw [awR3.1, awR3.2] at Hr
  go_wp2_with fail
  refine Hr.out.mono ?_
  rintro e w14 ⟨A3, n3, c3, rfl, hf3⟩
  obtain rfl := fill_n hf3.sl
  have Hf3 := Lib.hid hf3.sl
  have HX := Lib.hid (Hx'.out.keep hf3.2)
  have HY := Lib.hid (Hy.out.keep hf3.2)
  have HF0 := Lib.hid (Hf0.out.mod hf3.2 (fun _ _ _ => id))
  have HF1 := Lib.hid (Hf1.out.mod hf3.2 (fun _ _ _ => id))
  have HF2 := Lib.hid (Hf2.out.mod hf3.2 (fun _ _ _ => id))
  clear hf3 Hr Hx' Hy Hf0 Hf1 Hf2
  have Hx' := HX
  have Hy := HY
  clear HX HY
  have Hf0 := HF0
  clear HF0
  have Hf1 := HF1
  clear HF1
  have Hf2 := HF2
  clear HF2
  obtain ⟨b0, o0, hA0, q0⟩ := Hf0.out.fillAt 0 (by omega)
  obtain ⟨b1, o1, hA1, q1⟩ := Hf1.out.fillAt 0 (by omega)
  obtain ⟨b2, o2, hA2, q2⟩ := Hf2.out.fillAt 0 (by omega)
  obtain ⟨b3, o3, hA3, q3⟩ := Hf3.out.fillAt 255 (by omega)
  subst hA0; subst hA1; subst hA2; subst hA3
  have Hold := Lib.hid Hx'.out.old
  rw [Nat.add_zero] at q0 q1 q2
  clear Hf0 Hf1 Hf2 Hf3 Hx' Hy
  go_wp2
  go_ret
  exact ⟨rfl, Hold.out⟩
end Go.Proofs.Ytfgngmoeedegiaa
