/-
  Package table: New.
-/
import Derived.Test.YthbcgbbcoanbdaaTNew
import Derived.Test.YthbcgbbcoanbdaaTFr
namespace Go.Proofs.Ythbcgbbcoanbdaa
open Go Go.RowKit

def newT (p s k : Int) : Tb := ⟨List.replicate p.toNat emT, List.replicate s.toNat noT, k, 0⟩
def newE (p s k : Int) : Int := if sizB p s k = true then 0 else 1

set_option maxRecDepth 100000 in
set_option maxHeartbeats 3200000 in
theorem new_ok (w : World) (p s k : Int) :
    Calls Try.prog 9 #[.int .i64 p, .int .i64 s, .int .i64 k] w fun e w' => TbAns w w' (newE p s k) (newT p s k) e := by
  obtain ⟨w1, hw1⟩ : ∃ w1, w.alloc (.cells #[.slice none 0 0, .slice none 0 0, .int .i64 0, .int .i64 0] 27) = w1 := ⟨_, rfl⟩
  have hm1 : Mod (fun _ => False) w w1 := by rw [← hw1]; exact (Mod.refl _ w).alloc _
  have hb1 : TBx w1 w.heap.size z0 := by rw [← hw1]; exact TBx.new w z0
  have hz1 : w1.heap.size = w.heap.size + 1 := by rw [← hw1]; simp
  have HM := Lib.hid hm1
  have HB := Lib.hid hb1
  have Hz1 := Lib.hid hz1
  have W1 := Lib.hid (sizes_ok w1 p s k)
  clear hm1 hb1 hz1
  unfold newE
  cases hy : sizB p s k with
  | false =>
    rw [hy] at W1
    clear hy
    rw [if_neg (by simp)]
    have fz0 := HB.out.frozen 0
    have fz1 := HB.out.frozen 1
    have fz2 := HB.out.frozen 2
    have fz3 := HB.out.frozen 3
    obtain ⟨z0c, z1c, z2c, z3c⟩ := HB.out.cells
    have hset := HB.out.set z0
    have hmm := stT_mod w1 w.heap.size z0
    obtain ⟨wf, hwf⟩ : ∃ wf, stT w1 w.heap.size z0 = wf := ⟨_, rfl⟩
    unfold stT at hwf hmm
    have hwf : (((w1.setCell ⟨w.heap.size, 0, none⟩ (.slice none 0 0)).setCell ⟨w.heap.size, 1, none⟩ (.slice none 0 0)).setCell ⟨w.heap.size, 2, none⟩ (.int .i64 0)).setCell ⟨w.heap.size, 3, none⟩ (.int .i64 0) = wf := hwf
    have Hset : Hid (TBx wf w.heap.size z0) := hwf ▸ hset
    have Hmm : Hid (Mod (fun q => q = w.heap.size) w1 wf) := hwf ▸ hmm
    clear hset hmm
    go_enter Try.func9, Try.ntmps9
    go_wp2_with fail
    refine W1.out.mono ?_
    rintro e w2 ⟨rfl, rfl⟩
    go_wp2
    clear hwf hw1 fz0 fz1 fz2 fz3 z0c z1c z2c z3c
    have q0 : wf.cell? ⟨w.heap.size, 0, none⟩ = some (.slice none 0 0) := Hset.out.cells.1
    have q1 : wf.cell? ⟨w.heap.size, 1, none⟩ = some (.slice none 0 0) := Hset.out.cells.2.1
    have q2 : wf.cell? ⟨w.heap.size, 2, none⟩ = some (.int .i64 0) := Hset.out.cells.2.2.1
    have q3 : wf.cell? ⟨w.heap.size, 3, none⟩ = some (.int .i64 0) := Hset.out.cells.2.2.2
    refine bodyPost_ret (v := .tuple #[.agg #[.slice none 0 0, .slice none 0 0, .int .i64 0, .int .i64 0], .int .i64 1]) (by simp [results, Try.results9, go_sem, q0, q1, q2, q3]) rfl ?_
    exact ⟨z0, rfl, z0_at _, rfl, ((HM.out.mono (G := fun q => w.heap.size ≤ q) (fun _ _ h => h.elim)).trans Hmm.out (fun q _ e => by show w.heap.size ≤ q; omega)).mono (fun q hq e => by omega)⟩
  | true =>
    rw [hy] at W1
    rw [if_pos rfl]
    unfold sizB at hy
    rw [Bool.and_eq_true, Bool.and_eq_true, inB_iff, inB_iff, inB_iff] at hy
    obtain ⟨⟨⟨hp1, hp2⟩, hs1, hs2⟩, hk1, hk2⟩ := hy
    obtain ⟨P, rfl⟩ : ∃ P : Nat, p = P := ⟨p.toNat, by omega⟩
    obtain ⟨S, rfl⟩ : ∃ S : Nat, s = S := ⟨s.toNat, by omega⟩
    have HT : Hid (newT P S k = ⟨List.replicate P emT, List.replicate S noT, k, 0⟩) := Lib.hid rfl
    go_enter Try.func9, Try.ntmps9
    go_wp2_with fail
    refine W1.out.mono ?_
    rintro e w2 ⟨rfl, rfl⟩
    go_wp2_with fail
    refine (empty_ok _).mono ?_
    rintro e w2 ⟨rfl, hm2⟩
    have Hm2 := Lib.hid hm2
    have hr3 := RBx.new w2 34 emT
    have hm3 : Mod (fun _ => False) w2 (w2.alloc (.cells #[.int .i64 emT.a, .int .i64 emT.b, .int .i64 emT.c] 34)) := (Mod.refl _ w2).alloc _
    obtain ⟨w3, hw3⟩ : ∃ w3, w2.alloc (.cells #[.int .i64 emT.a, .int .i64 emT.b, .int .i64 emT.c] 34) = w3 := ⟨_, rfl⟩
    rw [hw3] at hr3 hm3
    have hw3 : w2.alloc (.cells #[.int .i64 (-1), .int .i64 0, .int .i64 0] 34) = w3 := hw3
    have HRP := Lib.hid (repeat_plElem w3 w2.heap.size emT hr3 P (by omega) (by omega))
    have Hm3 := Lib.hid (hm2.trans hm3 (fun _ _ h => h))
    clear hm2 hm3 hr3 hw1
    go_wp2_with fail
    refine HRP.out.mono ?_
    rintro e w4 ⟨gP, rfl, hP, hm4⟩
    have Hm4 := Lib.hid hm4
    have HP := Lib.hid hP
    clear hm4 hP hw3
    go_wp2_with fail
    refine (free_ok _).mono ?_
    rintro e w5 ⟨rfl, hm5⟩
    have hr6 := RBx.new w5 45 noT
    have hm6 : Mod (fun _ => False) w5 (w5.alloc (.cells #[.int .i64 noT.a, .int .i64 noT.b, .int .i64 noT.c] 45)) := (Mod.refl _ w5).alloc _
    obtain ⟨w6, hw6⟩ : ∃ w6, w5.alloc (.cells #[.int .i64 noT.a, .int .i64 noT.b, .int .i64 noT.c] 45) = w6 := ⟨_, rfl⟩
    rw [hw6] at hr6 hm6
    have hw6 : w5.alloc (.cells #[.int .i64 0, .int .i64 0, .int .i64 0] 45) = w6 := hw6
    have HRS := Lib.hid (repeat_sgElem w6 w5.heap.size noT hr6 S (by omega) (by omega))
    have Hm6 := Lib.hid (hm5.trans hm6 (fun _ _ h => h))
    clear hm5 hm6 hr6
    go_wp2_with fail
    refine HRS.out.mono ?_
    rintro e w7 ⟨gS, rfl, hS, hm7⟩
    have Hm67 := Lib.hid (Hm6.out.trans hm7 (fun _ _ h => h))
    have Hm17 := Lib.hid (Hm3.out.trans (Hm4.out.trans Hm67.out (fun _ _ h => h)) (fun _ _ h => h))
    have HS := Lib.hid hS
    have HP7 := Lib.hid (HP.out.keep Hm67.out)
    have hb7 := HB.out.keep Hm17.out
    clear hm7 hS hw6
    have hsz3 := Hm3.out.size
    have hsz6 := Hm6.out.size
    have hsz4 := Hm4.out.size
    have fz0 := hb7.frozen 0
    have fz1 := hb7.frozen 1
    have fz2 := hb7.frozen 2
    have fz3 := hb7.frozen 3
    obtain ⟨z0c, z1c, z2c, z3c⟩ := hb7.cells
    have hset := hb7.set ⟨some ⟨gP, 0, none⟩, P, P, some ⟨gS, 0, none⟩, S, S, ⟨List.replicate P emT, List.replicate S noT, k, 0⟩⟩
    have hmm := stT_mod w7 w.heap.size ⟨some ⟨gP, 0, none⟩, P, P, some ⟨gS, 0, none⟩, S, S, ⟨List.replicate P emT, List.replicate S noT, k, 0⟩⟩
    obtain ⟨wf, hwf⟩ : ∃ wf, stT w7 w.heap.size ⟨some ⟨gP, 0, none⟩, P, P, some ⟨gS, 0, none⟩, S, S, ⟨List.replicate P emT, List.replicate S noT, k, 0⟩⟩ = wf := ⟨_, rfl⟩
    unfold stT at hwf hmm
    have hwf : (((w7.setCell ⟨w.heap.size, 0, none⟩ (.slice (some ⟨gP, 0, none⟩) P P)).setCell ⟨w.heap.size, 1, none⟩ (.slice (some ⟨gS, 0, none⟩) S S)).setCell ⟨w.heap.size, 2, none⟩ (.int .i64 k)).setCell ⟨w.heap.size, 3, none⟩ (.int .i64 0) = wf := hwf
    have Hset : Hid (TBx wf w.heap.size ⟨some ⟨gP, 0, none⟩, P, P, some ⟨gS, 0, none⟩, S, S, ⟨List.replicate P emT, List.replicate S noT, k, 0⟩⟩) := hwf ▸ hset
    have Hmm : Hid (Mod (fun q => q = w.heap.size) w7 wf) := hwf ▸ hmm
    have Hsz := Lib.hid (And.intro hsz3 (And.intro hsz4 hsz6))
    clear hset hmm hb7 hsz3 hsz4 hsz6
    go_wp2
    clear hwf fz0 fz1 fz2 fz3 z0c z1c z2c z3c
    have q0 : wf.cell? ⟨w.heap.size, 0, none⟩ = some (.slice (some ⟨gP, 0, none⟩) P P) := Hset.out.cells.1
    have q1 : wf.cell? ⟨w.heap.size, 1, none⟩ = some (.slice (some ⟨gS, 0, none⟩) S S) := Hset.out.cells.2.1
    have q2 : wf.cell? ⟨w.heap.size, 2, none⟩ = some (.int .i64 k) := Hset.out.cells.2.2.1
    have q3 : wf.cell? ⟨w.heap.size, 3, none⟩ = some (.int .i64 0) := Hset.out.cells.2.2.2
    refine bodyPost_ret (v := .tuple #[.agg #[.slice (some ⟨gP, 0, none⟩) P P, .slice (some ⟨gS, 0, none⟩) S S, .int .i64 k, .int .i64 0], .int .i64 0]) (by simp [results, Try.results9, go_sem, q0, q1, q2, q3]) rfl ?_
    obtain ⟨z3, z4, z6⟩ := Hsz.out
    have h1 := Hz1.out
    refine ⟨⟨some ⟨gP, 0, none⟩, P, P, some ⟨gS, 0, none⟩, S, S, ⟨List.replicate P emT, List.replicate S noT, k, 0⟩⟩, rfl, ⟨?_, ?_⟩, by rw [if_pos rfl, HT.out], ?_⟩
    · exact (HP7.out.mod Hmm.out (fun q hq e => by have := (HP7.out.lt q hq).1; omega)).tl
    · exact (HS.out.mod Hmm.out (fun q hq e => by have := (HS.out.lt q hq).1; omega)).tl
    · exact (((HM.out.trans Hm17.out (fun _ _ h => h)).mono (G := fun q => w.heap.size ≤ q) (fun _ _ h => h.elim)).trans Hmm.out (fun q _ e => by show w.heap.size ≤ q; omega)).mono (fun q hq e => by omega)
end Go.Proofs.Ythbcgbbcoanbdaa
