/-
  What a call of the statement BytJoins does: it answers true, and turns nothing that was there.
-/
import Derived.Test.YtllpiegdjaafnaaRowN
import Derived.StillTailTactics
import Derived.Deep.DeepCutAuto
namespace Go.Proofs.Ytllpiegdjaafnaa
open Go Go.RowKit

set_option maxRecDepth 100000 in
set_option maxHeartbeats 1600000 in
theorem wrote_ok (A : Option Addr) (n c B : Nat) (l : List OpD) (w : World) (h : OpsAt w B A n c l) (hB : B ≤ w.heap.size) (hn : n ≤ 120) :
    Calls Try.prog 23 #[.slice A n c] w fun e w' => ∃ s, e = .returned (.slice (some ⟨s, 0, none⟩) (opsBytes l).length (opsBytes l).length) ∧
      OwV w' w.heap.size 5 (some ⟨s, 0, none⟩) (opsBytes l).length (opsBytes l).length ((opsBytes l).map bv) ∧ Mod (fun _ => False) w w' := by
  have hlen := h.1
  have Hlen := Lib.hid hlen
  clear hlen
  go_enter Try.func23, Try.ntmps23
  go_wp2
  have hw0 := Wr.new w w.heap.size (Nat.le_refl _)
  have hM0 : Mod (fun k => w.heap.size ≤ k) w (w.alloc (.cells #[.slice none 0 0] 28)) := (Mod.refl _ w).alloc _
  obtain ⟨g, hg⟩ : ∃ g, g = w.heap.size := ⟨_, rfl⟩
  rw [← hg]
  have hw0 : Wr (w.alloc (.cells #[.slice none 0 0] 28)) w.heap.size g none 0 0 [] := by rw [hg]; exact hw0
  have Hg := Lib.hid hg
  clear hg
  go_loopw [4] (fun i wr => ∃ (j : Nat) (A1 : Option Addr) (c1 : Nat), j ≤ n ∧ i = .int .i64 j ∧ Wr wr w.heap.size g A1 (opsBytes (l.take j)).length c1 (opsBytes (l.take j)) ∧ Mod (fun k => w.heap.size ≤ k) w wr) (fun i _ => n - (intOf i).toNat)
  case atStart => exact ⟨0, none, 0, by omega, rfl, hw0, hM0⟩
  case round =>
    obtain ⟨j, A1, c1, hj, rfl, hw, hM⟩ := hrel
    have hbl : (opsBytes (l.take j)).length ≤ 256 * 120 := by
      have := opsBytes_len (l.take j) (fun y hy => (h.2.2.2 y (List.mem_of_mem_take hy)).1.1)
      have h3 : (l.take j).length ≤ j := List.length_take_le _ _
      omega
    have hMs := hM.size
    by_cases hlt : j < n
    · obtain ⟨b, o, rfl, hbB, hcells⟩ := h.2.2.1 (by omega)
      have hjl : j < l.length := by rw [Hlen.out]; exact hlt
      have hbel : Below B w wr := hM.below hB (fun _ h => by omega)
      obtain ⟨q0, q1, q2, q3⟩ := hcells j l[j] (List.getElem?_eq_getElem hjl)
      have r0 := (hbel.cell (p := ⟨b, o + j * 4, none⟩) hbB).trans q0
      have r1 := (hbel.cell (p := ⟨b, o + j * 4 + 1, none⟩) hbB).trans q1
      have r2 := (hbel.cell (p := ⟨b, o + j * 4 + 2, none⟩) hbB).trans q2
      have r3 := (hbel.cell (p := ⟨b, o + j * 4 + 3, none⟩) hbB).trans q3
      clear hcells q0 q1 q2 q3
      have hxA := (h.2.2.2 l[j] (List.getElem_mem hjl)).below hbel
      have Hsn := Lib.hid (opsBytes_snoc l j hjl)
      obtain ⟨x, hxe⟩ : ∃ x, l[j] = x := ⟨_, rfl⟩
      rw [hxe] at r0 r1 r2 r3 hxA
      obtain ⟨hxw, hxB⟩ := hxA
      have hbx : x.bytes.length ≤ 256 := OpD.bytes_len hxw.1
      by_cases hlay : x.lay = true
      · have e1 : opsBytes (l.take (j + 1)) = opsBytes (l.take j) ++ layBytes x.m x.xs := by rw [Hsn.out, hxe]; simp [OpD.bytes, hlay]
        have HE := Lib.hid e1
        rw [hlay] at r0
        clear hlay e1 hxe
        go_wp2_with fail
        refine (lay_any _ _ _ _ _ _ _ hw (by omega) _ _ _ _ hxw (fun k e hp hF => absurd hF (hw.wf (by have := hxB k e hp; omega)))).mono ?_
        rintro e w3 ⟨rfl, A3, c3, hw3, hm3, hh3⟩
        have hM3 := hw.step hM hm3
        clear r0 r1 r2 r3 hm3 hh3
        go_wp2
        go_roundw
        case rel => exact ⟨j + 1, A3, c3, by omega, by go_num, by rw [HE.out, List.length_append]; exact hw3, hM3⟩
        case measure => simp [intOf]; omega
      · have hlay : x.lay = false := by simpa using hlay
        have e1 : opsBytes (l.take (j + 1)) = opsBytes (l.take j) ++ putBytes x.n x.width := by rw [Hsn.out, hxe]; simp [OpD.bytes, hlay]
        have HE := Lib.hid e1
        rw [hlay] at r0
        clear hlay e1 hxe
        go_wp2_with fail
        go_still_tail 11, (by kernel_rfl)
        change wpList _ _ _ _ _ wr.drew
        have hwd : Wr wr.drew w.heap.size g A1 (opsBytes (l.take j)).length c1 (opsBytes (l.take j)) := hw
        have hMd : Mod (fun k => w.heap.size ≤ k) w wr.drew := hM.drew
        clear hw hM r0 r1 r2 r3
        generalize wr.drew = wd at *
        go_wp2_with fail
        refine (put_any _ _ _ _ _ _ _ hwd (by omega) _ _).mono ?_
        rintro e w3 ⟨rfl, A3, c3, hw3, hm3, hh3⟩
        have hM3 := hwd.step hMd hm3
        clear hm3 hh3
        go_wp2
        go_roundw
        case rel => exact ⟨j + 1, A3, c3, by omega, by go_num, by rw [HE.out, List.length_append]; exact hw3, hM3⟩
        case measure => simp [intOf]; omega
    · obtain rfl : j = n := by omega
      have ht : l.take j = l := List.take_of_length_le (by rw [Hlen.out]; omega)
      rw [ht] at hw hbl
      go_wp2_with fail
      refine (bytes_ok _ _ _ _ _ _ _ hw (by omega)).mono ?_
      rintro e w3 ⟨rfl, hf3⟩
      have hx3 : OwV w3 w.heap.size 5 (some ⟨wr.heap.size, 0, none⟩) (opsBytes l).length (opsBytes l).length ((opsBytes l).map bv) := by
        have := OwV.of_block (base := w.heap.size) hMs hf3.1 (by simp; unfold maxLen; omega)
        simpa using this
      have hM3 : Mod (fun k => w.heap.size ≤ k) w w3 := hM.trans hf3.2.2 (fun _ _ h => h.elim)
      clear hf3
      go_wp2
      go_ret
      exact ⟨_, rfl, hx3, hM3.mono (fun i hi h => by omega)⟩

theorem opsBytes_append (a b : List OpD) : opsBytes (a ++ b) = opsBytes a ++ opsBytes b := by simp [opsBytes]
theorem opsCells_append (a b : List OpD) : opsCells (a ++ b) = opsCells a ++ opsCells b := by simp [opsCells]

theorem fewB_len {l : List OpD} (h : fewB l = true) : l.length ≤ 60 := by
  simp only [fewB, Bool.and_eq_true, decide_eq_true_eq] at h; exact h.1

set_option maxRecDepth 100000 in
set_option maxHeartbeats 1600000 in
theorem joins_walk (A B : Option Addr) (n c m d : Nat) (l k : List OpD) (w : World) (h : OpsAt w w.heap.size A n c l) (hk : OpsAt w w.heap.size B m d k) :
    Calls Try.prog 7 #[.slice A n c, .slice B m d] w fun e w' => e = .returned (.bool true) ∧ Below w.heap.size w w' := by
  go_enter Try.func7, Try.ntmps7
  go_wp2_with fail
  refine (awake_ok _).mono ?_
  rintro e w1 ⟨rfl, hm1⟩
  have h1 := h.mod (Nat.le_refl _) hm1 (fun _ _ => id)
  have hk1 := hk.mod (Nat.le_refl _) hm1 (fun _ _ => id)
  have hM1 : Mod (fun k => w.heap.size ≤ k) w w1 := hm1.mono (fun _ _ h => h.elim)
  have hs1 := hM1.size
  clear hm1
  go_wp2_with fail
  refine (few_ok _ _ _ _ _ _ h1).mono ?_
  rintro e w2 ⟨rfl, rfl⟩
  go_wp2_with fail
  refine (few_ok _ _ _ _ _ _ hk1).mono ?_
  rintro e w2 ⟨rfl, rfl⟩
  by_cases hf : fewB l = false
  · rw [hf]
    go_wp2
    go_ret
    exact ⟨rfl, hM1.below (Nat.le_refl _) (fun _ h => by omega)⟩
  by_cases hf2 : fewB k = false
  · rw [hf2, show fewB l = true by simpa using hf]
    clear hf hf2
    go_wp2
    go_ret
    exact ⟨rfl, hM1.below (Nat.le_refl _) (fun _ h => by omega)⟩
  have hf : fewB l = true := by simpa using hf
  have hf2 : fewB k = true := by simpa using hf2
  have hn : n ≤ 60 := by have := fewB_len hf; have := h1.1; omega
  have hm : m ≤ 60 := by have := fewB_len hf2; have := hk1.1; omega
  have hlA : (opsBytes l).length ≤ 256 * 60 := by
    have := opsBytes_len l (fun y hy => (h1.2.2.2 y hy).1.1)
    have := h1.1
    omega
  have hlB : (opsBytes k).length ≤ 256 * 60 := by
    have := opsBytes_len k (fun y hy => (hk1.2.2.2 y hy).1.1)
    have := hk1.1
    omega
  rw [hf, hf2]
  have hsA := h1.src
  have hsB := hk1.src
  have hnil := OwN.nil w1 w1.heap.size 30 4
  have hml : 0 + n ≤ maxLen := by unfold maxLen; omega
  have hml2 : n + m ≤ maxLen := by unfold maxLen; omega
  clear hf hf2 h hk
  go_upto_region 6 with (fail)
  go_wp2_with (with_reducible refine wpList_appN (.const (.slice none 0 0)) (.tmp 25) opElem rfl rfl rfl rfl hnil hsA ?hb1 hml (Nat.le_refl _) ?_)
  case hb1 => omega
  intro A2 c2 w2 ho2 hg2 _
  have hm2 : Mod (fun _ => False) w1 w2 := (Mod.refl _ w1).grown hg2 (fun k e _ => by simp [blkOf] at e)
  have ho2 : OwN w2 w1.heap.size 30 4 A2 n c2 (opsCells l) := by simpa using ho2
  have hk2 := hk1.mod hs1 hm2 (fun _ _ => id)
  have h2 := h1.mod hs1 hm2 (fun _ _ => id)
  have hsB2 := hk2.src
  have hs2 := hm2.size
  try rw [Nat.zero_add]
  clear hsA hsB hg2 hnil
  go_wp2_with (with_reducible refine wpList_appN (.tmp 26) (.tmp 27) opElem rfl rfl rfl rfl ho2 hsB2 ?hb2 hml2 hs2 ?_)
  case hb2 => omega
  intro A3 c3 w3 ho3 hg3 _
  have hm3 : Mod (fun k => w1.heap.size ≤ k) w2 w3 := (Mod.refl _ w2).grown hg3 (fun k e _ => (ho2.lt k e).1)
  have h3 := h2.mod (Nat.le_trans hs1 hs2) hm3 (fun _ h => by omega)
  have hk3 := hk2.mod (Nat.le_trans hs1 hs2) hm3 (fun _ h => by omega)
  have hs3 := hm3.size
  rw [← opsCells_append] at ho3
  have hall : OpsAt w3 w3.heap.size A3 (n + m) c3 (l ++ k) := ho3.ops (Nat.le_refl _) (fun x hx => by
    rcases List.mem_append.1 hx with hx | hx
    · exact ⟨(h3.2.2.2 x hx).1, fun q e hp => by have := (h3.2.2.2 x hx).2 q e hp; omega⟩
    · exact ⟨(hk3.2.2.2 x hx).1, fun q e hp => by have := (hk3.2.2.2 x hx).2 q e hp; omega⟩)
  have hM3 : Mod (fun k => w.heap.size ≤ k) w w3 := (hM1.trans hm2 (fun _ _ h => h.elim)).trans hm3 (fun i hi h => by omega)
  clear ho2 ho3 hg3 hm3 hm2 hM1 hk2 h2 hk1 h1 hsB2
  -- the whole list
  go_wp2_with fail
  refine (wrote_ok _ _ _ _ _ _ hall (Nat.le_refl _) (by omega)).mono ?_
  rintro e w4 ⟨s4, rfl, ho4, hm4⟩
  have h4 := h3.mod (by omega) hm4 (fun _ _ => id)
  have hk4 := hk3.mod (by omega) hm4 (fun _ _ => id)
  have hM4 : Mod (fun k => w.heap.size ≤ k) w w4 := hM3.trans hm4 (fun _ _ h => h.elim)
  have hs4 := hm4.size
  clear hm4 hM3 h3 hk3 hall
  go_wp2_with fail
  refine (wrote_ok _ _ _ _ _ _ h4 (by omega) (by omega)).mono ?_
  rintro e w5 ⟨s5, rfl, ho5, hm5⟩
  have hk5 := hk4.mod (by omega) hm5 (fun _ _ => id)
  have ho45 := ho4.mod hm5 (fun _ _ => id)
  have hM5 : Mod (fun k => w.heap.size ≤ k) w w5 := hM4.trans hm5 (fun _ _ h => h.elim)
  have hs5 := hm5.size
  have hl4 := ho4.lt
  clear hm5 hM4 h4 hk4 ho4
  go_wp2_with fail
  refine (wrote_ok _ _ _ _ _ _ hk5 (by omega) (by omega)).mono ?_
  rintro e w6 ⟨s6, rfl, ho6, hm6⟩
  have ho46 := ho45.mod hm6 (fun _ _ => id)
  have ho56 := ho5.mod hm6 (fun _ _ => id)
  have hM6 : Mod (fun k => w.heap.size ≤ k) w w6 := hM5.trans hm6 (fun _ _ h => h.elim)
  have hs6 := hm6.size
  have hl5 := ho5.lt
  have hsrc6 := ho6.sl.src
  have hml6 : (opsBytes l).length + (opsBytes k).length ≤ maxLen := by unfold maxLen; omega
  have hb6 : ((opsBytes l).length + (opsBytes k).length) * 1 ≤ 140737488355328 := by omega
  have hbs6 : w4.heap.size ≤ w6.heap.size := by omega
  clear hm6 hM5 hk5 ho45 ho5
  go_wp2_with (at_builtin; refine wpList_app (.tmp 32) (.tmp 34) byteElem rfl rfl rfl rfl ho56 hsrc6 hb6 hml6 hbs6 ?_)
  intro A7 c7 w7 ho7 hg7 _
  have ho7 : OwV w7 w4.heap.size 5 A7 ((opsBytes l).length + (opsBytes k).length) c7 ((opsBytes (l ++ k)).map bv) := by rw [opsBytes_append, List.map_append]; exact ho7
  have hsl7 := ho7.sl
  have hM7 : Mod (fun k => w.heap.size ≤ k) w w7 := hM6.grown hg7 (fun q e _ => by have := (ho56.lt q e).1; omega)
  have ho47 : OwV w7 _ _ _ _ _ _ := ho46.mod ((Mod.refl (fun q => blkOf (some (⟨s5, 0, none⟩ : Addr)) = some q) w6).grown hg7 (fun q e _ => e)) (fun q e e2 => by
    have := hl4 q e
    have := hl5 q e2
    omega)
  have hsl4 := ho47.sl
  have hl7 : (opsBytes (l ++ k)).length = (opsBytes l).length + (opsBytes k).length := by rw [opsBytes_append, List.length_append]
  have Hl7 := Lib.hid hl7
  clear ho7 hg7 ho56 ho46 ho47 hM6 hsrc6 hl7 ho6
  go_wp2_with fail
  refine (same_ok _ _ _ _ _ _ _ _ _ hsl4 hsl7 (by rw [Hl7.out]; omega) (by omega)).mono ?_
  rintro e w8 ⟨rfl, q, rfl⟩
  rw [eqB_self]
  go_wp2
  go_ret
  exact ⟨rfl, (hM7.drewN q).below (Nat.le_refl _) (fun _ h => by omega)⟩
end Go.Proofs.Ytllpiegdjaafnaa
