/-
  bobbinref06.May: its walk.
-/
import Derived.Test.YtnbamljaiahmdaaGreatQRe
import Derived.Deep.DeepCutAuto
namespace Go.Proofs.YtnbamljaiahmdaaGreat
open Go Go.RowKit

/-- A Val of the call's own, beside what there was. -/
structure In2 (w W : World) (bx : Nat) (v : VlD) : Prop where
  box : W.heap[bx]? = some (.cells #[.bool v.is, .slice v.B v.m v.d] 45 (0, 0))
  mod : Mod (fun _ => False) w W
  lo : w.heap.size ≤ bx
section
variable {w W : World} {bx : Nat} {v : VlD}
theorem In2.c0 (h : In2 w W bx v) : W.cell? ⟨bx, 0, none⟩ = some (.bool v.is) := by rw [cell_of_row _ _ _ _ _ _ h.box]; rfl
theorem In2.c1 (h : In2 w W bx v) : W.cell? ⟨bx, 1, none⟩ = some (.slice v.B v.m v.d) := by rw [cell_of_row _ _ _ _ _ _ h.box]; rfl
theorem In2.late {w7 : World} (hm : Mod (fun _ => False) w w7) (v : VlD) : In2 w (w7.alloc (.cells #[.bool v.is, .slice v.B v.m v.d] 45)) w7.heap.size v := ⟨heap_alloc_new w7 _, hm.alloc _, hm.size⟩
theorem early_box {w7 : World} (hm : Mod (fun _ => False) (w.drew.alloc (.cells #[.bool false, .slice none 0 0] 45)) w7) : w7.heap[w.heap.size]? = some (.cells #[.bool false, .slice none 0 0] 45 (0, 0)) :=
  (hm.block w.heap.size (by rw [World.size_alloc]; show w.heap.size < w.heap.size + 1; omega) id).trans (heap_alloc_new w.drew _)
theorem In2.early {w7 : World} (hm : Mod (fun _ => False) (w.drew.alloc (.cells #[.bool false, .slice none 0 0] 45)) w7) (v : VlD) :
    In2 w ((w7.setCell ⟨w.heap.size, 0, none⟩ (.bool v.is)).setCell ⟨w.heap.size, 1, none⟩ (.slice v.B v.m v.d)) w.heap.size v := by
  have hb := early_box hm
  have hm0 : Mod (fun _ => False) w w7 := ((Mod.refl _ w).drew.alloc _).trans hm (fun _ _ h => h)
  refine ⟨?_, ?_, Nat.le_refl _⟩
  · rw [heap_set (heap_set hb 0 _) 1 _]; rfl
  · exact (hm0.setCell (p := ⟨w.heap.size, 0, none⟩) (fun h => absurd h (Nat.lt_irrefl _)) _).setCell (p := ⟨w.heap.size, 1, none⟩) (fun h => absurd h (Nat.lt_irrefl _)) _
end

theorem letters_q {k : Int} {fl : List Fld} (h : fieldsOf k = some fl) : ((⟨lettersOf k⟩ : ByteArray).toList == [63]) = false := by
  have hk := fields_kind' h
  clear h
  rcases hk with rfl | rfl | rfl | rfl | rfl | rfl | rfl | rfl | rfl | rfl | rfl
  all_goals (rw [ByteArray.toList_eq]; rfl)

set_option maxRecDepth 100000 in
set_option maxHeartbeats 4000000 in
theorem rmay_ok (w : World) (x : RcD) :
    Calls Tryz.prog 93 #[x.val] w fun e w' => e = .returned (.bool (mayB x)) ∧ Mod (fun _ => False) w w' := by
  have HX1 : Hid (x.In (w.alloc (.cells x.cells 47)) w.heap.size) := RcD.In.new w x
  have Hm1 : Hid (Mod (fun _ => False) w (w.alloc (.cells x.cells 47))) := (Mod.refl _ w).alloc _
  cases hfl : fieldsOf x.k with
  | none =>
    have hf := rfields_ok (w.alloc (.cells x.cells 47)) x.k
    have Hr : Hid (mayB x = false) := by show _ = _; unfold mayB; rw [hfl]
    have he : lettersOf x.k = #[63] := by
      obtain ⟨k1, k2, k3, k4, k5, k6, k7, k8, k9, k10, k11⟩ := noKind hfl
      simp only [beq_eq_false_iff_ne] at k1 k2 k3 k4 k5 k6 k7 k8 k9 k10 k11
      simp [lettersOf, k1, k2, k3, k4, k5, k6, k7, k8, k9, k10, k11]
    rw [he] at hf
    have Hf := Lib.hid hf
    clear hf he hfl
    go_enter Tryz.func93, Tryz.ntmps93
    go_wp2_with fail
    refine Hf.out.mono ?_
    rintro e w1 ⟨rfl, rfl⟩
    clear Hf
    go_wp2
    go_ret
    exact ⟨by rw [Hr.out]; rfl, Hm1.out⟩
  | some fl =>
    have Hr := Lib.hid (refMay_ok hfl)
    have Hlen := Lib.hid (letters_len x.k)
    have hf := rfields_ok (w.alloc (.cells x.cells 47)) x.k
    have hqb := letters_q hfl
    obtain ⟨own, hown⟩ : ∃ own : UInt8 → Bool, ∀ c, hasB (lettersOf x.k).toList c = own c := ⟨_, fun _ => rfl⟩
    have Hyes : Hid ((∀ i, 1 ≤ i → i ≤ 9 → numB x i = true) → refMay x = (valB (own 79) x.o && valB (own 78) x.v)) := fun h => by rw [numB_yes h, hown, hown]
    have HnB : Hid (∀ i, numB x i = if own (letter i) then okN (x.f i) (width i) else x.f i == 0) := fun i => by rw [← hown]; rfl
    have Hhas : Hid (∀ (W : World) (c : UInt8), Calls Tryz.prog 103 #[.string ⟨lettersOf x.k⟩, .int .u8 c.toNat] W fun e w' => e = .returned (.bool (own c)) ∧ W = w') := fun W c => by rw [← hown]; exact rhas_ok W _ (lettersOf x.k).toList rfl c (by have := Hlen.out; omega)
    clear hown Hlen hfl
    generalize (⟨lettersOf x.k⟩ : ByteArray) = s at *
    have Hf := Lib.hid hf
    have c0 := HX1.out.kind
    clear hf
    go_enter Tryz.func93, Tryz.ntmps93
    go_wp2_with fail
    refine Hf.out.mono ?_
    rintro e w1 ⟨rfl, rfl⟩
    clear Hf c0
    generalize w.alloc (.cells x.cells 47) = w1 at *
    go_wp2
    clear hqb
    go_loopw [5] (fun i wr => ∃ j : Nat, j ≤ 9 ∧ i = .int .i64 j ∧ x.In wr w.heap.size ∧ Mod (fun _ => False) w wr ∧ ∀ i, 1 ≤ i → i ≤ j → numB x i = true) (fun i _ => 9 - (intOf i).toNat)
    case atStart => exact ⟨0, by omega, rfl, HX1.out, Hm1.out, fun i h1 h2 => by omega⟩
    case round =>
      obtain ⟨j, hj, rfl, hX, hm, hno⟩ := hrel
      have Hno := Lib.hid hno
      have Hm := Lib.hid hm
      have HX := Lib.hid hX
      clear hno hm hX HX1 Hm1
      by_cases hlt : j < 9
      · have Hn1 : Hid (∀ (hp : j < (⟨#[116, 115, 112, 107, 103, 108, 118, 110, 97]⟩ : ByteArray).size) (W : World), Calls Tryz.prog 50 #[x.val, .int .u8 ((⟨#[116, 115, 112, 107, 103, 108, 118, 110, 97]⟩ : ByteArray)[j]'hp).toNat] W fun e w' => e = .returned (.tuple #[.int .i64 (x.f (j + 1)), .int .i64 (width (j + 1) : Nat)]) ∧ Mod (fun _ => False) W w') := fun hp W => by
          rw [nine_at j hp]; exact rnumber_ok W x (j + 1) (by omega) (by omega)
        have Hn2 : Hid (∀ (hp : j < (⟨#[116, 115, 112, 107, 103, 108, 118, 110, 97]⟩ : ByteArray).size) (W : World), Calls Tryz.prog 103 #[.string s, .int .u8 ((⟨#[116, 115, 112, 107, 103, 108, 118, 110, 97]⟩ : ByteArray)[j]'hp).toNat] W fun e w' => e = .returned (.bool (own (letter (j + 1)))) ∧ W = w') := fun hp W => by
          rw [nine_at j hp]; exact Hhas.out W _
        go_wp2
        go_region_held3 (fun w' => w'.cell? ⟨w.heap.size, 0, none⟩ = some (.int .i64 x.k) ∧ w'.cell? ⟨w.heap.size, 1, none⟩ = some (.int .i64 (x.f 1)) ∧ w'.cell? ⟨w.heap.size, 2, none⟩ = some (.int .i64 (x.f 2)) ∧ w'.cell? ⟨w.heap.size, 3, none⟩ = some (.int .i64 (x.f 3)) ∧ w'.cell? ⟨w.heap.size, 4, none⟩ = some (.int .i64 (x.f 4)) ∧ w'.cell? ⟨w.heap.size, 5, none⟩ = some (.int .i64 (x.f 5)) ∧ w'.cell? ⟨w.heap.size, 6, none⟩ = some (.int .i64 (x.f 6)) ∧ w'.cell? ⟨w.heap.size, 7, none⟩ = some (.int .i64 (x.f 7)) ∧ w'.cell? ⟨w.heap.size, 8, none⟩ = some (.int .i64 (x.f 8)) ∧ w'.cell? ⟨w.heap.size, 9, none⟩ = some (.int .i64 (x.f 9)) ∧ w'.cell? ⟨w.heap.size, 10, none⟩ = some (.bool x.o.is) ∧ w'.cell? ⟨w.heap.size, 11, none⟩ = some (.slice x.o.B x.o.m x.o.d) ∧ w'.cell? ⟨w.heap.size, 12, none⟩ = some (.bool x.v.is) ∧ w'.cell? ⟨w.heap.size, 13, none⟩ = some (.slice x.v.B x.v.m x.v.d)) (first | exact HX.out.all | exact ((HX.out.keep (Mod.refl _ wr).drew).keep hm4).all) ((go_at_call 50; refine (Hn1.out hlt _).mono ?_; rintro e w4 ⟨rfl, hm4⟩))
        have hm5 : Mod (fun _ => False) wr w4 := (Mod.refl _ wr).drew.trans hm4 (fun _ _ h => h)
        have HX4 := Lib.hid (HX.out.keep hm5)
        have Hm4 := Lib.hid (Hm.out.trans hm5 (fun _ _ h => h))
        have Hput := Lib.hid (rputAny w4 (x.f (j + 1)) (j + 1))
        clear hm4 hm5 HX Hm Hn1
        have HnJ := Lib.hid (HnB.out (j + 1))
        generalize hz : x.f (j + 1) = z at *
        generalize hwd : width (j + 1) = wd at *
        clear hz hwd
        go_wp2_with fail
        refine Hput.out.mono ?_
        rintro e w5 ⟨⟨A5, m5, c5, rfl⟩, hm5⟩
        have HX5 := Lib.hid (HX4.out.keep hm5)
        have Hm5 := Lib.hid (Hm4.out.trans hm5 (fun _ _ h => h))
        clear hm5 Hput HX4 Hm4
        generalize ho : okN z wd = o at *
        clear ho
        obtain ⟨er, her⟩ : ∃ er : Int, (if o = true then (0 : Int) else 1) = er := ⟨_, rfl⟩
        rw [her]
        have Her := Lib.hid her
        clear her
        go_wp2_with fail
        refine (Hn2.out hlt _).mono ?_
        rintro e w6 ⟨rfl, rfl⟩
        clear Hn2
        generalize ho : own (letter (j + 1)) = ow at *
        clear ho
        by_cases hgood : numB x (j + 1) = true
        · have Hn : Hid (∀ i, 1 ≤ i → i ≤ j + 1 → numB x i = true) := fun i h1 h2 => by
            rcases Nat.lt_or_ge i (j + 1) with h | h
            · exact Hno.out i h1 (by omega)
            · obtain rfl : i = j + 1 := by omega
              exact hgood
          have hg2 := HnJ.out
          rw [hgood] at hg2
          cases ow with
          | true =>
            have ho : o = true := by simpa using hg2.symm
            have he : er = 0 := by rw [← Her.out, ho]; rfl
            subst he
            clear hg2 hgood Her
            go_wp2
            go_roundw
            case rel => exact ⟨j + 1, by omega, by go_num, HX5.out, Hm5.out, Hn.out⟩
            case measure => simp [intOf]; omega
          | false =>
            have hz : z = 0 := by simpa using hg2.symm
            subst hz
            clear hg2 hgood
            go_wp2
            go_roundw
            case rel => exact ⟨j + 1, by omega, by go_num, HX5.out, Hm5.out, Hn.out⟩
            case measure => simp [intOf]; omega
        · have hb : numB x (j + 1) = false := by simpa using hgood
          have Hs : Hid (mayB x = false) := by show _ = _; rw [← Hr.out]; exact numB_no (i := j + 1) (by omega) (by omega) hb
          have hg2 := HnJ.out
          rw [hb] at hg2
          cases ow with
          | true =>
            have ho : o = false := by simpa using hg2.symm
            have he : er = 1 := by rw [← Her.out, ho]; rfl
            subst he
            clear hg2 hgood hb Her
            go_wp2
            go_ret
            exact ⟨by rw [Hs.out]; rfl, Hm5.out⟩
          | false =>
            have hz : (z != 0) = true := by
              have : ¬ z = 0 := by simpa using hg2.symm
              rw [bne_iff_ne]; exact this
            clear hg2 hgood hb
            go_wp2
            go_ret
            exact ⟨by rw [Hs.out]; rfl, Hm5.out⟩
      · have Hj : Hid (j = 9) := by show _ = _; omega
        rw [Hj.out] at Hno
        have Hall := Lib.hid (Hr.out.symm.trans (Hyes.out Hno.out))
        clear Hyes Hno Hr HnB
        go_wp2
        go_loopw [11] (fun i wr => ∃ j : Nat, j ≤ 2 ∧ i = .int .i64 j ∧ x.In wr w.heap.size ∧ Mod (fun _ => False) w wr ∧ (1 ≤ j → valB (own 79) x.o = true) ∧ (2 ≤ j → valB (own 78) x.v = true)) (fun i _ => 2 - (intOf i).toNat)
        case atStart => exact ⟨0, by omega, rfl, HX.out, Hm.out, fun h => absurd h (by omega), fun h => absurd h (by omega)⟩
        case round =>
          obtain ⟨j, hj, rfl, hX, hm, hv1, hv2⟩ := hrel
          have Hv1 := Lib.hid hv1
          have Hv2 := Lib.hid hv2
          have HX2 := Lib.hid hX
          have Hm2 := Lib.hid hm
          clear hv1 hv2 hX hm HX Hm
          rcases (by omega : j = 0 ∨ j = 1 ∨ j = 2) with rfl | rfl | rfl
          · have Hval := Lib.hid (fun W => rvalue_o W x)
            have Hh : Hid (∀ W : World, Calls Tryz.prog 103 #[.string s, .int .u8 79] W fun e w' => e = .returned (.bool (own 79)) ∧ W = w') := fun W => Hhas.out W 79
            have Hea : Hid (∀ (T : Prop) (w7 : World), Mod (fun _ => False) (wr.drew.alloc (.cells #[.bool false, .slice none 0 0] 45)) w7 → (w7.cell? ⟨wr.heap.size, 0, none⟩ = some (.bool false) → w7.cell? ⟨wr.heap.size, 1, none⟩ = some (.slice none 0 0) → w7.frozen? ⟨wr.heap.size, 0, none⟩ = false → w7.frozen? ⟨wr.heap.size, 1, none⟩ = false → T) → T) := fun T w7 hm h =>
              h (by rw [cell_of_row _ _ _ _ _ _ (early_box hm)]; rfl) (by rw [cell_of_row _ _ _ _ _ _ (early_box hm)]; rfl) (frozen_of_block (early_box hm) 0) (frozen_of_block (early_box hm) 1)
            have HS0 : Hid (∀ W : World, Mod (fun _ => False) wr W → x.In W w.heap.size) := fun W hm => HX2.out.keep hm
            go_upto_region 16 with fail
            go_cut [12] from 57 to 91 (fun p wx => ∃ bx, p = .pointer (some ⟨bx, 0, none⟩) ∧ In2 wr wx bx x.o)
            case first =>
              go_region_held3 (fun w' => w'.cell? ⟨w.heap.size, 0, none⟩ = some (.int .i64 x.k) ∧ w'.cell? ⟨w.heap.size, 1, none⟩ = some (.int .i64 (x.f 1)) ∧ w'.cell? ⟨w.heap.size, 2, none⟩ = some (.int .i64 (x.f 2)) ∧ w'.cell? ⟨w.heap.size, 3, none⟩ = some (.int .i64 (x.f 3)) ∧ w'.cell? ⟨w.heap.size, 4, none⟩ = some (.int .i64 (x.f 4)) ∧ w'.cell? ⟨w.heap.size, 5, none⟩ = some (.int .i64 (x.f 5)) ∧ w'.cell? ⟨w.heap.size, 6, none⟩ = some (.int .i64 (x.f 6)) ∧ w'.cell? ⟨w.heap.size, 7, none⟩ = some (.int .i64 (x.f 7)) ∧ w'.cell? ⟨w.heap.size, 8, none⟩ = some (.int .i64 (x.f 8)) ∧ w'.cell? ⟨w.heap.size, 9, none⟩ = some (.int .i64 (x.f 9)) ∧ w'.cell? ⟨w.heap.size, 10, none⟩ = some (.bool x.o.is) ∧ w'.cell? ⟨w.heap.size, 11, none⟩ = some (.slice x.o.B x.o.m x.o.d) ∧ w'.cell? ⟨w.heap.size, 12, none⟩ = some (.bool x.v.is) ∧ w'.cell? ⟨w.heap.size, 13, none⟩ = some (.slice x.v.B x.v.m x.v.d)) (first | exact (HS0.out _ (Mod.refl _ wr).drew).all | exact (HS0.out _ ((Mod.refl _ wr).drew.alloc _)).all | exact (HS0.out _ ((Mod.refl _ wr).drew.trans hm4 (fun _ _ h => h))).all | exact (HS0.out _ (((Mod.refl _ wr).drew.trans hm4 (fun _ _ h => h)).alloc _)).all | exact (HS0.out _ (((Mod.refl _ wr).drew.alloc _).trans hm4 (fun _ _ h => h))).all | exact (HS0.out _ (In2.early hm4 x.o).mod).all) ((go_at_call 94; refine (Hval.out _).mono ?_; rintro e w4 ⟨rfl, hm4⟩; first | (refine Hea.out _ _ hm4 ?_; intro y0 y1 y2 y3) | skip))
              all_goals
                go_wp2_with fail
                go_meet
                first
                  | exact ⟨_, rfl, In2.late ((Mod.refl _ wr).drew.trans hm4 (fun _ _ h => h)) x.o⟩
                  | exact ⟨_, rfl, In2.early hm4 x.o⟩
            case rest =>
              obtain ⟨bx, rfl, hin⟩ := hcut
              clear Hea HS0
              have c0 := hin.c0
              have c1 := hin.c1
              have HX8 := Lib.hid (HX2.out.keep hin.mod)
              have Hm8 := Lib.hid (Hm2.out.trans hin.mod (fun _ _ h => h))
              clear hin HX2 Hm2 Hval
              go_wp2_with fail
              refine (Hh.out _).mono ?_
              rintro e w9 ⟨rfl, rfl⟩
              clear Hh
              by_cases hvv : valB (own 79) x.o = true
              · have Hb := Lib.hid hvv
                have hm32 : (x.o.m : Int) ≤ 32 := by simp only [valB, Bool.and_eq_true, decide_eq_true_eq] at hvv; exact hvv.1.1
                cases how : own 79
                all_goals cases his : x.o.is
                all_goals
                  rw [how] at hvv
                  rw [his] at c0
                  simp [valB, his] at hvv
                all_goals try have hm0 : (x.o.m : Int) ≤ 0 := by omega
                all_goals clear hvv how his
                all_goals
                  go_wp2
                  go_roundw
                  case rel => exact ⟨1, by omega, by go_num, HX8.out, Hm8.out, fun _ => Hb.out, fun h => absurd h (by omega)⟩
                  case measure => simp [intOf]
              · have hvf : valB (own 79) x.o = false := by simpa using hvv
                have Hb := Lib.hid hvf
                have Hs : Hid (mayB x = false) := by show _ = _; rw [Hall.out]; rw [Hb.out]; rfl
                clear hvv
                by_cases hm32 : (x.o.m : Int) ≤ 32
                · cases how : own 79
                  all_goals cases his : x.o.is
                  all_goals
                    rw [how] at hvf
                    rw [his] at c0
                    simp [valB, his, hm32] at hvf
                  all_goals try have hm0 : (0 : Int) < x.o.m := by omega
                  all_goals clear hvf how his
                  all_goals
                    go_wp2
                    go_ret
                    exact ⟨by rw [Hs.out]; rfl, Hm8.out⟩
                · clear hvf
                  go_wp2
                  go_ret
                  exact ⟨by rw [Hs.out]; rfl, Hm8.out⟩
          · have Hval := Lib.hid (fun W => rvalue_v W x)
            have Hh : Hid (∀ W : World, Calls Tryz.prog 103 #[.string s, .int .u8 78] W fun e w' => e = .returned (.bool (own 78)) ∧ W = w') := fun W => Hhas.out W 78
            have Hea : Hid (∀ (T : Prop) (w7 : World), Mod (fun _ => False) (wr.drew.alloc (.cells #[.bool false, .slice none 0 0] 45)) w7 → (w7.cell? ⟨wr.heap.size, 0, none⟩ = some (.bool false) → w7.cell? ⟨wr.heap.size, 1, none⟩ = some (.slice none 0 0) → w7.frozen? ⟨wr.heap.size, 0, none⟩ = false → w7.frozen? ⟨wr.heap.size, 1, none⟩ = false → T) → T) := fun T w7 hm h =>
              h (by rw [cell_of_row _ _ _ _ _ _ (early_box hm)]; rfl) (by rw [cell_of_row _ _ _ _ _ _ (early_box hm)]; rfl) (frozen_of_block (early_box hm) 0) (frozen_of_block (early_box hm) 1)
            have HS0 : Hid (∀ W : World, Mod (fun _ => False) wr W → x.In W w.heap.size) := fun W hm => HX2.out.keep hm
            go_upto_region 16 with fail
            go_cut [12] from 57 to 91 (fun p wx => ∃ bx, p = .pointer (some ⟨bx, 0, none⟩) ∧ In2 wr wx bx x.v)
            case first =>
              go_region_held3 (fun w' => w'.cell? ⟨w.heap.size, 0, none⟩ = some (.int .i64 x.k) ∧ w'.cell? ⟨w.heap.size, 1, none⟩ = some (.int .i64 (x.f 1)) ∧ w'.cell? ⟨w.heap.size, 2, none⟩ = some (.int .i64 (x.f 2)) ∧ w'.cell? ⟨w.heap.size, 3, none⟩ = some (.int .i64 (x.f 3)) ∧ w'.cell? ⟨w.heap.size, 4, none⟩ = some (.int .i64 (x.f 4)) ∧ w'.cell? ⟨w.heap.size, 5, none⟩ = some (.int .i64 (x.f 5)) ∧ w'.cell? ⟨w.heap.size, 6, none⟩ = some (.int .i64 (x.f 6)) ∧ w'.cell? ⟨w.heap.size, 7, none⟩ = some (.int .i64 (x.f 7)) ∧ w'.cell? ⟨w.heap.size, 8, none⟩ = some (.int .i64 (x.f 8)) ∧ w'.cell? ⟨w.heap.size, 9, none⟩ = some (.int .i64 (x.f 9)) ∧ w'.cell? ⟨w.heap.size, 10, none⟩ = some (.bool x.o.is) ∧ w'.cell? ⟨w.heap.size, 11, none⟩ = some (.slice x.o.B x.o.m x.o.d) ∧ w'.cell? ⟨w.heap.size, 12, none⟩ = some (.bool x.v.is) ∧ w'.cell? ⟨w.heap.size, 13, none⟩ = some (.slice x.v.B x.v.m x.v.d)) (first | exact (HS0.out _ (Mod.refl _ wr).drew).all | exact (HS0.out _ ((Mod.refl _ wr).drew.alloc _)).all | exact (HS0.out _ ((Mod.refl _ wr).drew.trans hm4 (fun _ _ h => h))).all | exact (HS0.out _ (((Mod.refl _ wr).drew.trans hm4 (fun _ _ h => h)).alloc _)).all | exact (HS0.out _ (((Mod.refl _ wr).drew.alloc _).trans hm4 (fun _ _ h => h))).all | exact (HS0.out _ (In2.early hm4 x.v).mod).all) ((go_at_call 94; refine (Hval.out _).mono ?_; rintro e w4 ⟨rfl, hm4⟩; first | (refine Hea.out _ _ hm4 ?_; intro y0 y1 y2 y3) | skip))
              all_goals
                go_wp2_with fail
                go_meet
                first
                  | exact ⟨_, rfl, In2.late ((Mod.refl _ wr).drew.trans hm4 (fun _ _ h => h)) x.v⟩
                  | exact ⟨_, rfl, In2.early hm4 x.v⟩
            case rest =>
              obtain ⟨bx, rfl, hin⟩ := hcut
              clear Hea HS0
              have c0 := hin.c0
              have c1 := hin.c1
              have HX8 := Lib.hid (HX2.out.keep hin.mod)
              have Hm8 := Lib.hid (Hm2.out.trans hin.mod (fun _ _ h => h))
              clear hin HX2 Hm2 Hval
              go_wp2_with fail
              refine (Hh.out _).mono ?_
              rintro e w9 ⟨rfl, rfl⟩
              clear Hh
              by_cases hvv : valB (own 78) x.v = true
              · have Hb := Lib.hid hvv
                have hm32 : (x.v.m : Int) ≤ 32 := by simp only [valB, Bool.and_eq_true, decide_eq_true_eq] at hvv; exact hvv.1.1
                cases how : own 78
                all_goals cases his : x.v.is
                all_goals
                  rw [how] at hvv
                  rw [his] at c0
                  simp [valB, his] at hvv
                all_goals try have hm0 : (x.v.m : Int) ≤ 0 := by omega
                all_goals clear hvv how his
                all_goals
                  go_wp2
                  go_roundw
                  case rel => exact ⟨2, by omega, by go_num, HX8.out, Hm8.out, fun _ => Hv1.out (by omega), fun _ => Hb.out⟩
                  case measure => simp [intOf]
              · have hvf : valB (own 78) x.v = false := by simpa using hvv
                have Hb := Lib.hid hvf
                have Hs : Hid (mayB x = false) := by show _ = _; rw [Hall.out]; rw [Hb.out, Bool.and_false]
                clear hvv
                by_cases hm32 : (x.v.m : Int) ≤ 32
                · cases how : own 78
                  all_goals cases his : x.v.is
                  all_goals
                    rw [how] at hvf
                    rw [his] at c0
                    simp [valB, his, hm32] at hvf
                  all_goals try have hm0 : (0 : Int) < x.v.m := by omega
                  all_goals clear hvf how his
                  all_goals
                    go_wp2
                    go_ret
                    exact ⟨by rw [Hs.out]; rfl, Hm8.out⟩
                · clear hvf
                  go_wp2
                  go_ret
                  exact ⟨by rw [Hs.out]; rfl, Hm8.out⟩
          · have Ht : Hid (mayB x = true) := by show _ = _; rw [Hall.out, Hv1.out (by omega), Hv2.out (by omega)]; rfl
            go_wp2
            go_ret
            exact ⟨by rw [Ht.out]; rfl, Hm2.out⟩
end Go.Proofs.YtnbamljaiahmdaaGreat
