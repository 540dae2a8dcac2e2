/-
  bobbinref06.Decode: its walk, a part of its ways.
-/
import Derived.Test.YtnbamljaiahmdaaGreatQRfD2
import Derived.StillTailTactics
namespace Go.Proofs.YtnbamljaiahmdaaGreat
open Go Go.RowKit

set_option maxRecDepth 100000 in
set_option maxHeartbeats 4000000 in
theorem rdecode_some2 (w : World) (A : Option Addr) (n c : Nat) (b : UInt8) (ys : List UInt8) (h : Sl w A n c (b :: ys)) (fl : List Fld) (hfl : fieldsOf b.toNat = some fl) (hn : n ≤ 1000000) (hc : c ≤ maxLen) (hb : Only b ys fl 2) (he : ∀ r zs, decJ b ys fl fl.length ≠ .got r zs) :
    Calls Tryz.prog 47 #[.slice A n c] w fun e w' => RAns w w' e (decode (b :: ys)) ∧ Mod (fun _ => False) w w' := by
  have Hb := Lib.hid hb
  have He := Lib.hid he
  clear he
  have hl := h.len
  have hp : 0 < n := by rw [← hl]; simp
  obtain ⟨B, o, rfl, hcell⟩ := h.2.2 hp
  obtain ⟨w1, hw1⟩ : ∃ w1, w.alloc (.cells #[.int .i64 0, .int .i64 0, .int .i64 0, .int .i64 0, .int .i64 0, .int .i64 0, .int .i64 0, .int .i64 0, .int .i64 0, .int .i64 0, .bool false, .slice none 0 0, .bool false, .slice none 0 0] 47) = w1 := ⟨_, rfl⟩
  have hm1 : Mod (fun _ => False) w w1 := by rw [← hw1]; exact (Mod.refl _ w).alloc _
  have hs1 : w1.heap.size = w.heap.size + 1 := by rw [← hw1, World.size_alloc]
  have hc0 : w1.cell? ⟨B, o, none⟩ = some (.int .u8 b.toNat) := (World.cell?_of_block (hm1.block B (World.block_lt_of_cell? w _ (hcell 0 hp)) id)).trans (hcell 0 hp)
  have hz1 : RcD.zero.In w1 w.heap.size := by rw [← hw1]; exact RcD.In.new w RcD.zero
  obtain ⟨w2, hw2⟩ : ∃ w2, w1.alloc (.cells #[.int .i64 b.toNat, .int .i64 0, .int .i64 0, .int .i64 0, .int .i64 0, .int .i64 0, .int .i64 0, .int .i64 0, .int .i64 0, .int .i64 0, .bool false, .slice none 0 0, .bool false, .slice none 0 0] 47) = w2 := ⟨_, rfl⟩
  have hm2 : Mod (fun _ => False) w1 w2 := by rw [← hw2]; exact (Mod.refl _ w1).alloc _
  have hs2 : w2.heap.size = w.heap.size + 2 := by rw [← hw2, World.size_alloc, hs1]
  have hr2 : (⟨b.toNat, fun _ => 0, VlD.none, VlD.none⟩ : RcD).In w2 w1.heap.size := by rw [← hw2]; exact RcD.In.new w1 ⟨b.toNat, fun _ => 0, VlD.none, VlD.none⟩
  rw [hs1] at hr2
  have HR2 : Hid (RD w w2 b ys fl 0 1 ⟨b.toNat, fun _ => 0, VlD.none, VlD.none⟩) := ⟨hr2, hz1.keep hm2, VlD.none_own _ _, VlD.none_own _ _, hm1.trans hm2 (fun _ _ h => h), Nat.le_of_eq hs2.symm, rfl⟩
  have Hs1 := Lib.hid hs1
  have Hf := Lib.hid (rfields_ok w2 b.toNat)
  have hqb := letters_q hfl
  have Hsz := Lib.hid (letters_size hfl)
  have Hat := Lib.hid (letters_at hfl)
  have Hfl6 := Lib.hid (fields_len hfl)
  have Hfl := Lib.hid hfl
  have HSl := Lib.hid h
  have Hl := Lib.hid hl
  have hnc := h.cap
  have Hc := Lib.hid hc
  have hnI : (n : Int) ≤ 1000000 := by omega
  have hb256 : ((b.toNat : Nat) : Int) < 256 := by have := b.toNat_lt; omega
  have hp1 : (1 : Int) ≤ n := by omega
  have hcI : (c : Int) ≤ 9223372036854775807 := by unfold maxLen at hc; omega
  have hbz : ((n : Int) == 0) = false := by rw [beq_eq_false_iff_ne]; omega
  have Hw2 := Lib.hid hw2
  clear hm1 hz1 hm2 hr2 hcell h hl hs1 hs2 hfl hn hc hp hw2 hb
  generalize (⟨lettersOf b.toNat⟩ : ByteArray) = s at *
  have hs6 : (s.size : Int) ≤ 6 := by have := Hsz.out; have := Hfl6.out; omega
  go_enter Tryz.func47, Tryz.ntmps47
  go_wp2_with fail
  rw [Hw2.out]
  clear hw1 Hw2
  refine Hf.out.mono ?_
  rintro e w3 ⟨rfl, rfl⟩
  clear Hf hc0
  rw [Hs1.out]
  clear Hs1
  go_wp2
  clear hqb hbz
  go_loopw [6, 7] (fun a i wr => ∃ (j at_ : Nat) (y : RcD), j ≤ s.size ∧ i = .int .i64 j ∧ a = .int .i64 at_ ∧ 1 ≤ at_ ∧ at_ ≤ n ∧ RD w wr b ys fl j at_ y) (fun _ i _ => 6 - (intOf i).toNat)
  case atStart => exact ⟨0, 1, _, by omega, rfl, rfl, by omega, by omega, HR2.out⟩
  case round =>
    obtain ⟨j, at_, y, hj, rfl, rfl, ha1, han, hR⟩ := hrel
    have HR := Lib.hid hR
    clear hR HR2
    by_cases hlt : j < s.size
    · obtain ⟨f, hf, hsf, hstd⟩ := Hat.out j hlt
      have Hf := Lib.hid hf
      clear hf
      have hIr := HR.out.r
      cases f with
      | num i wd =>
        obtain ⟨h1, h9, rfl⟩ := hstd
        replace hsf : s[j]'hlt = letter i := hsf
        have hb79 : ((((s[j]'hlt).toNat : Nat) : Int) == 79) = false := by rw [hsf]; exact (letter_not h1 h9).1
        have hb78 : ((((s[j]'hlt).toNat : Nat) : Int) == 78) = false := by rw [hsf]; exact (letter_not h1 h9).2
        have Hn : Hid (∀ (hp : j < s.size) (W : World), Calls Tryz.prog 50 #[y.val, .int .u8 ((s[j]'hp).toNat : Nat)] W fun e w' => e = .returned (.tuple #[.int .i64 (y.f i), .int .i64 (width i : Nat)]) ∧ Mod (fun _ => False) W w') := fun hp W => by
          rw [hsf]; exact rnumber_ok W y i h1 h9
        obtain ⟨hw1, hw4⟩ := width_ok i
        have hw0 : 1 ≤ width i := by unfold width; split <;> (try split) <;> omega
        have Hp : Hid (∀ (hp : j < s.size) (W : World) (z : Int), Calls Tryz.prog 67 #[y.val, .int .u8 ((s[j]'hp).toNat : Nat), .int .i64 z] W fun e w' => e = .returned (.agg ({ y with f := upd y.f i z } : RcD).cells) ∧ Mod (fun _ => False) W w') := fun hp W z => by
          rw [hsf]; exact rput_ok W y i h1 h9 z
        have Hw1 := Lib.hid hw1
        clear hsf hIr hw1
        go_wp2
        go_region_held3 (fun w' => w'.cell? ⟨w.heap.size + 1, 0, none⟩ = some (.int .i64 y.k) ∧ w'.cell? ⟨w.heap.size + 1, 1, none⟩ = some (.int .i64 (y.f 1)) ∧ w'.cell? ⟨w.heap.size + 1, 2, none⟩ = some (.int .i64 (y.f 2)) ∧ w'.cell? ⟨w.heap.size + 1, 3, none⟩ = some (.int .i64 (y.f 3)) ∧ w'.cell? ⟨w.heap.size + 1, 4, none⟩ = some (.int .i64 (y.f 4)) ∧ w'.cell? ⟨w.heap.size + 1, 5, none⟩ = some (.int .i64 (y.f 5)) ∧ w'.cell? ⟨w.heap.size + 1, 6, none⟩ = some (.int .i64 (y.f 6)) ∧ w'.cell? ⟨w.heap.size + 1, 7, none⟩ = some (.int .i64 (y.f 7)) ∧ w'.cell? ⟨w.heap.size + 1, 8, none⟩ = some (.int .i64 (y.f 8)) ∧ w'.cell? ⟨w.heap.size + 1, 9, none⟩ = some (.int .i64 (y.f 9)) ∧ w'.cell? ⟨w.heap.size + 1, 10, none⟩ = some (.bool y.o.is) ∧ w'.cell? ⟨w.heap.size + 1, 11, none⟩ = some (.slice y.o.B y.o.m y.o.d) ∧ w'.cell? ⟨w.heap.size + 1, 12, none⟩ = some (.bool y.v.is) ∧ w'.cell? ⟨w.heap.size + 1, 13, none⟩ = some (.slice y.v.B y.v.m y.v.d)) (first | exact HR.out.r.all | exact ((HR.out.r.keep (Mod.refl _ wr).drew).keep hm4).all) ((go_at_call 50; refine (Hn.out hlt _).mono ?_; rintro e w4 ⟨rfl, hm4⟩))
        have HR4 := Lib.hid (HR.out.keep ((Mod.refl _ wr).drew.trans hm4 (fun _ _ h => h)))
        clear hm4 HR Hn
        have hla : at_ ≤ (b :: ys).length := by rw [Hl.out]; exact han
        by_cases hsh : n < at_ + width i
        · exact absurd (show (0 : Nat) = 2 from Hb.out j _ _ _ _ Hf.out HR4.out.got (bad_num (by rw [Hl.out]; exact hsh) hla)) (by omega)
        · have hck : c ≠ at_ := by omega
          have Hdn := Lib.hid (dec_num Hf.out HR4.out.got (by rw [Hl.out]; omega))
          have hsl := (HSl.out.mod HR4.out.old (fun _ _ _ => id)).tail at_ han
          rw [if_neg hck] at hsl
          have Hg := Lib.hid (refGet_ok w4 _ _ _ _ hsl.1 (Nat.le_trans (Nat.sub_le ..) Hc.out) (width i : Nat) Hw1.out (by omega))
          simp only [Int.toNat_natCast] at Hg
          obtain ⟨z, hz⟩ : ∃ z : Int, ((unle (((b :: ys).drop at_).take (width i)) : Nat) : Int) = z := ⟨_, rfl⟩
          rw [hz] at Hg Hdn
          clear hz hsl hla
          have hw4I : (width i : Int) ≤ 4 := by omega
          go_wp2_with fail
          refine Hg.out.mono ?_
          rintro e w5 ⟨A5, q5, rfl, _, rfl⟩
          have HR5 := Lib.hid (HR4.out.keep ((Mod.refl _ w4).drewN q5))
          generalize w4.drewN q5 = w5 at *
          have hr5 := HR5.out.r
          have t0 := hr5.kind
          have t1 := hr5.num (i := 1) (by omega) (by omega)
          have t2 := hr5.num (i := 2) (by omega) (by omega)
          have t3 := hr5.num (i := 3) (by omega) (by omega)
          have t4 := hr5.num (i := 4) (by omega) (by omega)
          have t5 := hr5.num (i := 5) (by omega) (by omega)
          have t6 := hr5.num (i := 6) (by omega) (by omega)
          have t7 := hr5.num (i := 7) (by omega) (by omega)
          have t8 := hr5.num (i := 8) (by omega) (by omega)
          have t9 := hr5.num (i := 9) (by omega) (by omega)
          have t10 := hr5.c10
          have t11 := hr5.c11
          have t12 := hr5.c12
          have t13 := hr5.c13
          clear hr5 Hg HR4
          go_wp2
          go_still_tail 5, (by kernel_rfl)
          change wpList _ _ _ _ _ w5.drew
          have HR6 := Lib.hid (HR5.out.keep (Mod.refl _ w5).drew)
          generalize w5.drew = w6 at *
          clear HR5 t0 t1 t2 t3 t4 t5 t6 t7 t8 t9 t10 t11 t12 t13
          go_wp2_with fail
          refine (Hp.out hlt _ _).mono ?_
          rintro e w7 ⟨rfl, hm7⟩
          have HR7 := Lib.hid (HR6.out.keep hm7)
          have hr7 := HR7.out.r
          have t0 := hr7.kind
          have t1 := hr7.num (i := 1) (by omega) (by omega)
          have t2 := hr7.num (i := 2) (by omega) (by omega)
          have t3 := hr7.num (i := 3) (by omega) (by omega)
          have t4 := hr7.num (i := 4) (by omega) (by omega)
          have t5 := hr7.num (i := 5) (by omega) (by omega)
          have t6 := hr7.num (i := 6) (by omega) (by omega)
          have t7 := hr7.num (i := 7) (by omega) (by omega)
          have t8 := hr7.num (i := 8) (by omega) (by omega)
          have t9 := hr7.num (i := 9) (by omega) (by omega)
          have t10 := hr7.c10
          have t11 := hr7.c11
          have t12 := hr7.c12
          have t13 := hr7.c13
          have q0 := hr7.fz 0
          have q1 := hr7.fz 1
          have q2 := hr7.fz 2
          have q3 := hr7.fz 3
          have q4 := hr7.fz 4
          have q5 := hr7.fz 5
          have q6 := hr7.fz 6
          have q7 := hr7.fz 7
          have q8 := hr7.fz 8
          have q9 := hr7.fz 9
          have q10 := hr7.fz 10
          have q11 := hr7.fz 11
          have q12 := hr7.fz 12
          have q13 := hr7.fz 13
          clear hr7 hm7 HR6 Hp
          have Hend : Hid (RD w (stRec w7 (w.heap.size + 1) { y with f := upd y.f i z }) b ys fl (j + 1) (at_ + width i) { y with f := upd y.f i z }) := HR7.out.store HR7.out.o HR7.out.v Hdn.out
          generalize width i = wd at *
          go_wp2
          go_roundw
          case rel => exact ⟨j + 1, at_ + wd, _, by omega, by go_num, by go_num, by omega, by omega, Hend.out⟩
          case measure => simp [intOf]; omega
      | old =>
        replace hsf : s[j]'hlt = 79 := hsf
        have hb79 : ((((s[j]'hlt).toNat : Nat) : Int) == 79) = true := by rw [hsf]; rfl
        have hb78 : ((((s[j]'hlt).toNat : Nat) : Int) == 78) = false := by rw [hsf]; rfl
        clear hsf hstd hIr
        by_cases hend : n ≤ at_
        · have he : (b :: ys).drop at_ = [] := List.drop_eq_nil_of_le (by rw [Hl.out]; exact hend)
          exact absurd (show (1 : Nat) = 2 from Hb.out j _ _ _ _ Hf.out HR.out.got (bad_old (er := 6) (by rw [he]; rfl))) (by omega)
        · have hla : at_ < (b :: ys).length := by rw [Hl.out]; omega
          have hsr := HSl.out.mod HR.out.old (fun _ _ _ => id)
          obtain ⟨B', o', e', hcell⟩ := hsr.2.2 (by omega)
          injection e' with e'; injection e' with e1 e2; subst e1; subst e2
          obtain ⟨bb, hbb⟩ : ∃ bb, (b :: ys)[at_]? = some bb := ⟨_, List.getElem?_eq_getElem hla⟩
          have hcb := hcell at_ (by omega)
          rw [List.getD_eq_getElem?_getD, hbb] at hcb
          replace hcb : wr.cell? ⟨B, o + at_, none⟩ = some (.int .u8 bb.toNat) := hcb
          have hdrop : (b :: ys).drop at_ = bb :: (b :: ys).drop (at_ + 1) := by
            obtain ⟨h1, h2⟩ := List.getElem?_eq_some_iff.1 hbb
            rw [List.drop_eq_getElem_cons h1, h2]
          have Hdrop := Lib.hid hdrop
          have hb256b : ((bb.toNat : Nat) : Int) < 256 := by have := bb.toNat_lt; omega
          obtain ⟨w5, hw5⟩ : ∃ w5, wr.alloc (.cells #[.bool false, .slice none 0 0] 45) = w5 := ⟨_, rfl⟩
          have hm5 : Mod (fun _ => False) wr w5 := by rw [← hw5]; exact (Mod.refl _ wr).alloc _
          have Hbx5 : Hid (w5.heap[wr.heap.size]? = some (.cells #[.bool false, .slice none 0 0] 45 (0, 0))) := by show _ = _; rw [← hw5]; exact heap_alloc_new wr _
          have HR5 := Lib.hid (HR.out.keep hm5)
          have Hbig : Hid (w.heap.size + 2 ≤ wr.heap.size) := HR.out.sz
          have Hw5 := Lib.hid hw5
          have Hs5 : Hid (wr.heap.size < w5.heap.size) := (Array.getElem?_eq_some_iff.1 Hbx5.out).1
          clear hla hsr hcell hbb hdrop hw5 hm5 HR
          go_upto_region 17 with fail
          rw [Hw5.out]
          clear Hw5 hcb
          obtain ⟨bx, hbx⟩ : ∃ bx, wr.heap.size = bx := ⟨_, rfl⟩
          rw [hbx] at Hbx5 Hbig Hs5 ⊢
          clear hbx
          have v0 : w5.cell? ⟨bx, 0, none⟩ = some (.bool false) := by rw [cell_of_row _ _ _ _ _ _ Hbx5.out]; rfl
          have v1 : w5.cell? ⟨bx, 1, none⟩ = some (.slice none 0 0) := by rw [cell_of_row _ _ _ _ _ _ Hbx5.out]; rfl
          by_cases h255 : bb = 255
          · have hne : ((((bb.toNat : Nat) : Int)) != 255) = false := by rw [h255]; rfl
            have Hend : Hid (RD w ((w5.setCell ⟨w.heap.size + 1, 10, none⟩ (.bool false)).setCell ⟨w.heap.size + 1, 11, none⟩ (.slice none 0 0)) b ys fl (j + 1) (at_ + 1) { y with o := VlD.none }) :=
              HR5.out.storeO (y' := VlD.none) (VlD.none_own _ _) (dec_old Hf.out HR5.out.got rfl VlD.none (at_ + 1) (by rw [Hdrop.out]; simp only [decV]; rw [if_pos h255]; rfl))
            have t0 := HR5.out.r.c10
            have t1 := HR5.out.r.c11
            have f0 := HR5.out.r.fz 10
            have f1 := HR5.out.r.fz 11
            clear h255 HR5
            go_wp2
            go_roundw
            case rel => exact ⟨j + 1, at_ + 1, _, by omega, by go_num, by go_num, by omega, by omega, Hend.out⟩
            case measure => simp [intOf]; omega
          · have hne : ((((bb.toNat : Nat) : Int)) != 255) = true := by
              rw [bne_iff_ne]
              intro e
              exact h255 (UInt8.toNat_inj.1 (by show bb.toNat = 255; omega))
            by_cases h32 : (32 : Int) < ((bb.toNat : Nat) : Int)
            · exact absurd (show (1 : Nat) = 2 from Hb.out j _ _ _ _ Hf.out HR5.out.got (bad_old (er := 7) (by rw [Hdrop.out]; simp only [decV]; rw [if_neg h255, if_pos (by omega)]))) (by omega)
            · by_cases hsh : (n : Int) < (at_ : Int) + 1 + ((bb.toNat : Nat) : Int)
              · exact absurd (show (1 : Nat) = 2 from Hb.out j _ _ _ _ Hf.out HR5.out.got (bad_old (er := 6) (by rw [Hdrop.out]; simp only [decV]; rw [if_neg h255, if_neg (by omega), if_pos (by rw [List.length_drop, Hl.out]; omega)]))) (by omega)
              · obtain ⟨m, hm⟩ : ∃ m, bb.toNat = m := ⟨_, rfl⟩
                have Hgot : Hid (decV ((b :: ys).drop at_) = .got ⟨true, ((b :: ys).drop (at_ + 1)).take m⟩ ((b :: ys).drop (at_ + 1 + m))) := by
                  show _ = _
                  rw [Hdrop.out]
                  simp only [decV]
                  rw [if_neg h255, if_neg (by omega), if_neg (by rw [List.length_drop, Hl.out]; omega), List.drop_drop, hm]
                rw [hm] at hne h32 hsh ⊢
                clear hm h255
                have hmle : at_ + 1 + m ≤ n := by omega
                have hsl := (HSl.out.mod HR5.out.old (fun _ _ _ => id)).mid (at_ + 1) m hmle
                have Hown0 := Lib.hid (OwV.nil w5 w5.heap.size 5)
                have Hml : Hid (0 + m ≤ maxLen) := by show _ ≤ _; unfold maxLen; omega
                have Hb6 : Hid (∀ w6 : World, w5.grownBy w6 (blkOf none) → w6.heap[bx]? = some (.cells #[.bool false, .slice none 0 0] 45 (0, 0))) := fun w6 hg => (hg.block bx Hs5.out (by simp [blkOf])).trans Hbx5.out
                by_cases hck : c = at_ + 1
                · rw [if_pos hck] at hsl
                  have hc1 : c ≤ at_ + 1 := by omega
                  clear hck
                  have Hsrc := Lib.hid hsl.src
                  clear hsl
                  go_wp2_with (at_builtin; refine Hid.out ?_)
                  refine Lib.hid ?_
                  refine wpList_app (.const (.slice none 0 0)) (.tmp 76) byteElem rfl rfl rfl rfl Hown0.out Hsrc.out (by omega) Hml.out (Nat.le_refl _) ?_
                  intro A6 c6 w6 h61 h62 h63
                  have hb6 := Hb6.out w6 h62
                  have g0 : w6.cell? ⟨bx, 0, none⟩ = some (.bool false) := by rw [cell_of_row _ _ _ _ _ _ hb6]; rfl
                  have g1 : w6.cell? ⟨bx, 1, none⟩ = some (.slice none 0 0) := by rw [cell_of_row _ _ _ _ _ _ hb6]; rfl
                  have g2 := frozen_of_block hb6 0
                  have g3 := frozen_of_block hb6 1
                  have H61 := Lib.hid h61
                  have H62 := Lib.hid h62
                  have HB6 := Lib.hid hb6
                  clear h61 h62 h63 hb6
                  go_upto_region 24 with fail
                  have hm56 : Mod (fun _ => False) w5 w6 := (Mod.refl _ w5).grown H62.out (fun k e _ => by simp [blkOf] at e)
                  obtain ⟨w7, hw7⟩ : ∃ w7, (w6.setCell ⟨bx, 0, none⟩ (.bool true)).setCell ⟨bx, 1, none⟩ (.slice A6 m c6) = w7 := ⟨_, rfl⟩
                  have hm67 : Mod (fun k => k = bx) w6 w7 := by rw [← hw7]; exact two_mod (F := fun k => k = bx) (b := bx) (Mod.refl _ w6) (fun _ => rfl) _ _
                  have hb7 : w7.heap[bx]? = some (.cells #[.bool true, .slice A6 m c6] 45 (0, 0)) := by rw [← hw7]; exact two_set HB6.out _ _
                  have hR7 := (HR5.out.keep hm56).box HB6.out Hbig.out hm67
                  have hown6 := H61.out
                  rw [Nat.zero_add, List.nil_append] at hown6
                  have hnv : (⟨true, A6, m, c6, ((b :: ys).drop (at_ + 1)).take m⟩ : VlD).Own w7 (w.heap.size + 2) :=
                    OwV.mod (OwV.rebase hown6 (fun k hk => by have := (OwV.lt hown6 k hk).1; have := Hs5.out; have := Hbig.out; omega)) hm67 (ne_of_type hown6 HB6.out (by decide))
                  have Hend : Hid (RD w ((w7.setCell ⟨w.heap.size + 1, 10, none⟩ (.bool true)).setCell ⟨w.heap.size + 1, 11, none⟩ (.slice A6 m c6)) b ys fl (j + 1) (at_ + 1 + m) { y with o := ⟨true, A6, m, c6, ((b :: ys).drop (at_ + 1)).take m⟩ }) :=
                    hR7.storeO (y' := ⟨true, A6, m, c6, ((b :: ys).drop (at_ + 1)).take m⟩) hnv (dec_old Hf.out hR7.got rfl ⟨true, A6, m, c6, ((b :: ys).drop (at_ + 1)).take m⟩ (at_ + 1 + m) Hgot.out)
                  have t0 := hR7.r.c10
                  have t1 := hR7.r.c11
                  have f0 := hR7.r.fz 10
                  have f1 := hR7.r.fz 11
                  have x0 : w7.cell? ⟨bx, 0, none⟩ = some (.bool true) := by rw [cell_of_row _ _ _ _ _ _ hb7]; rfl
                  have x1 : w7.cell? ⟨bx, 1, none⟩ = some (.slice A6 m c6) := by rw [cell_of_row _ _ _ _ _ _ hb7]; rfl
                  rw [hw7]
                  clear hw7 hm67 hm56 hb7 hR7 hown6 hnv g0 g1 g2 g3 v0 v1 H61 H62 HB6 Hb6 Hgot Hown0 Hml Hsrc HR5
                  go_wp2
                  go_roundw
                  case rel => exact ⟨j + 1, at_ + 1 + m, _, by omega, by go_num, by go_num, by omega, by omega, Hend.out⟩
                  case measure => simp [intOf]; omega
                · rw [if_neg hck] at hsl
                  have Hsrc := Lib.hid hsl.src
                  clear hsl
                  go_wp2_with (at_builtin; refine Hid.out ?_)
                  refine Lib.hid ?_
                  refine wpList_app (.const (.slice none 0 0)) (.tmp 76) byteElem rfl rfl rfl rfl Hown0.out Hsrc.out (by omega) Hml.out (Nat.le_refl _) ?_
                  intro A6 c6 w6 h61 h62 h63
                  have hb6 := Hb6.out w6 h62
                  have g0 : w6.cell? ⟨bx, 0, none⟩ = some (.bool false) := by rw [cell_of_row _ _ _ _ _ _ hb6]; rfl
                  have g1 : w6.cell? ⟨bx, 1, none⟩ = some (.slice none 0 0) := by rw [cell_of_row _ _ _ _ _ _ hb6]; rfl
                  have g2 := frozen_of_block hb6 0
                  have g3 := frozen_of_block hb6 1
                  have H61 := Lib.hid h61
                  have H62 := Lib.hid h62
                  have HB6 := Lib.hid hb6
                  clear h61 h62 h63 hb6
                  go_upto_region 24 with fail
                  have hm56 : Mod (fun _ => False) w5 w6 := (Mod.refl _ w5).grown H62.out (fun k e _ => by simp [blkOf] at e)
                  obtain ⟨w7, hw7⟩ : ∃ w7, (w6.setCell ⟨bx, 0, none⟩ (.bool true)).setCell ⟨bx, 1, none⟩ (.slice A6 m c6) = w7 := ⟨_, rfl⟩
                  have hm67 : Mod (fun k => k = bx) w6 w7 := by rw [← hw7]; exact two_mod (F := fun k => k = bx) (b := bx) (Mod.refl _ w6) (fun _ => rfl) _ _
                  have hb7 : w7.heap[bx]? = some (.cells #[.bool true, .slice A6 m c6] 45 (0, 0)) := by rw [← hw7]; exact two_set HB6.out _ _
                  have hR7 := (HR5.out.keep hm56).box HB6.out Hbig.out hm67
                  have hown6 := H61.out
                  rw [Nat.zero_add, List.nil_append] at hown6
                  have hnv : (⟨true, A6, m, c6, ((b :: ys).drop (at_ + 1)).take m⟩ : VlD).Own w7 (w.heap.size + 2) :=
                    OwV.mod (OwV.rebase hown6 (fun k hk => by have := (OwV.lt hown6 k hk).1; have := Hs5.out; have := Hbig.out; omega)) hm67 (ne_of_type hown6 HB6.out (by decide))
                  have Hend : Hid (RD w ((w7.setCell ⟨w.heap.size + 1, 10, none⟩ (.bool true)).setCell ⟨w.heap.size + 1, 11, none⟩ (.slice A6 m c6)) b ys fl (j + 1) (at_ + 1 + m) { y with o := ⟨true, A6, m, c6, ((b :: ys).drop (at_ + 1)).take m⟩ }) :=
                    hR7.storeO (y' := ⟨true, A6, m, c6, ((b :: ys).drop (at_ + 1)).take m⟩) hnv (dec_old Hf.out hR7.got rfl ⟨true, A6, m, c6, ((b :: ys).drop (at_ + 1)).take m⟩ (at_ + 1 + m) Hgot.out)
                  have t0 := hR7.r.c10
                  have t1 := hR7.r.c11
                  have f0 := hR7.r.fz 10
                  have f1 := hR7.r.fz 11
                  have x0 : w7.cell? ⟨bx, 0, none⟩ = some (.bool true) := by rw [cell_of_row _ _ _ _ _ _ hb7]; rfl
                  have x1 : w7.cell? ⟨bx, 1, none⟩ = some (.slice A6 m c6) := by rw [cell_of_row _ _ _ _ _ _ hb7]; rfl
                  rw [hw7]
                  clear hw7 hm67 hm56 hb7 hR7 hown6 hnv g0 g1 g2 g3 v0 v1 H61 H62 HB6 Hb6 Hgot Hown0 Hml Hsrc HR5
                  go_wp2
                  go_roundw
                  case rel => exact ⟨j + 1, at_ + 1 + m, _, by omega, by go_num, by go_num, by omega, by omega, Hend.out⟩
                  case measure => simp [intOf]; omega
      | new =>
        replace hsf : s[j]'hlt = 78 := hsf
        have hb79 : ((((s[j]'hlt).toNat : Nat) : Int) == 79) = false := by rw [hsf]; rfl
        have hb78 : ((((s[j]'hlt).toNat : Nat) : Int) == 78) = true := by rw [hsf]; rfl
        clear hsf hstd hIr
        by_cases hend : n ≤ at_
        · have he : (b :: ys).drop at_ = [] := List.drop_eq_nil_of_le (by rw [Hl.out]; exact hend)
          have Hd : Hid (decode (b :: ys) = (6, Rc.zero)) := dec_new_bad Hfl.out Hf.out HR.out.got (by rw [he]; rfl)
          have HZT := Lib.hid HR.out.z
          have HoldT := Lib.hid HR.out.old
          have hz4 := HR.out.z
          have p0 := hz4.kind
          have p1 := hz4.num (i := 1) (by omega) (by omega)
          have p2 := hz4.num (i := 2) (by omega) (by omega)
          have p3 := hz4.num (i := 3) (by omega) (by omega)
          have p4 := hz4.num (i := 4) (by omega) (by omega)
          have p5 := hz4.num (i := 5) (by omega) (by omega)
          have p6 := hz4.num (i := 6) (by omega) (by omega)
          have p7 := hz4.num (i := 7) (by omega) (by omega)
          have p8 := hz4.num (i := 8) (by omega) (by omega)
          have p9 := hz4.num (i := 9) (by omega) (by omega)
          have p10 := hz4.c10
          have p11 := hz4.c11
          have p12 := hz4.c12
          have p13 := hz4.c13
          have q0 := hz4.fz 0
          have q1 := hz4.fz 1
          have q2 := hz4.fz 2
          have q3 := hz4.fz 3
          have q4 := hz4.fz 4
          have q5 := hz4.fz 5
          have q6 := hz4.fz 6
          have q7 := hz4.fz 7
          have q8 := hz4.fz 8
          have q9 := hz4.fz 9
          have q10 := hz4.fz 10
          have q11 := hz4.fz 11
          have q12 := hz4.fz 12
          have q13 := hz4.fz 13
          clear hz4 HR he
          go_wp2
          change bodyPost _ _ _ _ _ (stRec wr w.heap.size RcD.zero)
          obtain ⟨w7, hw7⟩ : ∃ w7, stRec wr w.heap.size RcD.zero = w7 := ⟨_, rfl⟩
          have h7 : RcD.zero.In w7 w.heap.size := by rw [← hw7]; exact stRec_in HZT.out RcD.zero
          have H7 : Hid (Mod (fun _ => False) w w7) := by rw [← hw7]; exact HoldT.out.trans (stRec_mod wr w.heap.size RcD.zero) (fun k hk e => by omega)
          rw [hw7]
          have r0 := h7.kind
          have r1 := h7.num (i := 1) (by omega) (by omega)
          have r2 := h7.num (i := 2) (by omega) (by omega)
          have r3 := h7.num (i := 3) (by omega) (by omega)
          have r4 := h7.num (i := 4) (by omega) (by omega)
          have r5 := h7.num (i := 5) (by omega) (by omega)
          have r6 := h7.num (i := 6) (by omega) (by omega)
          have r7 := h7.num (i := 7) (by omega) (by omega)
          have r8 := h7.num (i := 8) (by omega) (by omega)
          have r9 := h7.num (i := 9) (by omega) (by omega)
          have r10 := h7.c10
          have r11 := h7.c11
          have r12 := h7.c12
          have r13 := h7.c13
          clear hw7 h7 p0 p1 p2 p3 p4 p5 p6 p7 p8 p9 p10 p11 p12 p13 q0 q1 q2 q3 q4 q5 q6 q7 q8 q9 q10 q11 q12 q13
          refine bodyPost_ret (v := .tuple #[.agg RcD.zero.cells, .int .i64 6]) (by simp [results, Tryz.results47, go_sem, r0, r1, r2, r3, r4, r5, r6, r7, r8, r9, r10, r11, r12, r13]) rfl ?_
          exact ⟨⟨RcD.zero, by rw [Hd.out], by rw [Hd.out]; rfl, VlD.none_own _ _, VlD.none_own _ _⟩, H7.out⟩
        · have hla : at_ < (b :: ys).length := by rw [Hl.out]; omega
          have hsr := HSl.out.mod HR.out.old (fun _ _ _ => id)
          obtain ⟨B', o', e', hcell⟩ := hsr.2.2 (by omega)
          injection e' with e'; injection e' with e1 e2; subst e1; subst e2
          obtain ⟨bb, hbb⟩ : ∃ bb, (b :: ys)[at_]? = some bb := ⟨_, List.getElem?_eq_getElem hla⟩
          have hcb := hcell at_ (by omega)
          rw [List.getD_eq_getElem?_getD, hbb] at hcb
          replace hcb : wr.cell? ⟨B, o + at_, none⟩ = some (.int .u8 bb.toNat) := hcb
          have hdrop : (b :: ys).drop at_ = bb :: (b :: ys).drop (at_ + 1) := by
            obtain ⟨h1, h2⟩ := List.getElem?_eq_some_iff.1 hbb
            rw [List.drop_eq_getElem_cons h1, h2]
          have Hdrop := Lib.hid hdrop
          have hb256b : ((bb.toNat : Nat) : Int) < 256 := by have := bb.toNat_lt; omega
          obtain ⟨w5, hw5⟩ : ∃ w5, wr.alloc (.cells #[.bool false, .slice none 0 0] 45) = w5 := ⟨_, rfl⟩
          have hm5 : Mod (fun _ => False) wr w5 := by rw [← hw5]; exact (Mod.refl _ wr).alloc _
          have Hbx5 : Hid (w5.heap[wr.heap.size]? = some (.cells #[.bool false, .slice none 0 0] 45 (0, 0))) := by show _ = _; rw [← hw5]; exact heap_alloc_new wr _
          have HR5 := Lib.hid (HR.out.keep hm5)
          have Hbig : Hid (w.heap.size + 2 ≤ wr.heap.size) := HR.out.sz
          have Hw5 := Lib.hid hw5
          have Hs5 : Hid (wr.heap.size < w5.heap.size) := (Array.getElem?_eq_some_iff.1 Hbx5.out).1
          clear hla hsr hcell hbb hdrop hw5 hm5 HR
          go_upto_region 17 with fail
          rw [Hw5.out]
          clear Hw5 hcb
          obtain ⟨bx, hbx⟩ : ∃ bx, wr.heap.size = bx := ⟨_, rfl⟩
          rw [hbx] at Hbx5 Hbig Hs5 ⊢
          clear hbx
          have v0 : w5.cell? ⟨bx, 0, none⟩ = some (.bool false) := by rw [cell_of_row _ _ _ _ _ _ Hbx5.out]; rfl
          have v1 : w5.cell? ⟨bx, 1, none⟩ = some (.slice none 0 0) := by rw [cell_of_row _ _ _ _ _ _ Hbx5.out]; rfl
          by_cases h255 : bb = 255
          · have hne : ((((bb.toNat : Nat) : Int)) != 255) = false := by rw [h255]; rfl
            have Hend : Hid (RD w ((w5.setCell ⟨w.heap.size + 1, 12, none⟩ (.bool false)).setCell ⟨w.heap.size + 1, 13, none⟩ (.slice none 0 0)) b ys fl (j + 1) (at_ + 1) { y with v := VlD.none }) :=
              HR5.out.storeV (y' := VlD.none) (VlD.none_own _ _) (dec_new Hf.out HR5.out.got rfl VlD.none (at_ + 1) (by rw [Hdrop.out]; simp only [decV]; rw [if_pos h255]; rfl))
            have t0 := HR5.out.r.c12
            have t1 := HR5.out.r.c13
            have f0 := HR5.out.r.fz 12
            have f1 := HR5.out.r.fz 13
            clear h255 HR5
            go_wp2
            go_roundw
            case rel => exact ⟨j + 1, at_ + 1, _, by omega, by go_num, by go_num, by omega, by omega, Hend.out⟩
            case measure => simp [intOf]; omega
          · have hne : ((((bb.toNat : Nat) : Int)) != 255) = true := by
              rw [bne_iff_ne]
              intro e
              exact h255 (UInt8.toNat_inj.1 (by show bb.toNat = 255; omega))
            by_cases h32 : (32 : Int) < ((bb.toNat : Nat) : Int)
            · have Hd : Hid (decode (b :: ys) = (7, Rc.zero)) := dec_new_bad Hfl.out Hf.out HR5.out.got (by rw [Hdrop.out]; simp only [decV]; rw [if_neg h255, if_pos (by omega)])
              have HZT := Lib.hid HR5.out.z
              have HoldT := Lib.hid HR5.out.old
              have hz4 := HR5.out.z
              have p0 := hz4.kind
              have p1 := hz4.num (i := 1) (by omega) (by omega)
              have p2 := hz4.num (i := 2) (by omega) (by omega)
              have p3 := hz4.num (i := 3) (by omega) (by omega)
              have p4 := hz4.num (i := 4) (by omega) (by omega)
              have p5 := hz4.num (i := 5) (by omega) (by omega)
              have p6 := hz4.num (i := 6) (by omega) (by omega)
              have p7 := hz4.num (i := 7) (by omega) (by omega)
              have p8 := hz4.num (i := 8) (by omega) (by omega)
              have p9 := hz4.num (i := 9) (by omega) (by omega)
              have p10 := hz4.c10
              have p11 := hz4.c11
              have p12 := hz4.c12
              have p13 := hz4.c13
              have q0 := hz4.fz 0
              have q1 := hz4.fz 1
              have q2 := hz4.fz 2
              have q3 := hz4.fz 3
              have q4 := hz4.fz 4
              have q5 := hz4.fz 5
              have q6 := hz4.fz 6
              have q7 := hz4.fz 7
              have q8 := hz4.fz 8
              have q9 := hz4.fz 9
              have q10 := hz4.fz 10
              have q11 := hz4.fz 11
              have q12 := hz4.fz 12
              have q13 := hz4.fz 13
              clear hz4 HR5 h255
              go_wp2
              change bodyPost _ _ _ _ _ (stRec w5 w.heap.size RcD.zero)
              obtain ⟨w7, hw7⟩ : ∃ w7, stRec w5 w.heap.size RcD.zero = w7 := ⟨_, rfl⟩
              have h7 : RcD.zero.In w7 w.heap.size := by rw [← hw7]; exact stRec_in HZT.out RcD.zero
              have H7 : Hid (Mod (fun _ => False) w w7) := by rw [← hw7]; exact HoldT.out.trans (stRec_mod w5 w.heap.size RcD.zero) (fun k hk e => by omega)
              rw [hw7]
              have r0 := h7.kind
              have r1 := h7.num (i := 1) (by omega) (by omega)
              have r2 := h7.num (i := 2) (by omega) (by omega)
              have r3 := h7.num (i := 3) (by omega) (by omega)
              have r4 := h7.num (i := 4) (by omega) (by omega)
              have r5 := h7.num (i := 5) (by omega) (by omega)
              have r6 := h7.num (i := 6) (by omega) (by omega)
              have r7 := h7.num (i := 7) (by omega) (by omega)
              have r8 := h7.num (i := 8) (by omega) (by omega)
              have r9 := h7.num (i := 9) (by omega) (by omega)
              have r10 := h7.c10
              have r11 := h7.c11
              have r12 := h7.c12
              have r13 := h7.c13
              clear hw7 h7 p0 p1 p2 p3 p4 p5 p6 p7 p8 p9 p10 p11 p12 p13 q0 q1 q2 q3 q4 q5 q6 q7 q8 q9 q10 q11 q12 q13
              refine bodyPost_ret (v := .tuple #[.agg RcD.zero.cells, .int .i64 7]) (by simp [results, Tryz.results47, go_sem, r0, r1, r2, r3, r4, r5, r6, r7, r8, r9, r10, r11, r12, r13]) rfl ?_
              exact ⟨⟨RcD.zero, by rw [Hd.out], by rw [Hd.out]; rfl, VlD.none_own _ _, VlD.none_own _ _⟩, H7.out⟩
            · by_cases hsh : (n : Int) < (at_ : Int) + 1 + ((bb.toNat : Nat) : Int)
              · have Hd : Hid (decode (b :: ys) = (6, Rc.zero)) := dec_new_bad Hfl.out Hf.out HR5.out.got (by rw [Hdrop.out]; simp only [decV]; rw [if_neg h255, if_neg (by omega), if_pos (by rw [List.length_drop, Hl.out]; omega)])
                have HZT := Lib.hid HR5.out.z
                have HoldT := Lib.hid HR5.out.old
                have hz4 := HR5.out.z
                have p0 := hz4.kind
                have p1 := hz4.num (i := 1) (by omega) (by omega)
                have p2 := hz4.num (i := 2) (by omega) (by omega)
                have p3 := hz4.num (i := 3) (by omega) (by omega)
                have p4 := hz4.num (i := 4) (by omega) (by omega)
                have p5 := hz4.num (i := 5) (by omega) (by omega)
                have p6 := hz4.num (i := 6) (by omega) (by omega)
                have p7 := hz4.num (i := 7) (by omega) (by omega)
                have p8 := hz4.num (i := 8) (by omega) (by omega)
                have p9 := hz4.num (i := 9) (by omega) (by omega)
                have p10 := hz4.c10
                have p11 := hz4.c11
                have p12 := hz4.c12
                have p13 := hz4.c13
                have q0 := hz4.fz 0
                have q1 := hz4.fz 1
                have q2 := hz4.fz 2
                have q3 := hz4.fz 3
                have q4 := hz4.fz 4
                have q5 := hz4.fz 5
                have q6 := hz4.fz 6
                have q7 := hz4.fz 7
                have q8 := hz4.fz 8
                have q9 := hz4.fz 9
                have q10 := hz4.fz 10
                have q11 := hz4.fz 11
                have q12 := hz4.fz 12
                have q13 := hz4.fz 13
                clear hz4 HR5 h255
                go_wp2
                change bodyPost _ _ _ _ _ (stRec w5 w.heap.size RcD.zero)
                obtain ⟨w7, hw7⟩ : ∃ w7, stRec w5 w.heap.size RcD.zero = w7 := ⟨_, rfl⟩
                have h7 : RcD.zero.In w7 w.heap.size := by rw [← hw7]; exact stRec_in HZT.out RcD.zero
                have H7 : Hid (Mod (fun _ => False) w w7) := by rw [← hw7]; exact HoldT.out.trans (stRec_mod w5 w.heap.size RcD.zero) (fun k hk e => by omega)
                rw [hw7]
                have r0 := h7.kind
                have r1 := h7.num (i := 1) (by omega) (by omega)
                have r2 := h7.num (i := 2) (by omega) (by omega)
                have r3 := h7.num (i := 3) (by omega) (by omega)
                have r4 := h7.num (i := 4) (by omega) (by omega)
                have r5 := h7.num (i := 5) (by omega) (by omega)
                have r6 := h7.num (i := 6) (by omega) (by omega)
                have r7 := h7.num (i := 7) (by omega) (by omega)
                have r8 := h7.num (i := 8) (by omega) (by omega)
                have r9 := h7.num (i := 9) (by omega) (by omega)
                have r10 := h7.c10
                have r11 := h7.c11
                have r12 := h7.c12
                have r13 := h7.c13
                clear hw7 h7 p0 p1 p2 p3 p4 p5 p6 p7 p8 p9 p10 p11 p12 p13 q0 q1 q2 q3 q4 q5 q6 q7 q8 q9 q10 q11 q12 q13
                refine bodyPost_ret (v := .tuple #[.agg RcD.zero.cells, .int .i64 6]) (by simp [results, Tryz.results47, go_sem, r0, r1, r2, r3, r4, r5, r6, r7, r8, r9, r10, r11, r12, r13]) rfl ?_
                exact ⟨⟨RcD.zero, by rw [Hd.out], by rw [Hd.out]; rfl, VlD.none_own _ _, VlD.none_own _ _⟩, H7.out⟩
              · obtain ⟨m, hm⟩ : ∃ m, bb.toNat = m := ⟨_, rfl⟩
                have Hgot : Hid (decV ((b :: ys).drop at_) = .got ⟨true, ((b :: ys).drop (at_ + 1)).take m⟩ ((b :: ys).drop (at_ + 1 + m))) := by
                  show _ = _
                  rw [Hdrop.out]
                  simp only [decV]
                  rw [if_neg h255, if_neg (by omega), if_neg (by rw [List.length_drop, Hl.out]; omega), List.drop_drop, hm]
                rw [hm] at hne h32 hsh ⊢
                clear hm h255
                have hmle : at_ + 1 + m ≤ n := by omega
                have hsl := (HSl.out.mod HR5.out.old (fun _ _ _ => id)).mid (at_ + 1) m hmle
                have Hown0 := Lib.hid (OwV.nil w5 w5.heap.size 5)
                have Hml : Hid (0 + m ≤ maxLen) := by show _ ≤ _; unfold maxLen; omega
                have Hb6 : Hid (∀ w6 : World, w5.grownBy w6 (blkOf none) → w6.heap[bx]? = some (.cells #[.bool false, .slice none 0 0] 45 (0, 0))) := fun w6 hg => (hg.block bx Hs5.out (by simp [blkOf])).trans Hbx5.out
                by_cases hck : c = at_ + 1
                · rw [if_pos hck] at hsl
                  have hc1 : c ≤ at_ + 1 := by omega
                  clear hck
                  have Hsrc := Lib.hid hsl.src
                  clear hsl
                  go_wp2_with (at_builtin; refine Hid.out ?_)
                  refine Lib.hid ?_
                  refine wpList_app (.const (.slice none 0 0)) (.tmp 76) byteElem rfl rfl rfl rfl Hown0.out Hsrc.out (by omega) Hml.out (Nat.le_refl _) ?_
                  intro A6 c6 w6 h61 h62 h63
                  have hb6 := Hb6.out w6 h62
                  have g0 : w6.cell? ⟨bx, 0, none⟩ = some (.bool false) := by rw [cell_of_row _ _ _ _ _ _ hb6]; rfl
                  have g1 : w6.cell? ⟨bx, 1, none⟩ = some (.slice none 0 0) := by rw [cell_of_row _ _ _ _ _ _ hb6]; rfl
                  have g2 := frozen_of_block hb6 0
                  have g3 := frozen_of_block hb6 1
                  have H61 := Lib.hid h61
                  have H62 := Lib.hid h62
                  have HB6 := Lib.hid hb6
                  clear h61 h62 h63 hb6
                  go_upto_region 24 with fail
                  have hm56 : Mod (fun _ => False) w5 w6 := (Mod.refl _ w5).grown H62.out (fun k e _ => by simp [blkOf] at e)
                  obtain ⟨w7, hw7⟩ : ∃ w7, (w6.setCell ⟨bx, 0, none⟩ (.bool true)).setCell ⟨bx, 1, none⟩ (.slice A6 m c6) = w7 := ⟨_, rfl⟩
                  have hm67 : Mod (fun k => k = bx) w6 w7 := by rw [← hw7]; exact two_mod (F := fun k => k = bx) (b := bx) (Mod.refl _ w6) (fun _ => rfl) _ _
                  have hb7 : w7.heap[bx]? = some (.cells #[.bool true, .slice A6 m c6] 45 (0, 0)) := by rw [← hw7]; exact two_set HB6.out _ _
                  have hR7 := (HR5.out.keep hm56).box HB6.out Hbig.out hm67
                  have hown6 := H61.out
                  rw [Nat.zero_add, List.nil_append] at hown6
                  have hnv : (⟨true, A6, m, c6, ((b :: ys).drop (at_ + 1)).take m⟩ : VlD).Own w7 (w.heap.size + 2) :=
                    OwV.mod (OwV.rebase hown6 (fun k hk => by have := (OwV.lt hown6 k hk).1; have := Hs5.out; have := Hbig.out; omega)) hm67 (ne_of_type hown6 HB6.out (by decide))
                  have Hend : Hid (RD w ((w7.setCell ⟨w.heap.size + 1, 12, none⟩ (.bool true)).setCell ⟨w.heap.size + 1, 13, none⟩ (.slice A6 m c6)) b ys fl (j + 1) (at_ + 1 + m) { y with v := ⟨true, A6, m, c6, ((b :: ys).drop (at_ + 1)).take m⟩ }) :=
                    hR7.storeV (y' := ⟨true, A6, m, c6, ((b :: ys).drop (at_ + 1)).take m⟩) hnv (dec_new Hf.out hR7.got rfl ⟨true, A6, m, c6, ((b :: ys).drop (at_ + 1)).take m⟩ (at_ + 1 + m) Hgot.out)
                  have t0 := hR7.r.c12
                  have t1 := hR7.r.c13
                  have f0 := hR7.r.fz 12
                  have f1 := hR7.r.fz 13
                  have x0 : w7.cell? ⟨bx, 0, none⟩ = some (.bool true) := by rw [cell_of_row _ _ _ _ _ _ hb7]; rfl
                  have x1 : w7.cell? ⟨bx, 1, none⟩ = some (.slice A6 m c6) := by rw [cell_of_row _ _ _ _ _ _ hb7]; rfl
                  rw [hw7]
                  clear hw7 hm67 hm56 hb7 hR7 hown6 hnv g0 g1 g2 g3 v0 v1 H61 H62 HB6 Hb6 Hgot Hown0 Hml Hsrc HR5
                  go_wp2
                  go_roundw
                  case rel => exact ⟨j + 1, at_ + 1 + m, _, by omega, by go_num, by go_num, by omega, by omega, Hend.out⟩
                  case measure => simp [intOf]; omega
                · rw [if_neg hck] at hsl
                  have Hsrc := Lib.hid hsl.src
                  clear hsl
                  go_wp2_with (at_builtin; refine Hid.out ?_)
                  refine Lib.hid ?_
                  refine wpList_app (.const (.slice none 0 0)) (.tmp 76) byteElem rfl rfl rfl rfl Hown0.out Hsrc.out (by omega) Hml.out (Nat.le_refl _) ?_
                  intro A6 c6 w6 h61 h62 h63
                  have hb6 := Hb6.out w6 h62
                  have g0 : w6.cell? ⟨bx, 0, none⟩ = some (.bool false) := by rw [cell_of_row _ _ _ _ _ _ hb6]; rfl
                  have g1 : w6.cell? ⟨bx, 1, none⟩ = some (.slice none 0 0) := by rw [cell_of_row _ _ _ _ _ _ hb6]; rfl
                  have g2 := frozen_of_block hb6 0
                  have g3 := frozen_of_block hb6 1
                  have H61 := Lib.hid h61
                  have H62 := Lib.hid h62
                  have HB6 := Lib.hid hb6
                  clear h61 h62 h63 hb6
                  go_upto_region 24 with fail
                  have hm56 : Mod (fun _ => False) w5 w6 := (Mod.refl _ w5).grown H62.out (fun k e _ => by simp [blkOf] at e)
                  obtain ⟨w7, hw7⟩ : ∃ w7, (w6.setCell ⟨bx, 0, none⟩ (.bool true)).setCell ⟨bx, 1, none⟩ (.slice A6 m c6) = w7 := ⟨_, rfl⟩
                  have hm67 : Mod (fun k => k = bx) w6 w7 := by rw [← hw7]; exact two_mod (F := fun k => k = bx) (b := bx) (Mod.refl _ w6) (fun _ => rfl) _ _
                  have hb7 : w7.heap[bx]? = some (.cells #[.bool true, .slice A6 m c6] 45 (0, 0)) := by rw [← hw7]; exact two_set HB6.out _ _
                  have hR7 := (HR5.out.keep hm56).box HB6.out Hbig.out hm67
                  have hown6 := H61.out
                  rw [Nat.zero_add, List.nil_append] at hown6
                  have hnv : (⟨true, A6, m, c6, ((b :: ys).drop (at_ + 1)).take m⟩ : VlD).Own w7 (w.heap.size + 2) :=
                    OwV.mod (OwV.rebase hown6 (fun k hk => by have := (OwV.lt hown6 k hk).1; have := Hs5.out; have := Hbig.out; omega)) hm67 (ne_of_type hown6 HB6.out (by decide))
                  have Hend : Hid (RD w ((w7.setCell ⟨w.heap.size + 1, 12, none⟩ (.bool true)).setCell ⟨w.heap.size + 1, 13, none⟩ (.slice A6 m c6)) b ys fl (j + 1) (at_ + 1 + m) { y with v := ⟨true, A6, m, c6, ((b :: ys).drop (at_ + 1)).take m⟩ }) :=
                    hR7.storeV (y' := ⟨true, A6, m, c6, ((b :: ys).drop (at_ + 1)).take m⟩) hnv (dec_new Hf.out hR7.got rfl ⟨true, A6, m, c6, ((b :: ys).drop (at_ + 1)).take m⟩ (at_ + 1 + m) Hgot.out)
                  have t0 := hR7.r.c12
                  have t1 := hR7.r.c13
                  have f0 := hR7.r.fz 12
                  have f1 := hR7.r.fz 13
                  have x0 : w7.cell? ⟨bx, 0, none⟩ = some (.bool true) := by rw [cell_of_row _ _ _ _ _ _ hb7]; rfl
                  have x1 : w7.cell? ⟨bx, 1, none⟩ = some (.slice A6 m c6) := by rw [cell_of_row _ _ _ _ _ _ hb7]; rfl
                  rw [hw7]
                  clear hw7 hm67 hm56 hb7 hR7 hown6 hnv g0 g1 g2 g3 v0 v1 H61 H62 HB6 Hb6 Hgot Hown0 Hml Hsrc HR5
                  go_wp2
                  go_roundw
                  case rel => exact ⟨j + 1, at_ + 1 + m, _, by omega, by go_num, by go_num, by omega, by omega, Hend.out⟩
                  case measure => simp [intOf]; omega
    · have Hj : Hid (j = fl.length) := by show _ = _; rw [← Hsz.out]; omega
      have hgot := HR.out.got
      rw [Hj.out] at hgot
      exact absurd hgot (He.out _ _)
end Go.Proofs.YtnbamljaiahmdaaGreat
