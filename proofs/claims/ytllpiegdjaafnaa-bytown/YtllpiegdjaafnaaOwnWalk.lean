/-
  What a call of the statement BytOwn does: it answers true, and turns nothing that was there.
-/
import Derived.Test.YtllpiegdjaafnaaBump
namespace Go.Proofs.Ytllpiegdjaafnaa
open Go Go.RowKit

set_option maxRecDepth 100000 in
set_option maxHeartbeats 1600000 in
theorem own_walk (A : Option Addr) (n c : Nat) (xs : List UInt8) (w : World) (h : Sl w A n c xs) (hn : n ≤ 140737488355328) :
    Calls Try.prog 6 #[.slice A n c] w fun e w' => e = .returned (.bool true) ∧ Below w.heap.size w w' := by
  go_enter Try.func6, Try.ntmps6
  go_wp2_with fail
  refine (awake_ok _).mono ?_
  rintro e w1 ⟨rfl, hm1⟩
  have h1 : Sl w1 A n c xs := h.mod hm1 (fun _ _ _ => id)
  have hM1 : Mod (fun k => w.heap.size ≤ k) w w1 := hm1.mono (fun _ _ h => h.elim)
  have hs1 := hM1.size
  have hAlt : ∀ k, blkOf A = some k → 0 < n → k < w.heap.size := fun k e hp => by
    obtain ⟨b, o, rfl, hb⟩ := h.lt hp
    simp [blkOf] at e; omega
  clear hm1 h
  by_cases hbig : 255 < n
  · have hb' : (255 : Int) < n := by omega
    go_wp2
    go_ret
    exact ⟨rfl, hM1.below (Nat.le_refl _) (fun _ h => by omega)⟩
  · have hb' : ¬ (255 : Int) < n := by omega
    have hm255 : n ≤ 255 := by omega
    have hsrc := h1.src
    have hown0 := OwV.nil w1 w1.heap.size 5
    have hml : 0 + n ≤ maxLen := by unfold maxLen; omega
    -- a copy of the argument
    go_wp2_with (at_builtin; refine wpList_app (.const (.slice none 0 0)) (.tmp 32) byteElem rfl rfl rfl rfl hown0 hsrc (by omega) hml (Nat.le_refl _) ?_)
    intro Ao co w2 hown hg2 _
    have hown : OwV w2 w1.heap.size 5 Ao n co (xs.map bv) := by simpa using hown
    try rw [Nat.zero_add]
    have hm2 : Mod (fun _ => False) w1 w2 := (Mod.refl _ w1).grown hg2 (fun k e _ => by simp [blkOf] at e)
    have h2 : Sl w2 A n c xs := h1.mod hm2 (fun _ _ _ => id)
    have hs2 := hm2.size
    clear hg2 hown0 hsrc
    -- a Writer takes it
    go_wp2_with fail
    have hw2 := Wr.new w2 w2.heap.size (Nat.le_refl _)
    have hoA := hown.lt
    refine (lay_any _ _ _ _ _ _ _ hw2 (by omega) _ _ _ _ ((hown.alloc _).sl) (fun k e _ hF => absurd hF (hw2.wf (hoA k e).2))).mono ?_
    rintro e w4 ⟨rfl, Aw, cw, hw4, hm4, _⟩
    have hm4' : Mod (fun k => w2.heap.size ≤ k) w2 w4 := hw2.step ((Mod.refl _ w2).alloc _) hm4
    have hown4 := hown.mod hm4' (fun k e => by have := (hoA k e).2; omega)
    have h4 : Sl w4 A n c xs := h2.mod hm4' (fun k e hp => by have := hAlt k e hp; omega)
    have hs4 := hm4'.size
    have hw4 : Wr w4 w2.heap.size w2.heap.size Aw (layBytes n xs).length cw (layBytes n xs) := by simpa using hw4
    clear hw2 hm4 hown h2
    -- what the document makes of it
    go_wp2_with fail
    refine (refLay_any _ _ _ _ _ h4).mono ?_
    rintro e w5 ⟨Ai, ci, rfl, hf5, hm5⟩
    have hown5 := hown4.mod hm5 (fun _ _ => id)
    have hw5 := hw4.mod hm5 id (fun _ _ => id)
    have h5 : Sl w5 A n c xs := h4.mod hm5 (fun _ _ _ => id)
    have hs5 := hm5.size
    have hiA := hf5.lt
    have hwA := hw4.2.2.lt
    have hwg := hw4.lt
    clear hown4 hw4 h4
    -- a Reader over that
    go_wp2_with fail
    have hlb : (layBytes n xs).length ≤ 256 := by
      have hl5 := h5.len
      rw [layBytes, if_pos hm255, List.length_cons]
      omega
    refine (newReader_ok _ _ _ _ _ hf5.sl (by omega)).mono ?_
    rintro e w6 ⟨rfl, hr6, hz6, hm6⟩
    have hown6 := hown5.mod hm6 (fun _ _ => id)
    have hin6 := hf5.mod hm6 (fun _ _ => id)
    have hw6 := hw5.mod hm6 id (fun _ _ => id)
    have h6 : Sl w6 A n c xs := h5.mod hm6 (fun _ _ _ => id)
    have hM6 : Mod (fun k => w.heap.size ≤ k) w w6 :=
      ((((hM1.trans hm2 (fun _ _ h => h.elim)).trans hm4' (fun i hi h => by omega)).trans hm5 (fun _ _ h => h.elim)).trans hm6 (fun _ _ h => h.elim))
    clear hown5 hf5 hw5 h5 hm6 hm5 hm4' hm2 hM1 h1
    go_wp2
    go_loopw [9] (fun i wr => ∃ j : Nat, j ≤ n ∧ i = .int .i64 j ∧ Bump w6 wr w1.heap.size Ao n co) (fun i _ => n - (intOf i).toNat)
    case atStart => exact ⟨0, by omega, rfl, Bump.start hown6⟩
    case round =>
      obtain ⟨j, hj, rfl, hbp⟩ := hrel
      by_cases hlt : j < n
      · obtain ⟨g, y, hAe, hcy, hy0, hy1, hfr⟩ := hbp.at_ hlt
        subst hAe
        have hst := fun z (h0 : 0 ≤ z) (h1 : z < 256) => hbp.step hlt (z := z) h0 h1
        have Hst := Lib.hid hst
        clear hst hbp
        go_wp2
        go_roundw
        case rel => exact ⟨j + 1, by omega, by go_num, Hst.out _ (by omega) (by omega)⟩
        case measure => simp [intOf]; omega
      · rename World => w7
        have hm7 := hbp.2
        have hin7 := hin6.mod hm7 (fun k e1 e2 => by have := hoA k e2; have := hiA k e1; omega)
        have hw7 : Wr w7 w2.heap.size w2.heap.size Aw (layBytes n xs).length cw (layBytes n xs) := hw6.mod hm7 (fun e2 => by have := hoA _ e2; omega) (fun k e1 e2 => by have := hoA k e2; have := hwA k e1; omega)
        have hr7 := hr6.mod hm7 (fun e2 => by have := hoA _ e2; omega) (fun k e1 _ e2 => by have := hoA k e2; simp [blkOf] at e1; omega)
        have h7 : Sl w7 A n c xs := h6.mod hm7 (fun k e1 hp e2 => by have := hoA k e2; have := hAlt k e1 hp; omega)
        have hM7 : Mod (fun k => w.heap.size ≤ k) w w7 := hM6.trans hm7 (fun k _ e2 => by have := hoA k e2; omega)
        have hs7 := hm7.size
        clear hbp hm7 hown6 hin6 hw6 hr6 h6 hM6
        go_wp2
        go_loopw [10] (fun i wr => ∃ j : Nat, j ≤ (layBytes n xs).length ∧ i = .int .i64 j ∧ Bump w7 wr w4.heap.size Ai (layBytes n xs).length ci) (fun i _ => (layBytes n xs).length - (intOf i).toNat)
        case atStart => exact ⟨0, by omega, rfl, Bump.start hin7⟩
        case round =>
          obtain ⟨j, hj, rfl, hbp⟩ := hrel
          by_cases hlt : j < (layBytes n xs).length
          · obtain ⟨g, y, hAe, hcy, hy0, hy1, hfr⟩ := hbp.at_ hlt
            subst hAe
            have hst := fun z (h0 : 0 ≤ z) (h1 : z < 256) => hbp.step hlt (z := z) h0 h1
            have Hst := Lib.hid hst
            clear hst hbp
            go_wp2
            go_roundw
            case rel => exact ⟨j + 1, by omega, by go_num, Hst.out _ (by omega) (by omega)⟩
            case measure => simp [intOf]; omega
          · rename World => w8
            have hm8 := hbp.2
            have hw8 : Wr w8 w2.heap.size w2.heap.size Aw (layBytes n xs).length cw (layBytes n xs) := hw7.mod hm8 (fun e2 => by have := hiA _ e2; omega) (fun k e1 e2 => by have := hiA k e2; have := hwA k e1; omega)
            have hr8 := hr7.mod hm8 (fun e2 => by have := hiA _ e2; omega) (fun k e1 _ e2 => by have := hiA k e2; simp [blkOf] at e1; omega)
            have h8 : Sl w8 A n c xs := h7.mod hm8 (fun k e1 hp e2 => by have := hiA k e2; have := hAlt k e1 hp; omega)
            have hM8 : Mod (fun k => w.heap.size ≤ k) w w8 := hM7.trans hm8 (fun k _ e2 => by have := hiA k e2; omega)
            have hs8 := hm8.size
            clear hbp hm8 hin7 hw7 hr7 h7 hM7
            -- what the Writer tells
            go_wp2_with fail
            refine (bytes_ok _ _ _ _ _ _ _ hw8 (by omega)).mono ?_
            rintro e w9 ⟨rfl, hf9⟩
            have hm9 := hf9.2.2
            have hx9 : OwV w9 w8.heap.size 5 (some ⟨w8.heap.size, 0, none⟩) (layBytes n xs).length (layBytes n xs).length ((layBytes n xs).map bv) := by
              have := OwV.of_block (base := w8.heap.size) (Nat.le_refl _) hf9.1 (by simp; unfold maxLen; omega)
              simpa using this
            have hw9 := hw8.mod hm9 id (fun _ _ => id)
            have hr9 := hr8.mod hm9 id (fun _ _ _ => id)
            have h9 : Sl w9 A n c xs := h8.mod hm9 (fun _ _ _ => id)
            have hM9 : Mod (fun k => w.heap.size ≤ k) w w9 := hM8.trans hm9 (fun _ _ h => h.elim)
            have hs9 := hm9.size
            clear hf9 hm9 hw8 hr8 h8 hM8
            go_wp2
            go_loopw [12] (fun i wr => ∃ j : Nat, j ≤ (layBytes n xs).length ∧ i = .int .i64 j ∧ Bump w9 wr w8.heap.size (some ⟨w8.heap.size, 0, none⟩) (layBytes n xs).length (layBytes n xs).length) (fun i _ => (layBytes n xs).length - (intOf i).toNat)
            case atStart => exact ⟨0, by omega, rfl, Bump.start hx9⟩
            case round =>
              obtain ⟨j, hj, rfl, hbp⟩ := hrel
              by_cases hlt : j < (layBytes n xs).length
              · obtain ⟨g, y, hAe, hcy, hy0, hy1, hfr⟩ := hbp.at_ hlt
                injection hAe with hAe
                injection hAe with hAe
                subst hAe
                have hst := fun z (h0 : 0 ≤ z) (h1 : z < 256) => hbp.step hlt (z := z) h0 h1
                have Hst := Lib.hid hst
                clear hst hbp
                go_wp2
                go_roundw
                case rel => exact ⟨j + 1, by omega, by go_num, Hst.out _ (by omega) (by omega)⟩
                case measure => simp [intOf]; omega
              · rename World => w10
                have hm10 := hbp.2
                have hw10 : Wr w10 w2.heap.size w2.heap.size Aw (layBytes n xs).length cw (layBytes n xs) := hw9.mod hm10 (fun e2 => by simp [blkOf] at e2; omega) (fun k e1 e2 => by have := hwA k e1; simp [blkOf] at e2; omega)
                have hr10 := hr9.mod hm10 (fun e2 => by simp [blkOf] at e2; omega) (fun k e1 _ e2 => by simp [blkOf] at e1 e2; omega)
                have h10 : Sl w10 A n c xs := h9.mod hm10 (fun k e1 hp e2 => by have := hAlt k e1 hp; simp [blkOf] at e2; omega)
                have hM10 : Mod (fun k => w.heap.size ≤ k) w w10 := hM9.trans hm10 (fun k _ e2 => by simp [blkOf] at e2; omega)
                have hs10 := hm10.size
                clear hbp hm10 hx9 hw9 hr9 h9 hM9
                -- the document once more
                go_wp2_with fail
                refine (refLay_any _ _ _ _ _ h10).mono ?_
                rintro e w11 ⟨Av, cv, rfl, hf11, hm11⟩
                have hw11 := hw10.mod hm11 id (fun _ _ => id)
                have hr11 := hr10.mod hm11 id (fun _ _ _ => id)
                have h11 : Sl w11 A n c xs := h10.mod hm11 (fun _ _ _ => id)
                have hM11 : Mod (fun k => w.heap.size ≤ k) w w11 := hM10.trans hm11 (fun _ _ h => h.elim)
                have hv11 := hf11.sl
                clear hw10 hr10 h10 hM10 hm11 hf11
                -- the Writer once more
                go_wp2_with fail
                refine (bytes_ok _ _ _ _ _ _ _ hw11 (by omega)).mono ?_
                rintro e w12 ⟨rfl, hf12⟩
                have hm12 := hf12.2.2
                have hx12 := hf12.sl rfl
                have hv12 := hv11.mod hm12 (fun _ _ _ => id)
                have hr12 := hr11.mod hm12 id (fun _ _ _ => id)
                have h12 : Sl w12 A n c xs := h11.mod hm12 (fun _ _ _ => id)
                have hM12 : Mod (fun k => w.heap.size ≤ k) w w12 := hM11.trans hm12 (fun _ _ h => h.elim)
                clear hw11 hr11 h11 hM11 hm12 hf12 hv11
                go_wp2_with fail
                refine (same_ok _ _ _ _ _ _ _ _ _ hx12 hv12 (by omega) (by omega)).mono ?_
                rintro e w13 ⟨rfl, q, rfl⟩
                rw [eqB_self]
                have hr13 : Rd (w12.drewN q) _ _ _ _ _ := hr12
                have h13 : Sl (w12.drewN q) A n c xs := h12
                have hM13 : Mod (fun k => w.heap.size ≤ k) w (w12.drewN q) := hM12.drewN q
                clear hr12 h12 hM12 hx12 hv12
                generalize w12.drewN q = w14 at *
                -- what the Reader tells
                have hbytes : layBytes n xs = UInt8.ofNat n :: xs := by rw [layBytes, if_pos hm255]
                have hln := h13.len
                have hx0 : ((layBytes n xs).getD 0 0).toNat = n := by
                  rw [hbytes]
                  show (UInt8.ofNat n).toNat = n
                  rw [UInt8.toNat_ofNat']
                  exact Nat.mod_eq_of_lt (by omega)
                have hlL : (layBytes n xs).length = n + 1 := by rw [hbytes, List.length_cons, hln]
                have hd0 : ((layBytes n xs).drop 1).take n = xs := by rw [hbytes]; simp [← hln]
                have Hx0 := Lib.hid hx0
                have HlL := Lib.hid hlL
                have Hd0 := Lib.hid hd0
                have Hln := Lib.hid hln
                clear hx0 hlL hd0 hbytes hln
                go_wp2_with fail
                refine (take_ok _ _ _ _ _ _ hr13 (by unfold maxLen; omega) (by rw [HlL.out]; omega) n Hx0.out (by rw [HlL.out]; omega)).mono ?_
                rintro e w16 ⟨rfl, w15, hf15, Ar, _, _, hm16, _⟩
                rw [Hd0.out] at hf15
                have hy15 := hf15.sl Hln.out
                have hm15 := hf15.2.2
                have hy16 : Sl w16 (some ⟨w14.heap.size, 0, none⟩) n n xs := hy15.mod hm16 (fun k e _ e2 => by
                  simp [blkOf] at e
                  have := hr13.lt
                  omega)
                have h16 : Sl w16 A n c xs := (h13.mod hm15 (fun _ _ _ => id)).mod hm16 (fun k e hp e2 => by have := hAlt k e hp; omega)
                have hM16 : Mod (fun k => w.heap.size ≤ k) w w16 := (hM13.trans hm15 (fun _ _ h => h.elim)).trans hm16 (fun i hi e => by omega)
                clear hf15 hy15 hm15 hm16 hr13 h13 hM13
                go_wp2_with fail
                refine (same_ok _ _ _ _ _ _ _ _ _ hy16 h16 (by omega) (by omega)).mono ?_
                rintro e w17 ⟨rfl, q2, rfl⟩
                rw [eqB_self]
                have hM17 : Mod (fun k => w.heap.size ≤ k) w (w16.drewN q2) := hM16.drewN q2
                clear hy16 h16 hM16
                generalize w16.drewN q2 = w18 at *
                have hk1 : widthOk 1 = true := by decide
                have Hk1 := Lib.hid hk1
                clear hk1
                go_wp2_with (first
                  | (go_at_call 20; refine (get_short_nil _ _ Hk1.out).mono ?_; rintro e w' ⟨rfl, rfl⟩)
                  | (go_at_call 13; refine (put_nil _ _ _).mono ?_; rintro e w' ⟨rfl, rfl⟩)
                  | (go_at_call 16; refine (bytes_nil _).mono ?_; rintro e w' ⟨rfl, rfl⟩)
                  | (go_at_call 22; refine (left_nil _).mono ?_; rintro e w' ⟨rfl, rfl⟩))
                go_ret
                exact ⟨rfl, hM17.below (Nat.le_refl _) (fun _ h => by omega)⟩
end Go.Proofs.Ytllpiegdjaafnaa
