/-
  SectHeads' walk.
-/
import Derived.Test.YtpkgeidenkjnfaaAwake7
import Derived.Test.YtpkgeidenkjnfaaSRef
import Derived.Test.YtpkgeidenkjnfaaSRow
import Derived.Test.YtpkgeidenkjnfaaSFits
import Derived.Deep.RegionHeld3
import Derived.Deep.DeepCutAuto
namespace Go.Proofs.Ytpkgeidenkjnfaa
open Go Go.RowKit

theorem fits_take {l : List RcD} (k : Nat) (h : fitsB l = true) : fitsB (l.take k) = true := by
  rw [fitsB_iff] at h ⊢
  have e := List.take_append_drop k l
  obtain ⟨h1, h2, h3⟩ := h
  rw [← e] at h1 h2 h3
  rw [List.all_append, Bool.and_eq_true] at h1
  rw [List.length_append] at h2
  rw [recsB_append, List.length_append] at h3
  exact ⟨h1.1, by omega, by omega⟩
theorem fits_head {l : List RcD} {x : RcD} (k : Nat) (h : fitsB (l ++ [x]) = true) : fitsB (l.take k ++ [x]) = true := by
  rw [fitsB_iff] at h ⊢
  have e := List.take_append_drop k l
  obtain ⟨h1, h2, h3⟩ := h
  rw [← e] at h1 h2 h3
  simp only [List.all_append, Bool.and_eq_true, List.length_append, recsB_append] at *
  exact ⟨⟨h1.1.1, h1.2⟩, by omega, by omega⟩
theorem fits_nil : fitsB [] = true := by kernel_rfl

set_option maxRecDepth 100000 in
set_option maxHeartbeats 4000000 in
theorem heads_walk (W : World) (A : Option Addr) (n c : Nat) (l : List RcD) (hl : Rs W A n c l) (hc : c ≤ maxLen) (k : Int) (x : RcD) (hx : x.At W) :
    Calls Try.prog 7 #[.slice A n c, .int .i64 k, x.val] W fun e w' => e = .returned (.bool true) ∧ Below W.heap.size W w' := by
  obtain ⟨w1, hw1⟩ : ∃ w1, W.alloc (.cells x.cells 45) = w1 := ⟨_, rfl⟩
  have hI : x.In w1 W.heap.size := by rw [← hw1]; exact RcD.In.new W x
  have Hm1 : Hid (Mod (fun _ => False) W w1) := by rw [← hw1]; exact (Mod.refl _ W).alloc _
  have HI1 := Lib.hid hI
  have Hx := Lib.hid hx
  have Hl := Lib.hid hl
  have hlen : l.length = n := hl.len
  have Hlen := Lib.hid hlen
  have Hcap : Hid (n ≤ c) := hl.cap
  have Hc := Lib.hid hc
  have Hw1 := Lib.hid hw1
  have Hw := Lib.hid (awake_ok w1)
  clear hI hx hlen hw1 hl hc
  go_enter Try.func7, Try.ntmps7
  go_wp2_with fail
  rw [show W.alloc (.cells x.cells 45) = w1 from Hw1.out]
  clear Hw1
  refine Hw.out.mono ?_
  rintro e w2 ⟨rfl, hm2⟩
  have HI2 := Lib.hid (HI1.out.keep hm2)
  have hm2' := Hm1.out.trans hm2 (fun _ _ h => h)
  have Hm2 := Lib.hid hm2'
  have HL : Hid (Calls Try.prog 9 #[.slice A n c, .int .i64 100] w2 fun e w' => e = .returned (.bool (lightB l 100)) ∧ Mod (fun _ => False) w2 w') := light_ok w2 A n c l (Rs.keep Hl.out hm2') 100 (by omega)
  clear hm2 hm2' Hw HI1 Hm1
  go_wp2_with fail
  refine HL.out.mono ?_
  rintro e w3 ⟨rfl, hm3⟩
  have HI3 := Lib.hid (HI2.out.keep hm3)
  have Hm3 := Lib.hid (Hm2.out.trans hm3 (fun _ _ h => h))
  clear hm3 HL HI2 Hm2
  obtain ⟨w4, hw4⟩ : ∃ w4, w3.alloc (.cells x.cells 45) = w4 := ⟨_, rfl⟩
  have hb4 : w4.heap[w3.heap.size]? = some (.cells x.cells 45 (0, 0)) := by rw [← hw4]; exact heap_alloc_new w3 _
  have hm4 : Mod (fun _ => False) w3 w4 := by rw [← hw4]; exact (Mod.refl _ w3).alloc _
  have Hm4 := Lib.hid (Hm3.out.trans hm4 (fun _ _ h => h))
  have HI4 := Lib.hid (HI3.out.keep hm4)
  have HL : Hid (Calls Try.prog 9 #[.slice (some ⟨w3.heap.size, 0, none⟩) 1 1, .int .i64 1] w4 fun e w' => e = .returned (.bool (lightB [x] 1)) ∧ Mod (fun _ => False) w4 w') := light_ok w4 _ 1 1 [x] (Rs.lit hb4 (Hx.out.keep Hm4.out)) 1 (by omega)
  have Hw4 := Lib.hid hw4
  have p0 := HI3.out.kind
  have p1 := HI3.out.num (i := 1) (by omega) (by omega)
  have p2 := HI3.out.num (i := 2) (by omega) (by omega)
  have p3 := HI3.out.num (i := 3) (by omega) (by omega)
  have p4 := HI3.out.num (i := 4) (by omega) (by omega)
  have p5 := HI3.out.num (i := 5) (by omega) (by omega)
  have p6 := HI3.out.num (i := 6) (by omega) (by omega)
  have p7 := HI3.out.num (i := 7) (by omega) (by omega)
  have p8 := HI3.out.num (i := 8) (by omega) (by omega)
  have p9 := HI3.out.num (i := 9) (by omega) (by omega)
  have p10 := HI3.out.c10
  have p11 := HI3.out.c11
  have p12 := HI3.out.c12
  have p13 := HI3.out.c13
  clear hb4 hm4 hw4
  go_wp2_with fail
  rw [show w3.alloc (.cells x.cells 45) = w4 from Hw4.out]
  clear Hw4
  refine HL.out.mono ?_
  rintro e w5 ⟨rfl, hm5⟩
  have HI5 := Lib.hid (HI4.out.keep hm5)
  have Hm5 := Lib.hid (Hm4.out.trans hm5 (fun _ _ h => h))
  clear hm5 HL HI4 Hm4 HI3 Hm3 p0 p1 p2 p3 p4 p5 p6 p7 p8 p9 p10 p11 p12 p13
  cases h1 : lightB l 100 with
  | false =>
    clear h1
    go_wp2
    go_ret
    exact ⟨rfl, Hm5.out.end_⟩
  | true =>
  have hn : n ≤ 100 := by have := (lightB_len h1).1; have := Hlen.out; omega
  clear h1
  cases h2 : lightB [x] 1 with
  | false =>
    clear h2
    go_wp2
    go_ret
    exact ⟨rfl, Hm5.out.end_⟩
  | true =>
  clear h2
  by_cases hk0 : k < 0
  · go_wp2
    go_ret
    exact ⟨rfl, Hm5.out.end_⟩
  by_cases hkn : (n : Int) < k
  · go_wp2
    go_ret
    exact ⟨rfl, Hm5.out.end_⟩
  obtain ⟨q, rfl⟩ : ∃ q : Nat, k = q := ⟨k.toNat, by omega⟩
  have hq : q ≤ n := by omega
  have hqI : (q : Int) ≤ 100 := by omega
  have hqc : (q : Int) ≤ c := by have := Hcap.out; omega
  have hnI : (n : Int) ≤ 100 := by omega
  have hkd : decide (n < q) = false := by simp; omega
  clear hk0 hkn
  go_upto_region 6 with fail
  go_cut [10] from 39 to 71 (fun p wx => ∃ A6 c6, p = .slice A6 (n + 1) c6 ∧ Rs wx A6 (n + 1) c6 (l ++ [x]) ∧ Mod (fun _ => False) w5 wx)
  case first =>
    have HS : Hid (∀ V, Mod (fun _ => False) w5 V → x.In V W.heap.size) := fun V hm => HI5.out.keep hm
    have HAt : Hid (∀ V, Mod (fun _ => False) w5 V → ∀ y ∈ l ++ [x], y.At V) := fun V hm y hy => by
      have hmm := Hm5.out.trans hm (fun _ _ h => h)
      rcases List.mem_append.1 hy with h | h
      · exact (Hl.out.ats y (by first | exact h | exact List.mem_of_mem_take h)).keep hmm
      · obtain rfl : y = x := by simpa using h
        exact Hx.out.keep hmm
    have HSrc : Hid (∀ V, Mod (fun _ => False) w5 V → SrcN V A n 14 (recsC l)) := fun V hm => Rs.src (Hl.out.keep (Hm5.out.trans hm (fun _ _ h => h)))
    have M0 : Hid (Mod (fun _ => False) w5 w5.drew) := (Mod.refl _ w5).drew
    have MA : Hid (Mod (fun _ => False) w5 (w5.drew.alloc (.cells x.cells 45))) := ((Mod.refl _ w5).drew).alloc _
    have hsz : w5.heap.size ≤ (w5.drew.alloc (.cells x.cells 45)).heap.size := MA.out.size
    have hbb : n * 144 ≤ 140737488355328 := by omega
    have hml : n ≤ maxLen := by unfold maxLen; omega
    have hbb2 : (n + 1) * 144 ≤ 140737488355328 := by omega
    have hml2 : n + 1 ≤ maxLen := by unfold maxLen; omega
    go_region_held3 (fun w' => w'.cell? ⟨W.heap.size, 0, none⟩ = some (.int .i64 x.k) ∧ w'.cell? ⟨W.heap.size, 1, none⟩ = some (.int .i64 (x.f 1)) ∧ w'.cell? ⟨W.heap.size, 2, none⟩ = some (.int .i64 (x.f 2)) ∧ w'.cell? ⟨W.heap.size, 3, none⟩ = some (.int .i64 (x.f 3)) ∧ w'.cell? ⟨W.heap.size, 4, none⟩ = some (.int .i64 (x.f 4)) ∧ w'.cell? ⟨W.heap.size, 5, none⟩ = some (.int .i64 (x.f 5)) ∧ w'.cell? ⟨W.heap.size, 6, none⟩ = some (.int .i64 (x.f 6)) ∧ w'.cell? ⟨W.heap.size, 7, none⟩ = some (.int .i64 (x.f 7)) ∧ w'.cell? ⟨W.heap.size, 8, none⟩ = some (.int .i64 (x.f 8)) ∧ w'.cell? ⟨W.heap.size, 9, none⟩ = some (.int .i64 (x.f 9)) ∧ w'.cell? ⟨W.heap.size, 10, none⟩ = some (.bool x.o.is) ∧ w'.cell? ⟨W.heap.size, 11, none⟩ = some (.slice x.o.B x.o.m x.o.d) ∧ w'.cell? ⟨W.heap.size, 12, none⟩ = some (.bool x.v.is) ∧ w'.cell? ⟨W.heap.size, 13, none⟩ = some (.slice x.v.B x.v.m x.v.d)) (first | exact (HS.out _ M0.out).all | exact (HS.out _ MA.out).all | exact (HS.out _ M7).all | exact (HS.out _ (M7.alloc _)).all | exact (HS.out _ M9).all) (first
      | (rw [if_pos (by simp [Region.wanted])]; refine wp_appNil (base := w5.heap.size) (A2 := A) (m := n) (c2 := c) (news := recsC l) (.tmp 39) recElem rfl (by go_simp) (HSrc.out _ (by first | exact M0.out | exact MA.out)) hbb hml (by first | exact Nat.le_refl _ | exact hsz) ?_; intro A7 c7 w7 ho7 hm7; have M7 : Mod (fun _ => False) w5 w7 := (by first | exact M0.out.trans hm7 (fun _ _ h => h) | exact MA.out.trans hm7 (fun _ _ h => h)))
      | (rw [if_pos (by simp [Region.wanted])]; refine wp_appN (base := w5.heap.size) (A := A7) (n := n) (c := c7) (A2 := some ⟨w7.heap.size, 0, none⟩) (m := 1) (c2 := 1) (news := recsC [x]) (.tmp 40) (.tmp 42) recElem rfl (by go_simp) (by go_simp) (ho7.alloc _) (SrcN.rec1 w7 x _) hbb2 hml2 (M7.alloc _).size ?_; intro A9 c9 w9 ho9 hg9 hat9; have M9 : Mod (fun _ => False) w5 w9 := (M7.alloc _).grown hg9 (fun k e hk => by have := (ho7.lt k e).1; omega))
      | (rw [if_pos (by simp [Region.wanted])]; refine wp_appN (base := w5.heap.size) (A := A7) (n := n) (c := c7) (A2 := some ⟨w5.heap.size, 0, none⟩) (m := 1) (c2 := 1) (news := recsC [x]) (.tmp 40) (.tmp 42) recElem rfl (by go_simp) (by go_simp) ho7 ((SrcN.rec1 w5.drew x _).keep hm7) hbb2 hml2 M7.size ?_; intro A9 c9 w9 ho9 hg9 hat9; have M9 : Mod (fun _ => False) w5 w9 := M7.grown hg9 (fun k e hk => by have := (ho7.lt k e).1; omega)))
    all_goals
      have HR9 : Hid (Rs w9 A9 (n + 1) c9 (l ++ [x])) := OwN.recs (by rw [recsC_append]; exact ho9) (HAt.out w9 M9)
      have HM9 := Lib.hid M9
      clear ho7 hm7 M7 ho9 hg9 hat9 M9
      go_wp2_with fail
      go_meet
      exact ⟨A9, c9, rfl, HR9.out, HM9.out⟩
  case rest =>
    obtain ⟨A6, c6, rfl, hr6, hm6⟩ := hcut
    have HI6 := Lib.hid (HI5.out.keep hm6)
    have Hm6 := Lib.hid (Hm5.out.trans hm6 (fun _ _ h => h))
    have Hr6 := Lib.hid hr6
    clear hr6 hm6 HI5 Hm5
    generalize wc = w6 at *
    go_upto_region 7 with fail
    go_cut [11] from 44 to 71 (fun p wx => ∃ A7 c7, p = .slice A7 (q + 1) c7 ∧ Rs wx A7 (q + 1) c7 (l.take q ++ [x]) ∧ Mod (fun _ => False) w6 wx)
    case first =>
      have HS : Hid (∀ V, Mod (fun _ => False) w6 V → x.In V W.heap.size) := fun V hm => HI6.out.keep hm
      have HAt : Hid (∀ V, Mod (fun _ => False) w6 V → ∀ y ∈ l.take q ++ [x], y.At V) := fun V hm y hy => by
        have hmm := Hm6.out.trans hm (fun _ _ h => h)
        rcases List.mem_append.1 hy with h | h
        · exact (Hl.out.ats y (by first | exact h | exact List.mem_of_mem_take h)).keep hmm
        · obtain rfl : y = x := by simpa using h
          exact Hx.out.keep hmm
      have HSrc : Hid (∀ V, Mod (fun _ => False) w6 V → SrcN V A q 14 (recsC (l.take q))) := fun V hm => Rs.src ((Rs.pre Hl.out hq).keep (Hm6.out.trans hm (fun _ _ h => h)))
      have M0 : Hid (Mod (fun _ => False) w6 w6.drew) := (Mod.refl _ w6).drew
      have MA : Hid (Mod (fun _ => False) w6 (w6.drew.alloc (.cells x.cells 45))) := ((Mod.refl _ w6).drew).alloc _
      have hsz : w6.heap.size ≤ (w6.drew.alloc (.cells x.cells 45)).heap.size := MA.out.size
      have hbb : q * 144 ≤ 140737488355328 := by omega
      have hml : q ≤ maxLen := by unfold maxLen; omega
      have hbb2 : (q + 1) * 144 ≤ 140737488355328 := by omega
      have hml2 : q + 1 ≤ maxLen := by unfold maxLen; omega
      go_region_held3 (fun w' => w'.cell? ⟨W.heap.size, 0, none⟩ = some (.int .i64 x.k) ∧ w'.cell? ⟨W.heap.size, 1, none⟩ = some (.int .i64 (x.f 1)) ∧ w'.cell? ⟨W.heap.size, 2, none⟩ = some (.int .i64 (x.f 2)) ∧ w'.cell? ⟨W.heap.size, 3, none⟩ = some (.int .i64 (x.f 3)) ∧ w'.cell? ⟨W.heap.size, 4, none⟩ = some (.int .i64 (x.f 4)) ∧ w'.cell? ⟨W.heap.size, 5, none⟩ = some (.int .i64 (x.f 5)) ∧ w'.cell? ⟨W.heap.size, 6, none⟩ = some (.int .i64 (x.f 6)) ∧ w'.cell? ⟨W.heap.size, 7, none⟩ = some (.int .i64 (x.f 7)) ∧ w'.cell? ⟨W.heap.size, 8, none⟩ = some (.int .i64 (x.f 8)) ∧ w'.cell? ⟨W.heap.size, 9, none⟩ = some (.int .i64 (x.f 9)) ∧ w'.cell? ⟨W.heap.size, 10, none⟩ = some (.bool x.o.is) ∧ w'.cell? ⟨W.heap.size, 11, none⟩ = some (.slice x.o.B x.o.m x.o.d) ∧ w'.cell? ⟨W.heap.size, 12, none⟩ = some (.bool x.v.is) ∧ w'.cell? ⟨W.heap.size, 13, none⟩ = some (.slice x.v.B x.v.m x.v.d)) (first | exact (HS.out _ M0.out).all | exact (HS.out _ MA.out).all | exact (HS.out _ M7).all | exact (HS.out _ (M7.alloc _)).all | exact (HS.out _ M9).all) (first
        | (rw [if_pos (by simp [Region.wanted])]; refine wp_appNil (base := w6.heap.size) (A2 := A) (m := q) (c2 := c) (news := recsC (l.take q)) (.tmp 46) recElem rfl (by go_simp) (HSrc.out _ (by first | exact M0.out | exact MA.out)) hbb hml (by first | exact Nat.le_refl _ | exact hsz) ?_; intro A7 c7 w7 ho7 hm7; have M7 : Mod (fun _ => False) w6 w7 := (by first | exact M0.out.trans hm7 (fun _ _ h => h) | exact MA.out.trans hm7 (fun _ _ h => h)))
        | (rw [if_pos (by simp [Region.wanted])]; refine wp_appN (base := w6.heap.size) (A := A7) (n := q) (c := c7) (A2 := some ⟨w7.heap.size, 0, none⟩) (m := 1) (c2 := 1) (news := recsC [x]) (.tmp 47) (.tmp 49) recElem rfl (by go_simp) (by go_simp) (ho7.alloc _) (SrcN.rec1 w7 x _) hbb2 hml2 (M7.alloc _).size ?_; intro A9 c9 w9 ho9 hg9 hat9; have M9 : Mod (fun _ => False) w6 w9 := (M7.alloc _).grown hg9 (fun k e hk => by have := (ho7.lt k e).1; omega))
        | (rw [if_pos (by simp [Region.wanted])]; refine wp_appN (base := w6.heap.size) (A := A7) (n := q) (c := c7) (A2 := some ⟨w6.heap.size, 0, none⟩) (m := 1) (c2 := 1) (news := recsC [x]) (.tmp 47) (.tmp 49) recElem rfl (by go_simp) (by go_simp) ho7 ((SrcN.rec1 w6.drew x _).keep hm7) hbb2 hml2 M7.size ?_; intro A9 c9 w9 ho9 hg9 hat9; have M9 : Mod (fun _ => False) w6 w9 := M7.grown hg9 (fun k e hk => by have := (ho7.lt k e).1; omega)))
      all_goals
        have HR9 : Hid (Rs w9 A9 (q + 1) c9 (l.take q ++ [x])) := OwN.recs (by rw [recsC_append]; exact ho9) (HAt.out w9 M9)
        have HM9 := Lib.hid M9
        clear ho7 hm7 M7 ho9 hg9 hat9 M9
        go_wp2_with fail
        go_meet
        exact ⟨A9, c9, rfl, HR9.out, HM9.out⟩
    case rest =>
      obtain ⟨A7, c7, rfl, hr7, hm7⟩ := hcut
      have Hm7 := Lib.hid (Hm6.out.trans hm7 (fun _ _ h => h))
      have Hr67 := Lib.hid (Hr6.out.keep hm7)
      have Hr7 := Lib.hid hr7
      clear hr7 hm7 HI6 Hm6 Hr6
      generalize wc = w7 at *
      have HL : Hid (∀ V, Mod (fun _ => False) w7 V → Calls Try.prog 13 #[.slice A n c] V fun e w' => e = .returned (.bool (fitsB l)) ∧ Mod (fun _ => False) w7 w') := fun V hm =>
        (fits_ok V A n c l (Hl.out.keep (Hm7.out.trans hm (fun _ _ h => h))) (by omega)).mono (fun e w' h => ⟨h.1, hm.trans h.2 (fun _ _ h => h)⟩)
      have HP : Hid (∀ V, Mod (fun _ => False) w7 V → Calls Try.prog 13 #[.slice A q c] V fun e w' => e = .returned (.bool (fitsB (l.take q))) ∧ Mod (fun _ => False) w7 w') := fun V hm =>
        (fits_ok V A q c _ ((Hl.out.pre hq).keep (Hm7.out.trans hm (fun _ _ h => h))) (by omega)).mono (fun e w' h => ⟨h.1, hm.trans h.2 (fun _ _ h => h)⟩)
      have HA : Hid (∀ V, Mod (fun _ => False) w7 V → Calls Try.prog 13 #[.slice A6 (n + 1) c6] V fun e w' => e = .returned (.bool (fitsB (l ++ [x]))) ∧ Mod (fun _ => False) w7 w') := fun V hm =>
        (fits_ok V A6 (n + 1) c6 _ (Hr67.out.keep hm) (by omega)).mono (fun e w' h => ⟨h.1, hm.trans h.2 (fun _ _ h => h)⟩)
      have HH : Hid (∀ V, Mod (fun _ => False) w7 V → Calls Try.prog 13 #[.slice A7 (q + 1) c7] V fun e w' => e = .returned (.bool (fitsB (l.take q ++ [x]))) ∧ Mod (fun _ => False) w7 w') := fun V hm =>
        (fits_ok V A7 (q + 1) c7 _ (Hr7.out.keep hm) (by omega)).mono (fun e w' h => ⟨h.1, hm.trans h.2 (fun _ _ h => h)⟩)
      have HN : Hid (∀ V, Mod (fun _ => False) w7 V → Calls Try.prog 13 #[.slice none 0 0] V fun e w' => e = .returned (.bool true) ∧ Mod (fun _ => False) w7 w') := fun V hm =>
        (fits_ok V none 0 0 [] (Rs.nil _ _ _) (by omega)).mono (fun e w' h => ⟨by rw [fits_nil] at h; exact h.1, hm.trans h.2 (fun _ _ h => h)⟩)
      clear Hr67 Hr7 Hl
      cases f1 : fitsB l with
      | false =>
        rw [f1] at HL
        go_wp2_with fail
        refine (HL.out _ (Mod.refl _ _)).mono ?_
        rintro e w8 ⟨rfl, hm8⟩
        have H8 := Lib.hid hm8
        clear hm8 HL
        cases f3 : fitsB (l ++ [x]) with
        | false =>
          rw [f3] at HA
          go_wp2_with fail
          refine (HA.out _ H8.out).mono ?_
          rintro e w9 ⟨rfl, hm9⟩
          have H9 := Lib.hid hm9
          clear hm9 HA f3
          go_wp2_with fail
          refine (HN.out _ H9.out).mono ?_
          rintro e w10 ⟨rfl, hm10⟩
          have H10 := Lib.hid (Hm7.out.trans hm10 (fun _ _ h => h))
          clear hm10 HN
          go_wp2
          go_ret
          exact ⟨rfl, H10.out.end_⟩
        | true =>
          have f4 := fits_head q f3
          rw [f3] at HA
          rw [f4] at HH
          go_wp2_with fail
          refine (HA.out _ H8.out).mono ?_
          rintro e w9 ⟨rfl, hm9⟩
          have H9 := Lib.hid hm9
          clear hm9 HA f3 f4
          go_wp2_with fail
          refine (HH.out _ H9.out).mono ?_
          rintro e w10 ⟨rfl, hm10⟩
          have H10 := Lib.hid hm10
          clear hm10 HH
          go_wp2_with fail
          refine (HN.out _ H10.out).mono ?_
          rintro e w11 ⟨rfl, hm11⟩
          have H11 := Lib.hid (Hm7.out.trans hm11 (fun _ _ h => h))
          clear hm11 HN
          go_wp2
          go_ret
          exact ⟨rfl, H11.out.end_⟩
      | true =>
        have f2 := fits_take q f1
        rw [f1] at HL
        rw [f2] at HP
        go_wp2_with fail
        refine (HL.out _ (Mod.refl _ _)).mono ?_
        rintro e w77 ⟨rfl, hm77⟩
        have H77 := Lib.hid hm77
        clear hm77 HL f1 f2
        go_wp2_with fail
        refine (HP.out _ H77.out).mono ?_
        rintro e w8 ⟨rfl, hm8⟩
        have H8 := Lib.hid hm8
        clear hm8 HP
        cases f3 : fitsB (l ++ [x]) with
        | false =>
          rw [f3] at HA
          go_wp2_with fail
          refine (HA.out _ H8.out).mono ?_
          rintro e w9 ⟨rfl, hm9⟩
          have H9 := Lib.hid hm9
          clear hm9 HA f3
          go_wp2_with fail
          refine (HN.out _ H9.out).mono ?_
          rintro e w10 ⟨rfl, hm10⟩
          have H10 := Lib.hid (Hm7.out.trans hm10 (fun _ _ h => h))
          clear hm10 HN
          go_wp2
          go_ret
          exact ⟨rfl, H10.out.end_⟩
        | true =>
          have f4 := fits_head q f3
          rw [f3] at HA
          rw [f4] at HH
          go_wp2_with fail
          refine (HA.out _ H8.out).mono ?_
          rintro e w9 ⟨rfl, hm9⟩
          have H9 := Lib.hid hm9
          clear hm9 HA f3 f4
          go_wp2_with fail
          refine (HH.out _ H9.out).mono ?_
          rintro e w10 ⟨rfl, hm10⟩
          have H10 := Lib.hid hm10
          clear hm10 HH
          go_wp2_with fail
          refine (HN.out _ H10.out).mono ?_
          rintro e w11 ⟨rfl, hm11⟩
          have H11 := Lib.hid (Hm7.out.trans hm11 (fun _ _ h => h))
          clear hm11 HN
          go_wp2
          go_ret
          exact ⟨rfl, H11.out.end_⟩
end Go.Proofs.Ytpkgeidenkjnfaa
