/-
  bobbinlaw08.WalDoes.
-/
import Derived.Test.YtidligegmhlikaaQBt
import Derived.Deep.MidRow
namespace Go.Proofs.Ytidligegmhlikaa
open Go Go.RowKit Go.Shelf

set_option maxRecDepth 100000 in
set_option maxHeartbeats 8000000 in
theorem does_walk0 (w : World) (base n ep st nx : Int) (A : Option Addr) (m c : Nat) (l : List OpD) (h : OpsAt w A m c l) (bb : -9223372036854775808 ≤ base) (bB : base < 9223372036854775808) (nB : n < 9223372036854775808) :
    Calls Try.prog 3 #[.int .i64 base, .int .i64 n, .int .i64 ep, .int .i64 st, .int .i64 nx, .slice A m c] w fun e w' => e = .returned (.bool true) ∧ Mod (fun _ => False) w w' := by
  have Ha := Lib.hid (awake_ok w)
  have H := Lib.hid h
  have hl := h.len
  have HB : Hid (-9223372036854775808 ≤ base ∧ base < 9223372036854775808 ∧ n < 9223372036854775808) := ⟨bb, bB, nB⟩
  clear h bb bB nB
  go_enter Try.func3, Try.ntmps3
  go_wp2_with fail
  refine Ha.out.mono ?_
  rintro e w1 ⟨rfl, hm1⟩
  have Hf := Lib.hid (few_ok w1 A m c l (H.out.keep hm1))
  have Hm1 := Lib.hid hm1
  clear hm1 Ha
  go_wp2_with fail
  cases hfw : fewB l with
  | false =>
    rw [hfw] at Hf
    clear hfw
    refine Hf.out.mono ?_
    rintro e w2 ⟨rfl, hm2⟩
    have Hm2 := Lib.hid (Hm1.out.trans hm2 (fun _ _ h => h))
    clear hm2 Hf
    go_wp2
    go_ret
    exact ⟨rfl, Hm2.out⟩
  | true =>
    rw [hfw] at Hf
    have hn60 : m ≤ 60 := by have := fewB_true hfw; omega
    clear hfw
    refine Hf.out.mono ?_
    rintro e w2 ⟨rfl, hm2⟩
    have Hm2 := Lib.hid (Hm1.out.trans hm2 (fun _ _ h => h))
    have H0 := Lib.hid (dev_new w w2 Hm2.out 40 (by omega) (by omega))
    clear hm2 Hf Hm1
    go_wp2_with fail
    refine H0.out.mono ?_
    rintro e w3 ⟨x, rfl, hx⟩
    have hlen : (Dk.fresh (List.replicate (40 : Int).toNat (fill 0))).dur.length = 40 := by show (List.replicate 40 (fill 0)).length = 40; simp
    by_cases hmay : MayL 40 base n ep st nx
    · have Hnew := Lib.hid (lnew_ok w3 w x _ hx base n ep st nx HB.out.2.1 HB.out.1 HB.out.2.2 (by rw [hlen]; exact hmay) rfl rfl rfl)
      have Hrm : Hid (∀ W, Calls Try.prog 12 #[.int .i64 40, .int .i64 base, .int .i64 n, .int .i64 ep, .int .i64 st, .int .i64 nx] W fun e w' => e = .returned (.bool true) ∧ w' = W) := fun W => rmay_yes W base n ep st nx hmay
      obtain ⟨d0, hd0⟩ : ∃ d0, Dk.fresh (List.replicate (40 : Int).toNat (fill 0)) = d0 := ⟨_, rfl⟩
      have hpd0 : d0.pend = [] := by rw [← hd0]; rfl
      have Hpd0 := Lib.hid hpd0
      rw [hd0] at Hnew
      clear hx H0 hlen hmay hd0 hpd0
      go_wp2_with fail
      refine Hnew.out.mono ?_
      rintro e w4 ⟨rfl, hat4, hm4, hs4⟩
      clear Hnew
      obtain ⟨v, hv⟩ : ∃ v, newV w3 x base n ep st nx = v := ⟨_, rfl⟩
      have hvg : v.g = newG base n ep st nx := by rw [← hv]; rfl
      rw [hv] at hat4
      rw [show (newV w3 x base n ep st nx).p = v.p by rw [hv]]
      obtain ⟨p, hp⟩ : ∃ p, v.p = p := ⟨_, rfl⟩
      rw [hp]
      have Hat4 := Lib.hid hat4
      have Hvg := Lib.hid hvg
      have Hp := Lib.hid hp
      have Hm4 := Lib.hid hat4.old
      clear hat4 hm4 hs4 hv hvg hp
      go_wp2_with fail
      refine (Hrm.out _).mono ?_
      rintro e w4' ⟨rfl, rfl⟩
      clear Hrm
      obtain ⟨gR, hgR⟩ : ∃ gR, w4'.heap.size = gR := ⟨_, rfl⟩
      have Hb0 : Hid (Bt w (w4'.alloc (.cells (⟨n, ep, st, nx, nx, none, 0, 0, []⟩ : RL).cells 35)) p gR v ⟨n, ep, st, nx, nx, none, 0, 0, []⟩ d0) := by
        refine ⟨Hat4.out.keep ((Mod.refl _ w4').alloc _), Hp.out, ?_, ?_, ?_, ⟨rfl, Nat.le_refl _, fun h => absurd h (by simp)⟩, fun k hk => (by cases hk), fun x hx => absurd hx (by simp)⟩
        · rw [← hgR]; exact heap_alloc_new w4' _
        · rw [← hgR]; exact Hm4.out.size
        · rw [← hgR]; intro e; have := (Hat4.out.M_lt e).2; omega
      have Hrel0 : Hid (Rel v.g ⟨n, ep, st, nx, nx, none, 0, 0, []⟩) := by
        rw [Hvg.out]
        exact ⟨rfl, rfl, rfl, rfl, .nil⟩
      have HgR := Lib.hid hgR
      clear hgR
      go_wp2
      rw [HgR.out]
      go_loopw [21] (fun i wr => ∃ (j : Nat) (v : LV) (q : RL) (d : Dk), j ≤ m ∧ i = .int .i64 j ∧ Bt w wr p gR v q d ∧ Rel v.g q ∧ d.pend.length ≤ j) (fun i _ => m - (intOf i).toNat)
      case atStart => exact ⟨0, v, _, d0, by omega, rfl, Hb0.out, Hrel0.out, by rw [Hpd0.out]; exact Nat.le_refl _⟩
      case round =>
        clear Hat4 Hvg Hp Hm4 Hb0 Hrel0 Hpd0 HgR
        obtain ⟨j, v, q, d, hj, rfl, hB, hR, hpd⟩ := hrel
        have Hb := Lib.hid hB
        have Hrel := Lib.hid hR
        have Hpd := Lib.hid hpd
        clear hB hR hpd
        by_cases hlt : j < m
        · obtain ⟨y, hy⟩ : ∃ y, l[j]? = some y := ⟨_, List.getElem?_eq_getElem (by omega)⟩
          obtain ⟨b, o, hA, hcs⟩ := (H.out.keep Hb.out.at_.old).cells (by omega)
          subst hA
          obtain ⟨k0, k1, ⟨k2, k3, k4, k5, k6, k7, k8, k9, k10, k11, k12, k13, k14, k15⟩, k16, k17, k18⟩ := hcs j y hy
          have i3 : wr.cell? ⟨b, o + j * 19 + 3, none⟩ = some (.int .i64 (y.r.f 1)) := k3
          have i4 : wr.cell? ⟨b, o + j * 19 + 4, none⟩ = some (.int .i64 (y.r.f 2)) := k4
          have i5 : wr.cell? ⟨b, o + j * 19 + 5, none⟩ = some (.int .i64 (y.r.f 3)) := k5
          have i6 : wr.cell? ⟨b, o + j * 19 + 6, none⟩ = some (.int .i64 (y.r.f 4)) := k6
          have i7 : wr.cell? ⟨b, o + j * 19 + 7, none⟩ = some (.int .i64 (y.r.f 5)) := k7
          have i8 : wr.cell? ⟨b, o + j * 19 + 8, none⟩ = some (.int .i64 (y.r.f 6)) := k8
          have i9 : wr.cell? ⟨b, o + j * 19 + 9, none⟩ = some (.int .i64 (y.r.f 7)) := k9
          have i10 : wr.cell? ⟨b, o + j * 19 + 10, none⟩ = some (.int .i64 (y.r.f 8)) := k10
          have i11 : wr.cell? ⟨b, o + j * 19 + 11, none⟩ = some (.int .i64 (y.r.f 9)) := k11
          have i12 : wr.cell? ⟨b, o + j * 19 + 12, none⟩ = some (.bool y.r.o.is) := k12
          have i13 : wr.cell? ⟨b, o + j * 19 + 13, none⟩ = some (.slice y.r.o.B y.r.o.m y.r.o.d) := k13
          have i14 : wr.cell? ⟨b, o + j * 19 + 14, none⟩ = some (.bool y.r.v.is) := k14
          have i15 : wr.cell? ⟨b, o + j * 19 + 15, none⟩ = some (.slice y.r.v.B y.r.v.m y.r.v.d) := k15
          clear k3 k4 k5 k6 k7 k8 k9 k10 k11 k12 k13 k14 k15
          have Hyr : Hid (y.r.At w) := (H.out.ats y (List.mem_of_getElem? hy)).1
          obtain ⟨gX, hgX⟩ : ∃ gX, wr.heap.size = gX := ⟨_, rfl⟩
          obtain ⟨C, hC⟩ : ∃ C : List Value, [.int .i64 y.k, .int .i64 y.n, .int .i64 y.r.k, .int .i64 (y.r.f 1), .int .i64 (y.r.f 2), .int .i64 (y.r.f 3), .int .i64 (y.r.f 4), .int .i64 (y.r.f 5), .int .i64 (y.r.f 6), .int .i64 (y.r.f 7), .int .i64 (y.r.f 8), .int .i64 (y.r.f 9), .bool y.r.o.is, .slice y.r.o.B y.r.o.m y.r.o.d, .bool y.r.v.is, .slice y.r.v.B y.r.v.m y.r.v.d, .slice y.cr.A y.cr.n y.cr.c, .int .i64 y.cr.torn, .int .i64 y.cr.k] = C := ⟨_, rfl⟩
          have hrg : wr.rangeAt b (o + j * 19) C := by
            rw [← hC]
            intro t u hu
            have ht : t < 19 := (List.getElem?_eq_some_iff.1 hu).1
            match t, ht with
            | 0, _ => injection hu with hu; subst hu; exact k0
            | 1, _ => injection hu with hu; subst hu; exact k1
            | 2, _ => injection hu with hu; subst hu; exact k2
            | 3, _ => injection hu with hu; subst hu; exact i3
            | 4, _ => injection hu with hu; subst hu; exact i4
            | 5, _ => injection hu with hu; subst hu; exact i5
            | 6, _ => injection hu with hu; subst hu; exact i6
            | 7, _ => injection hu with hu; subst hu; exact i7
            | 8, _ => injection hu with hu; subst hu; exact i8
            | 9, _ => injection hu with hu; subst hu; exact i9
            | 10, _ => injection hu with hu; subst hu; exact i10
            | 11, _ => injection hu with hu; subst hu; exact i11
            | 12, _ => injection hu with hu; subst hu; exact i12
            | 13, _ => injection hu with hu; subst hu; exact i13
            | 14, _ => injection hu with hu; subst hu; exact i14
            | 15, _ => injection hu with hu; subst hu; exact i15
            | 16, _ => injection hu with hu; subst hu; exact k16
            | 17, _ => injection hu with hu; subst hu; exact k17
            | 18, _ => injection hu with hu; subst hu; exact k18
          have hCl : C.length = 19 := by rw [← hC]; rfl
          have hC1 : C.toArray.all (·.oneCell') = true := by rw [← hC]; exact all_oneCell_toArray (by simp [Value.oneCell'])
          obtain ⟨wZ, hwZ⟩ : ∃ wZ, wr.alloc (.cells #[.int .i64 0, .int .i64 0, .int .i64 0, .int .i64 0, .int .i64 0, .int .i64 0, .int .i64 0, .int .i64 0, .int .i64 0, .int .i64 0, .int .i64 0, .int .i64 0, .bool false, .slice none 0 0, .bool false, .slice none 0 0, .slice none 0 0, .int .i64 0, .int .i64 0] 45) = wZ := ⟨_, rfl⟩
          have hZ : wZ.heap[gX]? = some (.cells #[.int .i64 0, .int .i64 0, .int .i64 0, .int .i64 0, .int .i64 0, .int .i64 0, .int .i64 0, .int .i64 0, .int .i64 0, .int .i64 0, .int .i64 0, .int .i64 0, .bool false, .slice none 0 0, .bool false, .slice none 0 0, .slice none 0 0, .int .i64 0, .int .i64 0] 45 (0, 0)) := by rw [← hwZ, ← hgX]; exact heap_alloc_new wr _
          obtain ⟨wX, hwX⟩ : ∃ wX, wZ.setRow gX C.toArray = wX := ⟨_, rfl⟩
          have hmX : Mod (fun _ => False) wr wX := by
            have h1 : Mod (fun _ => False) wr wZ := by rw [← hwZ]; exact (Mod.refl _ wr).alloc _
            refine h1.trans (G := fun k => k = gX) ⟨by rw [← hwX]; rfl, by rw [← hwX]; rfl, by rw [← hwX]; rfl, by rw [← hwX]; simp, fun k hk hne => by rw [← hwX]; exact setRow_other wZ gX k _ (fun e => hne e)⟩ (fun k hk e => by omega)
          have hX : wX.heap[gX]? = some (.cells C.toArray 45 (0, 0)) := by rw [← hwX]; exact setRow_heap wZ gX _ _ _ _ hZ
          have HZ := Lib.hid hZ
          have Hrg := Lib.hid hrg
          have HCi : Hid ((Try.prog.info? 45).map (·.size) = some C.length) := by show _ = _; rw [hCl]; kernel_rfl
          have HCj : Hid ((Try.prog.info? 45).map (·.size) = some C.toArray.size) := by show _ = _; rw [List.size_toArray, hCl]; kernel_rfl
          have HCz : Hid ((19 : Nat) = C.toArray.size) := by show _ = _; rw [List.size_toArray, hCl]
          have HC1 := Lib.hid hC1
          rw [← hC] at hX
          have HbX := Lib.hid (Hb.out.keep hmX)
          have HgM : Hid (¬ v.M gX) := by rw [← hgX]; intro e; have := (Hb.out.at_.M_lt e).2; omega
          have HX : Hid (wX.heap[gX]? = some (.cells #[.int .i64 y.k, .int .i64 y.n, .int .i64 y.r.k, .int .i64 (y.r.f 1), .int .i64 (y.r.f 2), .int .i64 (y.r.f 3), .int .i64 (y.r.f 4), .int .i64 (y.r.f 5), .int .i64 (y.r.f 6), .int .i64 (y.r.f 7), .int .i64 (y.r.f 8), .int .i64 (y.r.f 9), .bool y.r.o.is, .slice y.r.o.B y.r.o.m y.r.o.d, .bool y.r.v.is, .slice y.r.v.B y.r.v.m y.r.v.d, .slice y.cr.A y.cr.n y.cr.c, .int .i64 y.cr.torn, .int .i64 y.cr.k] 45)) := hX
          have x0 : wX.cell? ⟨gX, 0, none⟩ = some (.int .i64 y.k) := by rw [cell_of_row _ _ _ _ _ _ hX]; rfl
          have x1 : wX.cell? ⟨gX, 1, none⟩ = some (.int .i64 y.n) := by rw [cell_of_row _ _ _ _ _ _ hX]; rfl
          have x2 : wX.cell? ⟨gX, 2, none⟩ = some (.int .i64 y.r.k) := by rw [cell_of_row _ _ _ _ _ _ hX]; rfl
          have x3 : wX.cell? ⟨gX, 3, none⟩ = some (.int .i64 (y.r.f 1)) := by rw [cell_of_row _ _ _ _ _ _ hX]; rfl
          have x4 : wX.cell? ⟨gX, 4, none⟩ = some (.int .i64 (y.r.f 2)) := by rw [cell_of_row _ _ _ _ _ _ hX]; rfl
          have x5 : wX.cell? ⟨gX, 5, none⟩ = some (.int .i64 (y.r.f 3)) := by rw [cell_of_row _ _ _ _ _ _ hX]; rfl
          have x6 : wX.cell? ⟨gX, 6, none⟩ = some (.int .i64 (y.r.f 4)) := by rw [cell_of_row _ _ _ _ _ _ hX]; rfl
          have x7 : wX.cell? ⟨gX, 7, none⟩ = some (.int .i64 (y.r.f 5)) := by rw [cell_of_row _ _ _ _ _ _ hX]; rfl
          have x8 : wX.cell? ⟨gX, 8, none⟩ = some (.int .i64 (y.r.f 6)) := by rw [cell_of_row _ _ _ _ _ _ hX]; rfl
          have x9 : wX.cell? ⟨gX, 9, none⟩ = some (.int .i64 (y.r.f 7)) := by rw [cell_of_row _ _ _ _ _ _ hX]; rfl
          have x10 : wX.cell? ⟨gX, 10, none⟩ = some (.int .i64 (y.r.f 8)) := by rw [cell_of_row _ _ _ _ _ _ hX]; rfl
          have x11 : wX.cell? ⟨gX, 11, none⟩ = some (.int .i64 (y.r.f 9)) := by rw [cell_of_row _ _ _ _ _ _ hX]; rfl
          have x12 : wX.cell? ⟨gX, 12, none⟩ = some (.bool y.r.o.is) := by rw [cell_of_row _ _ _ _ _ _ hX]; rfl
          have x13 : wX.cell? ⟨gX, 13, none⟩ = some (.slice y.r.o.B y.r.o.m y.r.o.d) := by rw [cell_of_row _ _ _ _ _ _ hX]; rfl
          have x14 : wX.cell? ⟨gX, 14, none⟩ = some (.bool y.r.v.is) := by rw [cell_of_row _ _ _ _ _ _ hX]; rfl
          have x15 : wX.cell? ⟨gX, 15, none⟩ = some (.slice y.r.v.B y.r.v.m y.r.v.d) := by rw [cell_of_row _ _ _ _ _ _ hX]; rfl
          have x16 : wX.cell? ⟨gX, 16, none⟩ = some (.slice y.cr.A y.cr.n y.cr.c) := by rw [cell_of_row _ _ _ _ _ _ hX]; rfl
          have x17 : wX.cell? ⟨gX, 17, none⟩ = some (.int .i64 y.cr.torn) := by rw [cell_of_row _ _ _ _ _ _ hX]; rfl
          have x18 : wX.cell? ⟨gX, 18, none⟩ = some (.int .i64 y.cr.k) := by rw [cell_of_row _ _ _ _ _ _ hX]; rfl
          clear hX hmX hcs hy Hb hZ hrg hCl hC1 hC k0 k1 k2 k16 k17 k18 i3 i4 i5 i6 i7 i8 i9 i10 i11 i12 i13 i14 i15
          by_cases hk0 : y.k = 0
          · have q0 : (y.k == 0) = true := by simpa using hk0
            have Hap := append_ok wX w v d HbX.out.at_ y.r (Hyr.out.keep HbX.out.at_.old) (by have := Hpd.out; omega)
            rw [HbX.out.vp] at Hap
            have HAp := Lib.hid Hap
            clear hk0 Hap
            go_wp2_with (first | (with_reducible refine wpList_load_mid rfl 45 (.tmp 90) rfl b (o + j * 19) rfl C _ Hrg.out Try.underlying45 rfl HCi.out ?_) | (refine wpList_store_row rfl 45 (.tmp 22) (.tmp 91) rfl gX C.toArray rfl rfl _ _ HZ.out HCj.out (by exact HCz.out) HC1.out ?_))
            refine HAp.out.mono ?_
            rintro e w6 ⟨v', d', a, er, rfl, happ, hat', hmv⟩
            have hB6 := HbX.out.log hat' hmv
            have hX6 : w6.heap[gX]? = some (.cells #[.int .i64 y.k, .int .i64 y.n, .int .i64 y.r.k, .int .i64 (y.r.f 1), .int .i64 (y.r.f 2), .int .i64 (y.r.f 3), .int .i64 (y.r.f 4), .int .i64 (y.r.f 5), .int .i64 (y.r.f 6), .int .i64 (y.r.f 7), .int .i64 (y.r.f 8), .int .i64 (y.r.f 9), .bool y.r.o.is, .slice y.r.o.B y.r.o.m y.r.o.d, .bool y.r.v.is, .slice y.r.v.B y.r.v.m y.r.v.d, .slice y.cr.A y.cr.n y.cr.c, .int .i64 y.cr.torn, .int .i64 y.cr.k] 45) := (hmv.mod.block gX (Array.getElem?_eq_some_iff.1 HX.out).1 HgM.out).trans HX.out
            have Hpd6 : Hid (d'.pend.length ≤ j + 1) := by have := happ.pend HbX.out.at_; have := Hpd.out; show _ ≤ _; omega
            have hra := rapp_ok w6 q (Hrel.out.ok HbX.out) hB6.rs y.r (Hyr.out.keep hB6.at_.old)
            have Hra := Lib.hid hra
            have HB6 := Lib.hid hB6
            have Happ := Lib.hid happ
            have u2 : w6.cell? ⟨gX, 2, none⟩ = some (.int .i64 y.r.k) := by rw [cell_of_row _ _ _ _ _ _ hX6]; rfl
            have u3 : w6.cell? ⟨gX, 3, none⟩ = some (.int .i64 (y.r.f 1)) := by rw [cell_of_row _ _ _ _ _ _ hX6]; rfl
            have u4 : w6.cell? ⟨gX, 4, none⟩ = some (.int .i64 (y.r.f 2)) := by rw [cell_of_row _ _ _ _ _ _ hX6]; rfl
            have u5 : w6.cell? ⟨gX, 5, none⟩ = some (.int .i64 (y.r.f 3)) := by rw [cell_of_row _ _ _ _ _ _ hX6]; rfl
            have u6 : w6.cell? ⟨gX, 6, none⟩ = some (.int .i64 (y.r.f 4)) := by rw [cell_of_row _ _ _ _ _ _ hX6]; rfl
            have u7 : w6.cell? ⟨gX, 7, none⟩ = some (.int .i64 (y.r.f 5)) := by rw [cell_of_row _ _ _ _ _ _ hX6]; rfl
            have u8 : w6.cell? ⟨gX, 8, none⟩ = some (.int .i64 (y.r.f 6)) := by rw [cell_of_row _ _ _ _ _ _ hX6]; rfl
            have u9 : w6.cell? ⟨gX, 9, none⟩ = some (.int .i64 (y.r.f 7)) := by rw [cell_of_row _ _ _ _ _ _ hX6]; rfl
            have u10 : w6.cell? ⟨gX, 10, none⟩ = some (.int .i64 (y.r.f 8)) := by rw [cell_of_row _ _ _ _ _ _ hX6]; rfl
            have u11 : w6.cell? ⟨gX, 11, none⟩ = some (.int .i64 (y.r.f 9)) := by rw [cell_of_row _ _ _ _ _ _ hX6]; rfl
            have u12 : w6.cell? ⟨gX, 12, none⟩ = some (.bool y.r.o.is) := by rw [cell_of_row _ _ _ _ _ _ hX6]; rfl
            have u13 : w6.cell? ⟨gX, 13, none⟩ = some (.slice y.r.o.B y.r.o.m y.r.o.d) := by rw [cell_of_row _ _ _ _ _ _ hX6]; rfl
            have u14 : w6.cell? ⟨gX, 14, none⟩ = some (.bool y.r.v.is) := by rw [cell_of_row _ _ _ _ _ _ hX6]; rfl
            have u15 : w6.cell? ⟨gX, 15, none⟩ = some (.slice y.r.v.B y.r.v.m y.r.v.d) := by rw [cell_of_row _ _ _ _ _ _ hX6]; rfl
            have r0 : w6.cell? ⟨gR, 0, none⟩ = some (.int .i64 q.n) := hB6.box.c0
            have r1 : w6.cell? ⟨gR, 1, none⟩ = some (.int .i64 q.ep) := hB6.box.c1
            have r2 : w6.cell? ⟨gR, 2, none⟩ = some (.int .i64 q.st) := hB6.box.c2
            have r3 : w6.cell? ⟨gR, 3, none⟩ = some (.int .i64 q.nx) := hB6.box.c3
            have r4 : w6.cell? ⟨gR, 4, none⟩ = some (.int .i64 q.du) := hB6.box.c4
            have r5 : w6.cell? ⟨gR, 5, none⟩ = some (.slice q.A q.m q.c) := hB6.box.c5
            clear hat' hmv hB6 hX6 happ hra HAp x0 x1 x2 x3 x4 x5 x6 x7 x8 x9 x10 x11 x12 x13 x14 x15 x16 x17 x18 HX HgM HbX
            go_wp2_with fail
            refine Hra.out.mono ?_
            rintro e w7 ⟨⟨q', a', er', bb, rfl, hRA, hrs', hnew⟩, hm7⟩
            obtain ⟨rfl, rfl, hrel'⟩ := Happ.out.same hRA Hrel.out
            obtain ⟨w8, hw8⟩ : ∃ w8, w7.alloc (.cells #[.int .i64 q'.n, .int .i64 q'.ep, .int .i64 q'.st, .int .i64 q'.nx, .int .i64 q'.du, .slice q'.A q'.m q'.c] 35) = w8 := ⟨_, rfl⟩
            have hm8 : Mod (fun _ => False) w7 w8 := by rw [← hw8]; exact (Mod.refl _ w7).alloc _
            have h8 : LIn w8 q' w7.heap.size := by rw [← hw8]; exact heap_alloc_new w7 _
            have hB8 := HB6.out.keep (hm7.trans hm8 (fun _ _ h => h))
            obtain ⟨w9, hw9⟩ : ∃ w9, stLog w8 gR q' = w9 := ⟨_, rfl⟩
            have hw9' : ((((((w8).setCell ⟨gR, 0, none⟩ (.int .i64 q'.n)).setCell ⟨gR, 1, none⟩ (.int .i64 q'.ep)).setCell ⟨gR, 2, none⟩ (.int .i64 q'.st)).setCell ⟨gR, 3, none⟩ (.int .i64 q'.nx)).setCell ⟨gR, 4, none⟩ (.int .i64 q'.du)).setCell ⟨gR, 5, none⟩ (.slice q'.A q'.m q'.c) = w9 := hw9
            have Hw9 := Lib.hid hw9'
            have hB9 : Bt w w9 p gR v' q' d' := by
              rw [← hw9]
              refine hB8.store (stLog_mod _ _ _) (stLog_in hB8.box q') ⟨hrs'.len, hrs'.cap, fun hp => ?_⟩ (fun k hk => ?_) (fun x hx => ?_)
              · obtain ⟨b', o', hA', hc'⟩ := hrs'.cells hp
                exact ⟨b', o', hA', fun i x hx => (hc' i x hx).keep (hm8.block b' (hc' i x hx).lt id)⟩
              · rcases hnew k hk with e | e
                · have := hB8.rM k e; exact this
                · have hlt7 : k < w7.heap.size := by
                    by_cases hp : 0 < q'.m
                    · obtain ⟨b', o', hA', hc'⟩ := hrs'.cells hp
                      rw [hA'] at hk
                      injection hk with hk
                      have hk : b' = k := hk
                      have h0 := hc' 0 _ (List.getElem?_eq_getElem (by rw [hrs'.len]; exact hp))
                      have := h0.lt
                      omega
                    · exact absurd hp (RA_pos hRA hk e HB6.out)
                  refine ⟨fun e' => by have := (HB6.out.at_.M_lt e').2; omega, fun e' => by have := HB6.out.box.lt; omega, Nat.le_trans HB6.out.at_.old.size e, Nat.lt_of_lt_of_le hlt7 hm8.size⟩
              · rcases hRA.mem x hx with hx | rfl
                · exact HB6.out.ats x hx
                · exact Hyr.out
            have Hb := Lib.hid hB9
            have Hrel' := Lib.hid hrel'
            have Hpd' := Hpd6
            have s0 : w8.cell? ⟨gR, 0, none⟩ = some (.int .i64 q.n) := hB8.box.c0
            have s1 : w8.cell? ⟨gR, 1, none⟩ = some (.int .i64 q.ep) := hB8.box.c1
            have s2 : w8.cell? ⟨gR, 2, none⟩ = some (.int .i64 q.st) := hB8.box.c2
            have s3 : w8.cell? ⟨gR, 3, none⟩ = some (.int .i64 q.nx) := hB8.box.c3
            have s4 : w8.cell? ⟨gR, 4, none⟩ = some (.int .i64 q.du) := hB8.box.c4
            have s5 : w8.cell? ⟨gR, 5, none⟩ = some (.slice q.A q.m q.c) := hB8.box.c5
            have t0 : w8.cell? ⟨w7.heap.size, 0, none⟩ = some (.int .i64 q'.n) := h8.c0
            have t1 : w8.cell? ⟨w7.heap.size, 1, none⟩ = some (.int .i64 q'.ep) := h8.c1
            have t2 : w8.cell? ⟨w7.heap.size, 2, none⟩ = some (.int .i64 q'.st) := h8.c2
            have t3 : w8.cell? ⟨w7.heap.size, 3, none⟩ = some (.int .i64 q'.nx) := h8.c3
            have t4 : w8.cell? ⟨w7.heap.size, 4, none⟩ = some (.int .i64 q'.du) := h8.c4
            have t5 : w8.cell? ⟨w7.heap.size, 5, none⟩ = some (.slice q'.A q'.m q'.c) := h8.c5
            have ff := hB8.box.fz
            clear hrel' hm8 h8 hB8 hw9 hw9' hB9 hRA hrs' hnew hm7 Hra HB6 Happ Hrel Hpd u2 u3 u4 u5 u6 u7 u8 u9 u10 u11 u12 u13 u14 u15 r0 r1 r2 r3 r4 r5
            have Hrel := Hrel'
            have Hpd := Hpd'
            clear Hrel' Hpd'
            go_wp2_with fail
            rw [Hw9.out]
            clear Hw9 s0 s1 s2 s3 s4 s5 t0 t1 t2 t3 t4 t5 ff hw8
            have Hk := Lib.hid (Hrel.out.ok Hb.out)
            have hun := Hrel.out.un Hb.out
            have vok := Hb.out.at_.ok
            have HG : Hid (∀ V, Mod (fun _ => False) w9 V → V.cell? ⟨gR, 0, none⟩ = some (.int .i64 q'.n) ∧ V.cell? ⟨gR, 1, none⟩ = some (.int .i64 q'.ep) ∧ V.cell? ⟨gR, 2, none⟩ = some (.int .i64 q'.st) ∧ V.cell? ⟨gR, 3, none⟩ = some (.int .i64 q'.nx) ∧ V.cell? ⟨gR, 4, none⟩ = some (.int .i64 q'.du) ∧ V.cell? ⟨gR, 5, none⟩ = some (.slice q'.A q'.m q'.c)) := fun V hV => by
              have := Hb.out.box.keep hV
              exact ⟨this.c0, this.c1, this.c2, this.c3, this.c4, this.c5⟩
            have hp := Hb.out.vp
            have N1 : Hid (∀ V, Mod (fun _ => False) w9 V → Calls Try.prog 18 #[.pointer (some ⟨p, 0, none⟩)] V fun r w' => r = .returned (.int .i64 (256 * (v'.g.nx + v'.g.un))) ∧ Mod (fun _ => False) w9 w') := fun V hV => (hp ▸ (next_ok V w v' d' (Hb.out.at_.keep hV)).mono fun _ _ h => ⟨h.1, hV.trans h.2 (fun _ _ h => h)⟩)
            have N2 : Hid (∀ V, Mod (fun _ => False) w9 V → Calls Try.prog 19 #[.agg #[.int .i64 q'.n, .int .i64 q'.ep, .int .i64 q'.st, .int .i64 q'.nx, .int .i64 q'.du, .slice q'.A q'.m q'.c]] V fun r w' => r = .returned (.int .i64 (256 * (v'.g.nx + v'.g.un))) ∧ Mod (fun _ => False) w9 w') := fun V hV => (by
              have h0 := rnext_ok V q' Hk.out
              rw [Hrel.out.nx, hun] at h0
              exact h0.mono fun _ _ h => ⟨h.1, hV.trans h.2 (fun _ _ h => h)⟩)
            have N3 : Hid (∀ V, Mod (fun _ => False) w9 V → Calls Try.prog 20 #[.pointer (some ⟨p, 0, none⟩)] V fun r w' => r = .returned (.int .i64 (256 * v'.g.du)) ∧ Mod (fun _ => False) w9 w') := fun V hV => (hp ▸ (durable_ok V w v' d' (Hb.out.at_.keep hV)).mono fun _ _ h => ⟨h.1, hV.trans h.2 (fun _ _ h => h)⟩)
            have N4 : Hid (∀ V, Mod (fun _ => False) w9 V → Calls Try.prog 21 #[.int .i64 q'.du, .int .i64 0] V fun r w' => r = .returned (.int .i64 (256 * v'.g.du)) ∧ Mod (fun _ => False) w9 w') := fun V hV => (by
              have h0 := rlsn_ok V q'.du 0
              rw [Hrel.out.du] at h0 ⊢
              rw [lsnV_ok vok.d0 (Int.le_trans vok.dn vok.nm) (by omega) (by omega), Int.add_zero] at h0
              exact h0.mono fun _ _ h => ⟨h.1, by rw [← h.2]; exact hV⟩)
            have N5 : Hid (∀ V, Mod (fun _ => False) w9 V → Calls Try.prog 22 #[.pointer (some ⟨p, 0, none⟩)] V fun r w' => r = .returned (.int .i64 q'.st) ∧ Mod (fun _ => False) w9 w') := fun V hV => (by
              rw [Hrel.out.st]
              exact (hp ▸ (start_ok V w v' d' (Hb.out.at_.keep hV)).mono fun _ _ h => ⟨h.1, hV.trans h.2 (fun _ _ h => h)⟩))
            have N6 : Hid (∀ V, Mod (fun _ => False) w9 V → Calls Try.prog 23 #[.pointer (some ⟨p, 0, none⟩)] V fun r w' => r = .returned (.int .i64 (v'.g.n - (v'.g.nx - v'.g.st) - v'.g.un)) ∧ Mod (fun _ => False) w9 w') := fun V hV => (hp ▸ (free_ok V w v' d' (Hb.out.at_.keep hV)).mono fun _ _ h => ⟨h.1, hV.trans h.2 (fun _ _ h => h)⟩)
            have N7 : Hid (∀ V, Mod (fun _ => False) w9 V → Calls Try.prog 24 #[.agg #[.int .i64 q'.n, .int .i64 q'.ep, .int .i64 q'.st, .int .i64 q'.nx, .int .i64 q'.du, .slice q'.A q'.m q'.c]] V fun r w' => r = .returned (.int .i64 (v'.g.n - (v'.g.nx - v'.g.st) - v'.g.un)) ∧ Mod (fun _ => False) w9 w') := fun V hV => (by
              have h0 := rfree_ok V q' Hk.out
              rw [Hrel.out.nx, hun, Hrel.out.n, Hrel.out.st] at h0
              exact h0.mono fun _ _ h => ⟨h.1, hV.trans h.2 (fun _ _ h => h)⟩)
            have M0 : Hid (Mod (fun _ => False) w9 w9.drew) := (Mod.refl _ w9).drew
            obtain ⟨g0, g1, g2, g3, g4, g5⟩ := HG.out w9 (Mod.refl _ w9)
            generalize 256 * (v'.g.nx + v'.g.un) = X1 at *
            generalize 256 * v'.g.du = X2 at *
            generalize v'.g.n - (v'.g.nx - v'.g.st) - v'.g.un = X3 at *
            clear hun vok hp
            go_region_held3 (fun w' => w'.cell? ⟨gR, 0, none⟩ = some (.int .i64 q'.n) ∧ w'.cell? ⟨gR, 1, none⟩ = some (.int .i64 q'.ep) ∧ w'.cell? ⟨gR, 2, none⟩ = some (.int .i64 q'.st) ∧ w'.cell? ⟨gR, 3, none⟩ = some (.int .i64 q'.nx) ∧ w'.cell? ⟨gR, 4, none⟩ = some (.int .i64 q'.du) ∧ w'.cell? ⟨gR, 5, none⟩ = some (.slice q'.A q'.m q'.c)) (first | exact ⟨g0, g1, g2, g3, g4, g5⟩ | exact HG.out _ m7 | exact HG.out _ m6 | exact HG.out _ m5 | exact HG.out _ m4 | exact HG.out _ m3 | exact HG.out _ m2 | exact HG.out _ m1) (first | (go_at_call 18; refine (N1.out _ M0.out).mono ?_; rintro e v1 ⟨rfl, m1⟩) | (go_at_call 19; refine (N2.out _ m1).mono ?_; rintro e v2 ⟨rfl, m2⟩) | (go_at_call 20; refine (N3.out _ m2).mono ?_; rintro e v3 ⟨rfl, m3⟩) | (go_at_call 21; refine (N4.out _ m3).mono ?_; rintro e v4 ⟨rfl, m4⟩) | (go_at_call 22; refine (N5.out _ m4).mono ?_; rintro e v5 ⟨rfl, m5⟩) | (go_at_call 23; refine (N6.out _ m5).mono ?_; rintro e v6 ⟨rfl, m6⟩) | (go_at_call 24; refine (N7.out _ m6).mono ?_; rintro e v7 ⟨rfl, m7⟩))
            have Hbz := Lib.hid (Hb.out.keep m7)
            clear m1 m2 m3 m4 m5 m6 m7 N1 N2 N3 N4 N5 N6 N7 HG M0 g0 g1 g2 g3 g4 g5
            go_wp2
            go_roundw
            case rel => exact ⟨j + 1, _, _, _, by omega, by go_num, Hbz.out, Hrel.out, Hpd.out⟩
            case measure => simp [intOf]; omega
          · have q0 : (y.k == 0) = false := by simpa using hk0
            by_cases hk1 : y.k = 1
            · have q1 : (y.k == 1) = true := by simpa using hk1
              have Hfo := force_ok wX w v d HbX.out.at_ (by have := Hpd.out; omega)
              rw [HbX.out.vp] at Hfo
              have HFo := Lib.hid Hfo
              clear hk0 hk1 Hfo
              go_wp2_with (first | (with_reducible refine wpList_load_mid rfl 45 (.tmp 90) rfl b (o + j * 19) rfl C _ Hrg.out Try.underlying45 rfl HCi.out ?_) | (refine wpList_store_row rfl 45 (.tmp 22) (.tmp 91) rfl gX C.toArray rfl rfl _ _ HZ.out HCj.out (by exact HCz.out) HC1.out ?_))
              refine HFo.out.mono ?_
              rintro e w6 ⟨v', rfl, hg', hat', hmv⟩
              have hB6 := HbX.out.log hat' hmv
              have Hpd6 : Hid ((v.g.forcedD d).pend.length ≤ j + 1) := by
                have h0 := hat'.wait
                have h1 := v.g.forced_nx.2
                rw [hg', h1] at h0
                show _ ≤ _
                omega
              have hrel' : Rel v'.g q.forced := by rw [hg']; exact Hrel.out.forced HbX.out
              have hrf := rforce_ok w6 q (Hrel.out.ok HbX.out)
              obtain ⟨d', hd'⟩ : ∃ d', v.g.forcedD d = d' := ⟨_, rfl⟩
              rw [hd'] at hB6 Hpd6
              have hfq := hB6.forcedQ
              obtain ⟨q', hq'⟩ : ∃ q', q.forced = q' := ⟨_, rfl⟩
              rw [hq'] at hrel' hrf hfq
              have Hrf : Hid (Calls Try.prog 16 #[.agg #[.int .i64 q.n, .int .i64 q.ep, .int .i64 q.st, .int .i64 q.nx, .int .i64 q.du, .slice q.A q.m q.c]] w6 fun e w' => e = .returned (.agg #[.int .i64 q'.n, .int .i64 q'.ep, .int .i64 q'.st, .int .i64 q'.nx, .int .i64 q'.du, .slice q'.A q'.m q'.c]) ∧ Mod (fun _ => False) w6 w') := hrf
              have HB6 := Lib.hid hB6
              have Hfq := Lib.hid hfq
              have Hrel' := Lib.hid hrel'
              have r0 : w6.cell? ⟨gR, 0, none⟩ = some (.int .i64 q.n) := hB6.box.c0
              have r1 : w6.cell? ⟨gR, 1, none⟩ = some (.int .i64 q.ep) := hB6.box.c1
              have r2 : w6.cell? ⟨gR, 2, none⟩ = some (.int .i64 q.st) := hB6.box.c2
              have r3 : w6.cell? ⟨gR, 3, none⟩ = some (.int .i64 q.nx) := hB6.box.c3
              have r4 : w6.cell? ⟨gR, 4, none⟩ = some (.int .i64 q.du) := hB6.box.c4
              have r5 : w6.cell? ⟨gR, 5, none⟩ = some (.slice q.A q.m q.c) := hB6.box.c5
              clear hat' hmv hB6 hrf HFo hg' hfq hrel' hd' hq' x0 x1 x2 x3 x4 x5 x6 x7 x8 x9 x10 x11 x12 x13 x14 x15 x16 x17 x18 HX HgM HbX
              go_wp2_with fail
              refine Hrf.out.mono ?_
              rintro e w7 ⟨rfl, hm7⟩
              have hB7 := HB6.out.keep hm7
              obtain ⟨w9, hw9⟩ : ∃ w9, stLog w7 gR q' = w9 := ⟨_, rfl⟩
              have hw9' : ((((((w7).setCell ⟨gR, 0, none⟩ (.int .i64 q'.n)).setCell ⟨gR, 1, none⟩ (.int .i64 q'.ep)).setCell ⟨gR, 2, none⟩ (.int .i64 q'.st)).setCell ⟨gR, 3, none⟩ (.int .i64 q'.nx)).setCell ⟨gR, 4, none⟩ (.int .i64 q'.du)).setCell ⟨gR, 5, none⟩ (.slice q'.A q'.m q'.c) = w9 := hw9
              have Hw9 := Lib.hid hw9'
              have hB9 : Bt w w9 p gR v' q' d' := by
                rw [← hw9]
                refine hB7.store (stLog_mod _ _ _) (stLog_in hB7.box q') (Hfq.out.1.mod hm7 (fun _ _ => id)) (fun k hk => ?_) Hfq.out.2.2
                obtain ⟨h1, h2, h3, h4⟩ := Hfq.out.2.1 k hk
                exact ⟨h1, h2, h3, Nat.lt_of_lt_of_le h4 hm7.size⟩
              have Hb := Lib.hid hB9
              have s0 : w7.cell? ⟨gR, 0, none⟩ = some (.int .i64 q.n) := hB7.box.c0
              have s1 : w7.cell? ⟨gR, 1, none⟩ = some (.int .i64 q.ep) := hB7.box.c1
              have s2 : w7.cell? ⟨gR, 2, none⟩ = some (.int .i64 q.st) := hB7.box.c2
              have s3 : w7.cell? ⟨gR, 3, none⟩ = some (.int .i64 q.nx) := hB7.box.c3
              have s4 : w7.cell? ⟨gR, 4, none⟩ = some (.int .i64 q.du) := hB7.box.c4
              have s5 : w7.cell? ⟨gR, 5, none⟩ = some (.slice q.A q.m q.c) := hB7.box.c5
              have ff := hB7.box.fz
              clear hB7 hw9 hw9' hB9 hm7 Hrf HB6 Hfq Hrel Hpd r0 r1 r2 r3 r4 r5
              have Hrel := Hrel'
              have Hpd := Hpd6
              clear Hrel' Hpd6
              go_wp2_with fail
              rw [Hw9.out]
              clear Hw9 s0 s1 s2 s3 s4 s5 ff
              have Hk := Lib.hid (Hrel.out.ok Hb.out)
              have hun := Hrel.out.un Hb.out
              have vok := Hb.out.at_.ok
              have HG : Hid (∀ V, Mod (fun _ => False) w9 V → V.cell? ⟨gR, 0, none⟩ = some (.int .i64 q'.n) ∧ V.cell? ⟨gR, 1, none⟩ = some (.int .i64 q'.ep) ∧ V.cell? ⟨gR, 2, none⟩ = some (.int .i64 q'.st) ∧ V.cell? ⟨gR, 3, none⟩ = some (.int .i64 q'.nx) ∧ V.cell? ⟨gR, 4, none⟩ = some (.int .i64 q'.du) ∧ V.cell? ⟨gR, 5, none⟩ = some (.slice q'.A q'.m q'.c)) := fun V hV => by
                have := Hb.out.box.keep hV
                exact ⟨this.c0, this.c1, this.c2, this.c3, this.c4, this.c5⟩
              have hp := Hb.out.vp
              have N1 : Hid (∀ V, Mod (fun _ => False) w9 V → Calls Try.prog 18 #[.pointer (some ⟨p, 0, none⟩)] V fun r w' => r = .returned (.int .i64 (256 * (v'.g.nx + v'.g.un))) ∧ Mod (fun _ => False) w9 w') := fun V hV => (hp ▸ (next_ok V w v' d' (Hb.out.at_.keep hV)).mono fun _ _ h => ⟨h.1, hV.trans h.2 (fun _ _ h => h)⟩)
              have N2 : Hid (∀ V, Mod (fun _ => False) w9 V → Calls Try.prog 19 #[.agg #[.int .i64 q'.n, .int .i64 q'.ep, .int .i64 q'.st, .int .i64 q'.nx, .int .i64 q'.du, .slice q'.A q'.m q'.c]] V fun r w' => r = .returned (.int .i64 (256 * (v'.g.nx + v'.g.un))) ∧ Mod (fun _ => False) w9 w') := fun V hV => (by
                have h0 := rnext_ok V q' Hk.out
                rw [Hrel.out.nx, hun] at h0
                exact h0.mono fun _ _ h => ⟨h.1, hV.trans h.2 (fun _ _ h => h)⟩)
              have N3 : Hid (∀ V, Mod (fun _ => False) w9 V → Calls Try.prog 20 #[.pointer (some ⟨p, 0, none⟩)] V fun r w' => r = .returned (.int .i64 (256 * v'.g.du)) ∧ Mod (fun _ => False) w9 w') := fun V hV => (hp ▸ (durable_ok V w v' d' (Hb.out.at_.keep hV)).mono fun _ _ h => ⟨h.1, hV.trans h.2 (fun _ _ h => h)⟩)
              have N4 : Hid (∀ V, Mod (fun _ => False) w9 V → Calls Try.prog 21 #[.int .i64 q'.du, .int .i64 0] V fun r w' => r = .returned (.int .i64 (256 * v'.g.du)) ∧ Mod (fun _ => False) w9 w') := fun V hV => (by
                have h0 := rlsn_ok V q'.du 0
                rw [Hrel.out.du] at h0 ⊢
                rw [lsnV_ok vok.d0 (Int.le_trans vok.dn vok.nm) (by omega) (by omega), Int.add_zero] at h0
                exact h0.mono fun _ _ h => ⟨h.1, by rw [← h.2]; exact hV⟩)
              have N5 : Hid (∀ V, Mod (fun _ => False) w9 V → Calls Try.prog 22 #[.pointer (some ⟨p, 0, none⟩)] V fun r w' => r = .returned (.int .i64 q'.st) ∧ Mod (fun _ => False) w9 w') := fun V hV => (by
                rw [Hrel.out.st]
                exact (hp ▸ (start_ok V w v' d' (Hb.out.at_.keep hV)).mono fun _ _ h => ⟨h.1, hV.trans h.2 (fun _ _ h => h)⟩))
              have N6 : Hid (∀ V, Mod (fun _ => False) w9 V → Calls Try.prog 23 #[.pointer (some ⟨p, 0, none⟩)] V fun r w' => r = .returned (.int .i64 (v'.g.n - (v'.g.nx - v'.g.st) - v'.g.un)) ∧ Mod (fun _ => False) w9 w') := fun V hV => (hp ▸ (free_ok V w v' d' (Hb.out.at_.keep hV)).mono fun _ _ h => ⟨h.1, hV.trans h.2 (fun _ _ h => h)⟩)
              have N7 : Hid (∀ V, Mod (fun _ => False) w9 V → Calls Try.prog 24 #[.agg #[.int .i64 q'.n, .int .i64 q'.ep, .int .i64 q'.st, .int .i64 q'.nx, .int .i64 q'.du, .slice q'.A q'.m q'.c]] V fun r w' => r = .returned (.int .i64 (v'.g.n - (v'.g.nx - v'.g.st) - v'.g.un)) ∧ Mod (fun _ => False) w9 w') := fun V hV => (by
                have h0 := rfree_ok V q' Hk.out
                rw [Hrel.out.nx, hun, Hrel.out.n, Hrel.out.st] at h0
                exact h0.mono fun _ _ h => ⟨h.1, hV.trans h.2 (fun _ _ h => h)⟩)
              have M0 : Hid (Mod (fun _ => False) w9 w9.drew) := (Mod.refl _ w9).drew
              obtain ⟨g0, g1, g2, g3, g4, g5⟩ := HG.out w9 (Mod.refl _ w9)
              generalize 256 * (v'.g.nx + v'.g.un) = X1 at *
              generalize 256 * v'.g.du = X2 at *
              generalize v'.g.n - (v'.g.nx - v'.g.st) - v'.g.un = X3 at *
              clear hun vok hp
              go_region_held3 (fun w' => w'.cell? ⟨gR, 0, none⟩ = some (.int .i64 q'.n) ∧ w'.cell? ⟨gR, 1, none⟩ = some (.int .i64 q'.ep) ∧ w'.cell? ⟨gR, 2, none⟩ = some (.int .i64 q'.st) ∧ w'.cell? ⟨gR, 3, none⟩ = some (.int .i64 q'.nx) ∧ w'.cell? ⟨gR, 4, none⟩ = some (.int .i64 q'.du) ∧ w'.cell? ⟨gR, 5, none⟩ = some (.slice q'.A q'.m q'.c)) (first | exact ⟨g0, g1, g2, g3, g4, g5⟩ | exact HG.out _ m7 | exact HG.out _ m6 | exact HG.out _ m5 | exact HG.out _ m4 | exact HG.out _ m3 | exact HG.out _ m2 | exact HG.out _ m1) (first | (go_at_call 18; refine (N1.out _ M0.out).mono ?_; rintro e v1 ⟨rfl, m1⟩) | (go_at_call 19; refine (N2.out _ m1).mono ?_; rintro e v2 ⟨rfl, m2⟩) | (go_at_call 20; refine (N3.out _ m2).mono ?_; rintro e v3 ⟨rfl, m3⟩) | (go_at_call 21; refine (N4.out _ m3).mono ?_; rintro e v4 ⟨rfl, m4⟩) | (go_at_call 22; refine (N5.out _ m4).mono ?_; rintro e v5 ⟨rfl, m5⟩) | (go_at_call 23; refine (N6.out _ m5).mono ?_; rintro e v6 ⟨rfl, m6⟩) | (go_at_call 24; refine (N7.out _ m6).mono ?_; rintro e v7 ⟨rfl, m7⟩))
              have Hbz := Lib.hid (Hb.out.keep m7)
              clear m1 m2 m3 m4 m5 m6 m7 N1 N2 N3 N4 N5 N6 N7 HG M0 g0 g1 g2 g3 g4 g5
              go_wp2
              go_roundw
              case rel => exact ⟨j + 1, _, _, _, by omega, by go_num, Hbz.out, Hrel.out, Hpd.out⟩
              case measure => simp [intOf]; omega
            · have q1 : (y.k == 1) = false := by simpa using hk1
              by_cases hk2 : y.k = 2
              · have q2 : (y.k == 2) = true := by simpa using hk2
                have Hcu := cut_ok wX w v d HbX.out.at_ y.n
                rw [HbX.out.vp] at Hcu
                have HCu := Lib.hid Hcu
                clear hk0 hk1 hk2 Hcu
                go_wp2_with (first | (with_reducible refine wpList_load_mid rfl 45 (.tmp 90) rfl b (o + j * 19) rfl C _ Hrg.out Try.underlying45 rfl HCi.out ?_) | (refine wpList_store_row rfl 45 (.tmp 22) (.tmp 91) rfl gX C.toArray rfl rfl _ _ HZ.out HCj.out (by exact HCz.out) HC1.out ?_))
                refine HCu.out.mono ?_
                rintro e w6 ⟨rfl, hat', hmp⟩
                have hmv : Moved wX w6 v ⟨p, v.x, v.A, v.c, v.g.cut y.n⟩ := ⟨HbX.out.vp.symm, rfl, hmp.mono (fun k _ e => .inr (.inl (e.trans HbX.out.vp.symm))), fun k h => .inl (by rcases h with h | h | h; exact .inl h; exact .inr (.inl (h.trans HbX.out.vp.symm)); exact .inr (.inr h))⟩
                have hB6 := HbX.out.log (v' := ⟨p, v.x, v.A, v.c, v.g.cut y.n⟩) hat' hmv
                have hX6 : w6.heap[gX]? = some (.cells #[.int .i64 y.k, .int .i64 y.n, .int .i64 y.r.k, .int .i64 (y.r.f 1), .int .i64 (y.r.f 2), .int .i64 (y.r.f 3), .int .i64 (y.r.f 4), .int .i64 (y.r.f 5), .int .i64 (y.r.f 6), .int .i64 (y.r.f 7), .int .i64 (y.r.f 8), .int .i64 (y.r.f 9), .bool y.r.o.is, .slice y.r.o.B y.r.o.m y.r.o.d, .bool y.r.v.is, .slice y.r.v.B y.r.v.m y.r.v.d, .slice y.cr.A y.cr.n y.cr.c, .int .i64 y.cr.torn, .int .i64 y.cr.k] 45) := (hmv.mod.block gX (Array.getElem?_eq_some_iff.1 HX.out).1 HgM.out).trans HX.out
                have u1 : w6.cell? ⟨gX, 1, none⟩ = some (.int .i64 y.n) := by rw [cell_of_row _ _ _ _ _ _ hX6]; rfl
                have r0 : w6.cell? ⟨gR, 0, none⟩ = some (.int .i64 q.n) := hB6.box.c0
                have r1 : w6.cell? ⟨gR, 1, none⟩ = some (.int .i64 q.ep) := hB6.box.c1
                have r2 : w6.cell? ⟨gR, 2, none⟩ = some (.int .i64 q.st) := hB6.box.c2
                have r3 : w6.cell? ⟨gR, 3, none⟩ = some (.int .i64 q.nx) := hB6.box.c3
                have r4 : w6.cell? ⟨gR, 4, none⟩ = some (.int .i64 q.du) := hB6.box.c4
                have r5 : w6.cell? ⟨gR, 5, none⟩ = some (.slice q.A q.m q.c) := hB6.box.c5
                have Hpd6 : Hid (d.pend.length ≤ j + 1) := by have := Hpd.out; show _ ≤ _; omega
                obtain ⟨v', hv'⟩ : ∃ v', (⟨p, v.x, v.A, v.c, v.g.cut y.n⟩ : LV) = v' := ⟨_, rfl⟩
                have hvg : v'.g = v.g.cut y.n := by rw [← hv']
                rw [hv'] at hB6
                have HB6 := Lib.hid hB6
                have Hst := Lib.hid Hrel.out.st
                have Hnx := Lib.hid Hrel.out.nx
                have Hvg := Lib.hid hvg
                have ff := hB6.box.fz
                clear hat' hmp hmv hX6 hB6 HCu hv' hvg x0 x1 x2 x3 x4 x5 x6 x7 x8 x9 x10 x11 x12 x13 x14 x15 x16 x17 x18 HX HgM HbX
                by_cases hc : q.st ≤ y.n ∧ y.n ≤ q.nx
                · have z1 : decide (q.st ≤ y.n) = true := by simpa using hc.1
                  have z2 : decide (y.n ≤ q.nx) = true := by simpa using hc.2
                  have hcc : v.g.st ≤ y.n ∧ y.n ≤ v.g.nx := by rw [← Hst.out, ← Hnx.out]; exact hc
                  rw [show v.g.cutE y.n = 0 by unfold Lg.cutE; rw [if_pos hcc]]
                  have hvg : v'.g = { v.g with st := y.n } := by rw [Hvg.out]; unfold Lg.cut; rw [if_pos hcc]
                  have hrel' : Rel v'.g { q with st := y.n } := by rw [hvg]; exact ⟨Hrel.out.n, rfl, Hrel.out.nx, Hrel.out.du, Hrel.out.l⟩
                  obtain ⟨w9, hw9⟩ : ∃ w9, w6.setCell ⟨gR, 2, none⟩ (.int .i64 y.n) = w9 := ⟨_, rfl⟩
                  have Hw9 := Lib.hid hw9
                  obtain ⟨q', hq'⟩ : ∃ q' : RL, ({ q with st := y.n } : RL) = q' := ⟨_, rfl⟩
                  have hB9 : Bt w w9 p gR v' q' d := by
                    rw [← hw9, ← hq']
                    refine HB6.out.store ((Mod.refl _ w6).one _ _) ?_ ⟨HB6.out.row.len, HB6.out.row.cap, HB6.out.row.cells⟩ HB6.out.rM HB6.out.ats
                    show _ = _
                    rw [heap_set HB6.out.box]
                    rfl
                  rw [hq'] at hrel'
                  have Hb := Lib.hid hB9
                  have Hrel' := Lib.hid hrel'
                  clear hc hcc hvg hrel' hB9 hw9 hq' HB6 Hst Hnx Hvg Hrel Hpd
                  have Hrel := Hrel'
                  have Hpd := Hpd6
                  clear Hrel' Hpd6
                  go_wp2_with fail
                  rw [Hw9.out]
                  clear Hw9 r0 r1 r2 r3 r4 r5 ff u1 z1 z2
                  have Hk := Lib.hid (Hrel.out.ok Hb.out)
                  have hun := Hrel.out.un Hb.out
                  have vok := Hb.out.at_.ok
                  have HG : Hid (∀ V, Mod (fun _ => False) w9 V → V.cell? ⟨gR, 0, none⟩ = some (.int .i64 q'.n) ∧ V.cell? ⟨gR, 1, none⟩ = some (.int .i64 q'.ep) ∧ V.cell? ⟨gR, 2, none⟩ = some (.int .i64 q'.st) ∧ V.cell? ⟨gR, 3, none⟩ = some (.int .i64 q'.nx) ∧ V.cell? ⟨gR, 4, none⟩ = some (.int .i64 q'.du) ∧ V.cell? ⟨gR, 5, none⟩ = some (.slice q'.A q'.m q'.c)) := fun V hV => by
                    have := Hb.out.box.keep hV
                    exact ⟨this.c0, this.c1, this.c2, this.c3, this.c4, this.c5⟩
                  have hp := Hb.out.vp
                  have N1 : Hid (∀ V, Mod (fun _ => False) w9 V → Calls Try.prog 18 #[.pointer (some ⟨p, 0, none⟩)] V fun r w' => r = .returned (.int .i64 (256 * (v'.g.nx + v'.g.un))) ∧ Mod (fun _ => False) w9 w') := fun V hV => (hp ▸ (next_ok V w v' d (Hb.out.at_.keep hV)).mono fun _ _ h => ⟨h.1, hV.trans h.2 (fun _ _ h => h)⟩)
                  have N2 : Hid (∀ V, Mod (fun _ => False) w9 V → Calls Try.prog 19 #[.agg #[.int .i64 q'.n, .int .i64 q'.ep, .int .i64 q'.st, .int .i64 q'.nx, .int .i64 q'.du, .slice q'.A q'.m q'.c]] V fun r w' => r = .returned (.int .i64 (256 * (v'.g.nx + v'.g.un))) ∧ Mod (fun _ => False) w9 w') := fun V hV => (by
                    have h0 := rnext_ok V q' Hk.out
                    rw [Hrel.out.nx, hun] at h0
                    exact h0.mono fun _ _ h => ⟨h.1, hV.trans h.2 (fun _ _ h => h)⟩)
                  have N3 : Hid (∀ V, Mod (fun _ => False) w9 V → Calls Try.prog 20 #[.pointer (some ⟨p, 0, none⟩)] V fun r w' => r = .returned (.int .i64 (256 * v'.g.du)) ∧ Mod (fun _ => False) w9 w') := fun V hV => (hp ▸ (durable_ok V w v' d (Hb.out.at_.keep hV)).mono fun _ _ h => ⟨h.1, hV.trans h.2 (fun _ _ h => h)⟩)
                  have N4 : Hid (∀ V, Mod (fun _ => False) w9 V → Calls Try.prog 21 #[.int .i64 q'.du, .int .i64 0] V fun r w' => r = .returned (.int .i64 (256 * v'.g.du)) ∧ Mod (fun _ => False) w9 w') := fun V hV => (by
                    have h0 := rlsn_ok V q'.du 0
                    rw [Hrel.out.du] at h0 ⊢
                    rw [lsnV_ok vok.d0 (Int.le_trans vok.dn vok.nm) (by omega) (by omega), Int.add_zero] at h0
                    exact h0.mono fun _ _ h => ⟨h.1, by rw [← h.2]; exact hV⟩)
                  have N5 : Hid (∀ V, Mod (fun _ => False) w9 V → Calls Try.prog 22 #[.pointer (some ⟨p, 0, none⟩)] V fun r w' => r = .returned (.int .i64 q'.st) ∧ Mod (fun _ => False) w9 w') := fun V hV => (by
                    rw [Hrel.out.st]
                    exact (hp ▸ (start_ok V w v' d (Hb.out.at_.keep hV)).mono fun _ _ h => ⟨h.1, hV.trans h.2 (fun _ _ h => h)⟩))
                  have N6 : Hid (∀ V, Mod (fun _ => False) w9 V → Calls Try.prog 23 #[.pointer (some ⟨p, 0, none⟩)] V fun r w' => r = .returned (.int .i64 (v'.g.n - (v'.g.nx - v'.g.st) - v'.g.un)) ∧ Mod (fun _ => False) w9 w') := fun V hV => (hp ▸ (free_ok V w v' d (Hb.out.at_.keep hV)).mono fun _ _ h => ⟨h.1, hV.trans h.2 (fun _ _ h => h)⟩)
                  have N7 : Hid (∀ V, Mod (fun _ => False) w9 V → Calls Try.prog 24 #[.agg #[.int .i64 q'.n, .int .i64 q'.ep, .int .i64 q'.st, .int .i64 q'.nx, .int .i64 q'.du, .slice q'.A q'.m q'.c]] V fun r w' => r = .returned (.int .i64 (v'.g.n - (v'.g.nx - v'.g.st) - v'.g.un)) ∧ Mod (fun _ => False) w9 w') := fun V hV => (by
                    have h0 := rfree_ok V q' Hk.out
                    rw [Hrel.out.nx, hun, Hrel.out.n, Hrel.out.st] at h0
                    exact h0.mono fun _ _ h => ⟨h.1, hV.trans h.2 (fun _ _ h => h)⟩)
                  have M0 : Hid (Mod (fun _ => False) w9 w9.drew) := (Mod.refl _ w9).drew
                  obtain ⟨g0, g1, g2, g3, g4, g5⟩ := HG.out w9 (Mod.refl _ w9)
                  generalize 256 * (v'.g.nx + v'.g.un) = X1 at *
                  generalize 256 * v'.g.du = X2 at *
                  generalize v'.g.n - (v'.g.nx - v'.g.st) - v'.g.un = X3 at *
                  clear hun vok hp
                  go_region_held3 (fun w' => w'.cell? ⟨gR, 0, none⟩ = some (.int .i64 q'.n) ∧ w'.cell? ⟨gR, 1, none⟩ = some (.int .i64 q'.ep) ∧ w'.cell? ⟨gR, 2, none⟩ = some (.int .i64 q'.st) ∧ w'.cell? ⟨gR, 3, none⟩ = some (.int .i64 q'.nx) ∧ w'.cell? ⟨gR, 4, none⟩ = some (.int .i64 q'.du) ∧ w'.cell? ⟨gR, 5, none⟩ = some (.slice q'.A q'.m q'.c)) (first | exact ⟨g0, g1, g2, g3, g4, g5⟩ | exact HG.out _ m7 | exact HG.out _ m6 | exact HG.out _ m5 | exact HG.out _ m4 | exact HG.out _ m3 | exact HG.out _ m2 | exact HG.out _ m1) (first | (go_at_call 18; refine (N1.out _ M0.out).mono ?_; rintro e v1 ⟨rfl, m1⟩) | (go_at_call 19; refine (N2.out _ m1).mono ?_; rintro e v2 ⟨rfl, m2⟩) | (go_at_call 20; refine (N3.out _ m2).mono ?_; rintro e v3 ⟨rfl, m3⟩) | (go_at_call 21; refine (N4.out _ m3).mono ?_; rintro e v4 ⟨rfl, m4⟩) | (go_at_call 22; refine (N5.out _ m4).mono ?_; rintro e v5 ⟨rfl, m5⟩) | (go_at_call 23; refine (N6.out _ m5).mono ?_; rintro e v6 ⟨rfl, m6⟩) | (go_at_call 24; refine (N7.out _ m6).mono ?_; rintro e v7 ⟨rfl, m7⟩))
                  have Hbz := Lib.hid (Hb.out.keep m7)
                  clear m1 m2 m3 m4 m5 m6 m7 N1 N2 N3 N4 N5 N6 N7 HG M0 g0 g1 g2 g3 g4 g5
                  go_wp2
                  go_roundw
                  case rel => exact ⟨j + 1, _, _, _, by omega, by go_num, Hbz.out, Hrel.out, Hpd.out⟩
                  case measure => simp [intOf]; omega
                · have hcc : ¬ (v.g.st ≤ y.n ∧ y.n ≤ v.g.nx) := by rw [← Hst.out, ← Hnx.out]; exact hc
                  rw [show v.g.cutE y.n = 1 by unfold Lg.cutE; rw [if_neg hcc]]
                  have hvg : v'.g = v.g := by rw [Hvg.out]; unfold Lg.cut; rw [if_neg hcc]
                  have hrel' : Rel v'.g q := by rw [hvg]; exact Hrel.out
                  have Hb := HB6
                  have Hrel' := Lib.hid hrel'
                  clear hcc hvg hrel' HB6 Hst Hnx Hvg Hrel Hpd
                  have Hrel := Hrel'
                  have Hpd := Hpd6
                  clear Hrel' Hpd6
                  by_cases hc1 : q.st ≤ y.n
                  · have z1 : decide (q.st ≤ y.n) = true := by simpa using hc1
                    have z2 : decide (y.n ≤ q.nx) = false := by rw [decide_eq_false_iff_not]; exact fun h => hc ⟨hc1, h⟩
                    clear hc hc1 ff
                    go_wp2_with fail
                    clear r0 r1 r2 r3 r4 r5 u1 z1 z2
                    have Hk := Lib.hid (Hrel.out.ok Hb.out)
                    have hun := Hrel.out.un Hb.out
                    have vok := Hb.out.at_.ok
                    have HG : Hid (∀ V, Mod (fun _ => False) w6 V → V.cell? ⟨gR, 0, none⟩ = some (.int .i64 q.n) ∧ V.cell? ⟨gR, 1, none⟩ = some (.int .i64 q.ep) ∧ V.cell? ⟨gR, 2, none⟩ = some (.int .i64 q.st) ∧ V.cell? ⟨gR, 3, none⟩ = some (.int .i64 q.nx) ∧ V.cell? ⟨gR, 4, none⟩ = some (.int .i64 q.du) ∧ V.cell? ⟨gR, 5, none⟩ = some (.slice q.A q.m q.c)) := fun V hV => by
                      have := Hb.out.box.keep hV
                      exact ⟨this.c0, this.c1, this.c2, this.c3, this.c4, this.c5⟩
                    have hp := Hb.out.vp
                    have N1 : Hid (∀ V, Mod (fun _ => False) w6 V → Calls Try.prog 18 #[.pointer (some ⟨p, 0, none⟩)] V fun r w' => r = .returned (.int .i64 (256 * (v'.g.nx + v'.g.un))) ∧ Mod (fun _ => False) w6 w') := fun V hV => (hp ▸ (next_ok V w v' d (Hb.out.at_.keep hV)).mono fun _ _ h => ⟨h.1, hV.trans h.2 (fun _ _ h => h)⟩)
                    have N2 : Hid (∀ V, Mod (fun _ => False) w6 V → Calls Try.prog 19 #[.agg #[.int .i64 q.n, .int .i64 q.ep, .int .i64 q.st, .int .i64 q.nx, .int .i64 q.du, .slice q.A q.m q.c]] V fun r w' => r = .returned (.int .i64 (256 * (v'.g.nx + v'.g.un))) ∧ Mod (fun _ => False) w6 w') := fun V hV => (by
                      have h0 := rnext_ok V q Hk.out
                      rw [Hrel.out.nx, hun] at h0
                      exact h0.mono fun _ _ h => ⟨h.1, hV.trans h.2 (fun _ _ h => h)⟩)
                    have N3 : Hid (∀ V, Mod (fun _ => False) w6 V → Calls Try.prog 20 #[.pointer (some ⟨p, 0, none⟩)] V fun r w' => r = .returned (.int .i64 (256 * v'.g.du)) ∧ Mod (fun _ => False) w6 w') := fun V hV => (hp ▸ (durable_ok V w v' d (Hb.out.at_.keep hV)).mono fun _ _ h => ⟨h.1, hV.trans h.2 (fun _ _ h => h)⟩)
                    have N4 : Hid (∀ V, Mod (fun _ => False) w6 V → Calls Try.prog 21 #[.int .i64 q.du, .int .i64 0] V fun r w' => r = .returned (.int .i64 (256 * v'.g.du)) ∧ Mod (fun _ => False) w6 w') := fun V hV => (by
                      have h0 := rlsn_ok V q.du 0
                      rw [Hrel.out.du] at h0 ⊢
                      rw [lsnV_ok vok.d0 (Int.le_trans vok.dn vok.nm) (by omega) (by omega), Int.add_zero] at h0
                      exact h0.mono fun _ _ h => ⟨h.1, by rw [← h.2]; exact hV⟩)
                    have N5 : Hid (∀ V, Mod (fun _ => False) w6 V → Calls Try.prog 22 #[.pointer (some ⟨p, 0, none⟩)] V fun r w' => r = .returned (.int .i64 q.st) ∧ Mod (fun _ => False) w6 w') := fun V hV => (by
                      rw [Hrel.out.st]
                      exact (hp ▸ (start_ok V w v' d (Hb.out.at_.keep hV)).mono fun _ _ h => ⟨h.1, hV.trans h.2 (fun _ _ h => h)⟩))
                    have N6 : Hid (∀ V, Mod (fun _ => False) w6 V → Calls Try.prog 23 #[.pointer (some ⟨p, 0, none⟩)] V fun r w' => r = .returned (.int .i64 (v'.g.n - (v'.g.nx - v'.g.st) - v'.g.un)) ∧ Mod (fun _ => False) w6 w') := fun V hV => (hp ▸ (free_ok V w v' d (Hb.out.at_.keep hV)).mono fun _ _ h => ⟨h.1, hV.trans h.2 (fun _ _ h => h)⟩)
                    have N7 : Hid (∀ V, Mod (fun _ => False) w6 V → Calls Try.prog 24 #[.agg #[.int .i64 q.n, .int .i64 q.ep, .int .i64 q.st, .int .i64 q.nx, .int .i64 q.du, .slice q.A q.m q.c]] V fun r w' => r = .returned (.int .i64 (v'.g.n - (v'.g.nx - v'.g.st) - v'.g.un)) ∧ Mod (fun _ => False) w6 w') := fun V hV => (by
                      have h0 := rfree_ok V q Hk.out
                      rw [Hrel.out.nx, hun, Hrel.out.n, Hrel.out.st] at h0
                      exact h0.mono fun _ _ h => ⟨h.1, hV.trans h.2 (fun _ _ h => h)⟩)
                    have M0 : Hid (Mod (fun _ => False) w6 w6.drew) := (Mod.refl _ w6).drew
                    obtain ⟨g0, g1, g2, g3, g4, g5⟩ := HG.out w6 (Mod.refl _ w6)
                    generalize 256 * (v'.g.nx + v'.g.un) = X1 at *
                    generalize 256 * v'.g.du = X2 at *
                    generalize v'.g.n - (v'.g.nx - v'.g.st) - v'.g.un = X3 at *
                    clear hun vok hp
                    go_region_held3 (fun w' => w'.cell? ⟨gR, 0, none⟩ = some (.int .i64 q.n) ∧ w'.cell? ⟨gR, 1, none⟩ = some (.int .i64 q.ep) ∧ w'.cell? ⟨gR, 2, none⟩ = some (.int .i64 q.st) ∧ w'.cell? ⟨gR, 3, none⟩ = some (.int .i64 q.nx) ∧ w'.cell? ⟨gR, 4, none⟩ = some (.int .i64 q.du) ∧ w'.cell? ⟨gR, 5, none⟩ = some (.slice q.A q.m q.c)) (first | exact ⟨g0, g1, g2, g3, g4, g5⟩ | exact HG.out _ m7 | exact HG.out _ m6 | exact HG.out _ m5 | exact HG.out _ m4 | exact HG.out _ m3 | exact HG.out _ m2 | exact HG.out _ m1) (first | (go_at_call 18; refine (N1.out _ M0.out).mono ?_; rintro e v1 ⟨rfl, m1⟩) | (go_at_call 19; refine (N2.out _ m1).mono ?_; rintro e v2 ⟨rfl, m2⟩) | (go_at_call 20; refine (N3.out _ m2).mono ?_; rintro e v3 ⟨rfl, m3⟩) | (go_at_call 21; refine (N4.out _ m3).mono ?_; rintro e v4 ⟨rfl, m4⟩) | (go_at_call 22; refine (N5.out _ m4).mono ?_; rintro e v5 ⟨rfl, m5⟩) | (go_at_call 23; refine (N6.out _ m5).mono ?_; rintro e v6 ⟨rfl, m6⟩) | (go_at_call 24; refine (N7.out _ m6).mono ?_; rintro e v7 ⟨rfl, m7⟩))
                    have Hbz := Lib.hid (Hb.out.keep m7)
                    clear m1 m2 m3 m4 m5 m6 m7 N1 N2 N3 N4 N5 N6 N7 HG M0 g0 g1 g2 g3 g4 g5
                    go_wp2
                    go_roundw
                    case rel => exact ⟨j + 1, _, _, _, by omega, by go_num, Hbz.out, Hrel.out, Hpd.out⟩
                    case measure => simp [intOf]; omega
                  · have z1 : decide (q.st ≤ y.n) = false := by simpa using hc1
                    clear hc hc1 ff
                    go_wp2_with fail
                    clear r0 r1 r2 r3 r4 r5 u1 z1
                    have Hk := Lib.hid (Hrel.out.ok Hb.out)
                    have hun := Hrel.out.un Hb.out
                    have vok := Hb.out.at_.ok
                    have HG : Hid (∀ V, Mod (fun _ => False) w6 V → V.cell? ⟨gR, 0, none⟩ = some (.int .i64 q.n) ∧ V.cell? ⟨gR, 1, none⟩ = some (.int .i64 q.ep) ∧ V.cell? ⟨gR, 2, none⟩ = some (.int .i64 q.st) ∧ V.cell? ⟨gR, 3, none⟩ = some (.int .i64 q.nx) ∧ V.cell? ⟨gR, 4, none⟩ = some (.int .i64 q.du) ∧ V.cell? ⟨gR, 5, none⟩ = some (.slice q.A q.m q.c)) := fun V hV => by
                      have := Hb.out.box.keep hV
                      exact ⟨this.c0, this.c1, this.c2, this.c3, this.c4, this.c5⟩
                    have hp := Hb.out.vp
                    have N1 : Hid (∀ V, Mod (fun _ => False) w6 V → Calls Try.prog 18 #[.pointer (some ⟨p, 0, none⟩)] V fun r w' => r = .returned (.int .i64 (256 * (v'.g.nx + v'.g.un))) ∧ Mod (fun _ => False) w6 w') := fun V hV => (hp ▸ (next_ok V w v' d (Hb.out.at_.keep hV)).mono fun _ _ h => ⟨h.1, hV.trans h.2 (fun _ _ h => h)⟩)
                    have N2 : Hid (∀ V, Mod (fun _ => False) w6 V → Calls Try.prog 19 #[.agg #[.int .i64 q.n, .int .i64 q.ep, .int .i64 q.st, .int .i64 q.nx, .int .i64 q.du, .slice q.A q.m q.c]] V fun r w' => r = .returned (.int .i64 (256 * (v'.g.nx + v'.g.un))) ∧ Mod (fun _ => False) w6 w') := fun V hV => (by
                      have h0 := rnext_ok V q Hk.out
                      rw [Hrel.out.nx, hun] at h0
                      exact h0.mono fun _ _ h => ⟨h.1, hV.trans h.2 (fun _ _ h => h)⟩)
                    have N3 : Hid (∀ V, Mod (fun _ => False) w6 V → Calls Try.prog 20 #[.pointer (some ⟨p, 0, none⟩)] V fun r w' => r = .returned (.int .i64 (256 * v'.g.du)) ∧ Mod (fun _ => False) w6 w') := fun V hV => (hp ▸ (durable_ok V w v' d (Hb.out.at_.keep hV)).mono fun _ _ h => ⟨h.1, hV.trans h.2 (fun _ _ h => h)⟩)
                    have N4 : Hid (∀ V, Mod (fun _ => False) w6 V → Calls Try.prog 21 #[.int .i64 q.du, .int .i64 0] V fun r w' => r = .returned (.int .i64 (256 * v'.g.du)) ∧ Mod (fun _ => False) w6 w') := fun V hV => (by
                      have h0 := rlsn_ok V q.du 0
                      rw [Hrel.out.du] at h0 ⊢
                      rw [lsnV_ok vok.d0 (Int.le_trans vok.dn vok.nm) (by omega) (by omega), Int.add_zero] at h0
                      exact h0.mono fun _ _ h => ⟨h.1, by rw [← h.2]; exact hV⟩)
                    have N5 : Hid (∀ V, Mod (fun _ => False) w6 V → Calls Try.prog 22 #[.pointer (some ⟨p, 0, none⟩)] V fun r w' => r = .returned (.int .i64 q.st) ∧ Mod (fun _ => False) w6 w') := fun V hV => (by
                      rw [Hrel.out.st]
                      exact (hp ▸ (start_ok V w v' d (Hb.out.at_.keep hV)).mono fun _ _ h => ⟨h.1, hV.trans h.2 (fun _ _ h => h)⟩))
                    have N6 : Hid (∀ V, Mod (fun _ => False) w6 V → Calls Try.prog 23 #[.pointer (some ⟨p, 0, none⟩)] V fun r w' => r = .returned (.int .i64 (v'.g.n - (v'.g.nx - v'.g.st) - v'.g.un)) ∧ Mod (fun _ => False) w6 w') := fun V hV => (hp ▸ (free_ok V w v' d (Hb.out.at_.keep hV)).mono fun _ _ h => ⟨h.1, hV.trans h.2 (fun _ _ h => h)⟩)
                    have N7 : Hid (∀ V, Mod (fun _ => False) w6 V → Calls Try.prog 24 #[.agg #[.int .i64 q.n, .int .i64 q.ep, .int .i64 q.st, .int .i64 q.nx, .int .i64 q.du, .slice q.A q.m q.c]] V fun r w' => r = .returned (.int .i64 (v'.g.n - (v'.g.nx - v'.g.st) - v'.g.un)) ∧ Mod (fun _ => False) w6 w') := fun V hV => (by
                      have h0 := rfree_ok V q Hk.out
                      rw [Hrel.out.nx, hun, Hrel.out.n, Hrel.out.st] at h0
                      exact h0.mono fun _ _ h => ⟨h.1, hV.trans h.2 (fun _ _ h => h)⟩)
                    have M0 : Hid (Mod (fun _ => False) w6 w6.drew) := (Mod.refl _ w6).drew
                    obtain ⟨g0, g1, g2, g3, g4, g5⟩ := HG.out w6 (Mod.refl _ w6)
                    generalize 256 * (v'.g.nx + v'.g.un) = X1 at *
                    generalize 256 * v'.g.du = X2 at *
                    generalize v'.g.n - (v'.g.nx - v'.g.st) - v'.g.un = X3 at *
                    clear hun vok hp
                    go_region_held3 (fun w' => w'.cell? ⟨gR, 0, none⟩ = some (.int .i64 q.n) ∧ w'.cell? ⟨gR, 1, none⟩ = some (.int .i64 q.ep) ∧ w'.cell? ⟨gR, 2, none⟩ = some (.int .i64 q.st) ∧ w'.cell? ⟨gR, 3, none⟩ = some (.int .i64 q.nx) ∧ w'.cell? ⟨gR, 4, none⟩ = some (.int .i64 q.du) ∧ w'.cell? ⟨gR, 5, none⟩ = some (.slice q.A q.m q.c)) (first | exact ⟨g0, g1, g2, g3, g4, g5⟩ | exact HG.out _ m7 | exact HG.out _ m6 | exact HG.out _ m5 | exact HG.out _ m4 | exact HG.out _ m3 | exact HG.out _ m2 | exact HG.out _ m1) (first | (go_at_call 18; refine (N1.out _ M0.out).mono ?_; rintro e v1 ⟨rfl, m1⟩) | (go_at_call 19; refine (N2.out _ m1).mono ?_; rintro e v2 ⟨rfl, m2⟩) | (go_at_call 20; refine (N3.out _ m2).mono ?_; rintro e v3 ⟨rfl, m3⟩) | (go_at_call 21; refine (N4.out _ m3).mono ?_; rintro e v4 ⟨rfl, m4⟩) | (go_at_call 22; refine (N5.out _ m4).mono ?_; rintro e v5 ⟨rfl, m5⟩) | (go_at_call 23; refine (N6.out _ m5).mono ?_; rintro e v6 ⟨rfl, m6⟩) | (go_at_call 24; refine (N7.out _ m6).mono ?_; rintro e v7 ⟨rfl, m7⟩))
                    have Hbz := Lib.hid (Hb.out.keep m7)
                    clear m1 m2 m3 m4 m5 m6 m7 N1 N2 N3 N4 N5 N6 N7 HG M0 g0 g1 g2 g3 g4 g5
                    go_wp2
                    go_roundw
                    case rel => exact ⟨j + 1, _, _, _, by omega, by go_num, Hbz.out, Hrel.out, Hpd.out⟩
                    case measure => simp [intOf]; omega
              · have q2 : (y.k == 2) = false := by simpa using hk2
                have Hb := HbX
                have Hpd6 : Hid (d.pend.length ≤ j + 1) := by have := Hpd.out; show _ ≤ _; omega
                clear Hpd HbX hk0 hk1 hk2 HX HgM
                have Hpd := Hpd6
                clear Hpd6
                go_wp2_with (first | (with_reducible refine wpList_load_mid rfl 45 (.tmp 90) rfl b (o + j * 19) rfl C _ Hrg.out Try.underlying45 rfl HCi.out ?_) | (refine wpList_store_row rfl 45 (.tmp 22) (.tmp 91) rfl gX C.toArray rfl rfl _ _ HZ.out HCj.out (by exact HCz.out) HC1.out ?_))
                clear x0 x1 x2 x3 x4 x5 x6 x7 x8 x9 x10 x11 x12 x13 x14 x15 x16 x17 x18
                have Hk := Lib.hid (Hrel.out.ok Hb.out)
                have hun := Hrel.out.un Hb.out
                have vok := Hb.out.at_.ok
                have HG : Hid (∀ V, Mod (fun _ => False) wX V → V.cell? ⟨gR, 0, none⟩ = some (.int .i64 q.n) ∧ V.cell? ⟨gR, 1, none⟩ = some (.int .i64 q.ep) ∧ V.cell? ⟨gR, 2, none⟩ = some (.int .i64 q.st) ∧ V.cell? ⟨gR, 3, none⟩ = some (.int .i64 q.nx) ∧ V.cell? ⟨gR, 4, none⟩ = some (.int .i64 q.du) ∧ V.cell? ⟨gR, 5, none⟩ = some (.slice q.A q.m q.c)) := fun V hV => by
                  have := Hb.out.box.keep hV
                  exact ⟨this.c0, this.c1, this.c2, this.c3, this.c4, this.c5⟩
                have hp := Hb.out.vp
                have N1 : Hid (∀ V, Mod (fun _ => False) wX V → Calls Try.prog 18 #[.pointer (some ⟨p, 0, none⟩)] V fun r w' => r = .returned (.int .i64 (256 * (v.g.nx + v.g.un))) ∧ Mod (fun _ => False) wX w') := fun V hV => (hp ▸ (next_ok V w v d (Hb.out.at_.keep hV)).mono fun _ _ h => ⟨h.1, hV.trans h.2 (fun _ _ h => h)⟩)
                have N2 : Hid (∀ V, Mod (fun _ => False) wX V → Calls Try.prog 19 #[.agg #[.int .i64 q.n, .int .i64 q.ep, .int .i64 q.st, .int .i64 q.nx, .int .i64 q.du, .slice q.A q.m q.c]] V fun r w' => r = .returned (.int .i64 (256 * (v.g.nx + v.g.un))) ∧ Mod (fun _ => False) wX w') := fun V hV => (by
                  have h0 := rnext_ok V q Hk.out
                  rw [Hrel.out.nx, hun] at h0
                  exact h0.mono fun _ _ h => ⟨h.1, hV.trans h.2 (fun _ _ h => h)⟩)
                have N3 : Hid (∀ V, Mod (fun _ => False) wX V → Calls Try.prog 20 #[.pointer (some ⟨p, 0, none⟩)] V fun r w' => r = .returned (.int .i64 (256 * v.g.du)) ∧ Mod (fun _ => False) wX w') := fun V hV => (hp ▸ (durable_ok V w v d (Hb.out.at_.keep hV)).mono fun _ _ h => ⟨h.1, hV.trans h.2 (fun _ _ h => h)⟩)
                have N4 : Hid (∀ V, Mod (fun _ => False) wX V → Calls Try.prog 21 #[.int .i64 q.du, .int .i64 0] V fun r w' => r = .returned (.int .i64 (256 * v.g.du)) ∧ Mod (fun _ => False) wX w') := fun V hV => (by
                  have h0 := rlsn_ok V q.du 0
                  rw [Hrel.out.du] at h0 ⊢
                  rw [lsnV_ok vok.d0 (Int.le_trans vok.dn vok.nm) (by omega) (by omega), Int.add_zero] at h0
                  exact h0.mono fun _ _ h => ⟨h.1, by rw [← h.2]; exact hV⟩)
                have N5 : Hid (∀ V, Mod (fun _ => False) wX V → Calls Try.prog 22 #[.pointer (some ⟨p, 0, none⟩)] V fun r w' => r = .returned (.int .i64 q.st) ∧ Mod (fun _ => False) wX w') := fun V hV => (by
                  rw [Hrel.out.st]
                  exact (hp ▸ (start_ok V w v d (Hb.out.at_.keep hV)).mono fun _ _ h => ⟨h.1, hV.trans h.2 (fun _ _ h => h)⟩))
                have N6 : Hid (∀ V, Mod (fun _ => False) wX V → Calls Try.prog 23 #[.pointer (some ⟨p, 0, none⟩)] V fun r w' => r = .returned (.int .i64 (v.g.n - (v.g.nx - v.g.st) - v.g.un)) ∧ Mod (fun _ => False) wX w') := fun V hV => (hp ▸ (free_ok V w v d (Hb.out.at_.keep hV)).mono fun _ _ h => ⟨h.1, hV.trans h.2 (fun _ _ h => h)⟩)
                have N7 : Hid (∀ V, Mod (fun _ => False) wX V → Calls Try.prog 24 #[.agg #[.int .i64 q.n, .int .i64 q.ep, .int .i64 q.st, .int .i64 q.nx, .int .i64 q.du, .slice q.A q.m q.c]] V fun r w' => r = .returned (.int .i64 (v.g.n - (v.g.nx - v.g.st) - v.g.un)) ∧ Mod (fun _ => False) wX w') := fun V hV => (by
                  have h0 := rfree_ok V q Hk.out
                  rw [Hrel.out.nx, hun, Hrel.out.n, Hrel.out.st] at h0
                  exact h0.mono fun _ _ h => ⟨h.1, hV.trans h.2 (fun _ _ h => h)⟩)
                have M0 : Hid (Mod (fun _ => False) wX wX.drew) := (Mod.refl _ wX).drew
                obtain ⟨g0, g1, g2, g3, g4, g5⟩ := HG.out wX (Mod.refl _ wX)
                generalize 256 * (v.g.nx + v.g.un) = X1 at *
                generalize 256 * v.g.du = X2 at *
                generalize v.g.n - (v.g.nx - v.g.st) - v.g.un = X3 at *
                clear hun vok hp
                go_region_held3 (fun w' => w'.cell? ⟨gR, 0, none⟩ = some (.int .i64 q.n) ∧ w'.cell? ⟨gR, 1, none⟩ = some (.int .i64 q.ep) ∧ w'.cell? ⟨gR, 2, none⟩ = some (.int .i64 q.st) ∧ w'.cell? ⟨gR, 3, none⟩ = some (.int .i64 q.nx) ∧ w'.cell? ⟨gR, 4, none⟩ = some (.int .i64 q.du) ∧ w'.cell? ⟨gR, 5, none⟩ = some (.slice q.A q.m q.c)) (first | exact ⟨g0, g1, g2, g3, g4, g5⟩ | exact HG.out _ m7 | exact HG.out _ m6 | exact HG.out _ m5 | exact HG.out _ m4 | exact HG.out _ m3 | exact HG.out _ m2 | exact HG.out _ m1) (first | (go_at_call 18; refine (N1.out _ M0.out).mono ?_; rintro e v1 ⟨rfl, m1⟩) | (go_at_call 19; refine (N2.out _ m1).mono ?_; rintro e v2 ⟨rfl, m2⟩) | (go_at_call 20; refine (N3.out _ m2).mono ?_; rintro e v3 ⟨rfl, m3⟩) | (go_at_call 21; refine (N4.out _ m3).mono ?_; rintro e v4 ⟨rfl, m4⟩) | (go_at_call 22; refine (N5.out _ m4).mono ?_; rintro e v5 ⟨rfl, m5⟩) | (go_at_call 23; refine (N6.out _ m5).mono ?_; rintro e v6 ⟨rfl, m6⟩) | (go_at_call 24; refine (N7.out _ m6).mono ?_; rintro e v7 ⟨rfl, m7⟩))
                have Hbz := Lib.hid (Hb.out.keep m7)
                clear m1 m2 m3 m4 m5 m6 m7 N1 N2 N3 N4 N5 N6 N7 HG M0 g0 g1 g2 g3 g4 g5
                go_wp2
                go_roundw
                case rel => exact ⟨j + 1, _, _, _, by omega, by go_num, Hbz.out, Hrel.out, Hpd.out⟩
                case measure => simp [intOf]; omega
        · obtain rfl : j = m := by omega
          have Hm := Lib.hid Hb.out.at_.old
          go_wp2
          go_ret
          exact ⟨rfl, Hm.out⟩
    · have Hnew := Lib.hid (wnew_no w3 w x _ hx base n ep st nx HB.out.2.1 HB.out.1 HB.out.2.2 (by rw [hlen]; exact hmay))
      have Hrm : Hid (∀ W, Calls Try.prog 12 #[.int .i64 40, .int .i64 base, .int .i64 n, .int .i64 ep, .int .i64 st, .int .i64 nx] W fun e w' => e = .returned (.bool false) ∧ w' = W) := fun W => rmay_no W base n ep st nx hmay
      have Hm3 := Lib.hid hx.old
      clear hx H0 hlen hmay
      go_wp2_with fail
      refine Hnew.out.mono ?_
      rintro e w4 ⟨rfl, rfl⟩
      clear Hnew
      go_wp2_with fail
      refine (Hrm.out _).mono ?_
      rintro e w5 ⟨rfl, rfl⟩
      clear Hrm
      go_wp2
      go_ret
      exact ⟨rfl, Hm3.out⟩
theorem does_walk (w : World) (base n ep st nx : Int) (A : Option Addr) (m c : Nat) (l : List OpD) (h : OpsAt w A m c l) (b : -9223372036854775808 ≤ base ∧ base ≤ 9223372036854775807) (b2 : -9223372036854775808 ≤ n ∧ n ≤ 9223372036854775807) :
    Calls Try.prog 3 #[.int .i64 base, .int .i64 n, .int .i64 ep, .int .i64 st, .int .i64 nx, .slice A m c] w fun e w' => e = .returned (.bool true) ∧ Below w.heap.size w w' :=
  (does_walk0 w base n ep st nx A m c l h b.1 (by omega) (by omega)).mono fun _ _ h => ⟨h.1, h.2.below (Nat.le_refl _) (fun _ _ => id)⟩
end Go.Proofs.Ytidligegmhlikaa
