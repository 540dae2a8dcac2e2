/-
  bobbinlaw08.WalKeeps walked.
-/
import Derived.Test.YtidligegmhlikaaQKp
import Derived.Deep.MidRow
namespace Go.Proofs.Ytidligegmhlikaa
open Go Go.RowKit Go.Shelf

theorem take_pre {cs cs' : List Sc} {du : Nat} (h : cs <+: cs') (hd : du ≤ cs.length) : cs'.take du = cs.take du := by
  obtain ⟨t, rfl⟩ := h
  exact List.take_append_of_le_length hd
theorem VlD.Own.reb {W : World} {base base' : Nat} {z : VlD} (h : z.Own W base) (hb : base' ≤ base) : z.Own W base' := Own.rebase h hb

set_option maxRecDepth 100000 in
set_option maxHeartbeats 16000000 in
theorem keeps_walk0 (w : World) (A : Option Addr) (n c : Nat) (l : List OpD) (h : OpsAt w A n c l) : Calls Try.prog 4 #[.slice A n c] w fun e w' => e = .returned (.bool true) ∧ Mod (fun _ => False) w w' := by
  have Ha := Lib.hid (awake_ok w)
  have H := Lib.hid h
  have hl := h.len
  clear h
  go_enter Try.func4, Try.ntmps4
  go_wp2_with fail
  refine Ha.out.mono ?_
  rintro e w1 ⟨rfl, hm1⟩
  have Hf := Lib.hid (few_ok w1 A n c l (H.out.keep hm1))
  have Hm1 := Lib.hid hm1
  clear hm1 Ha
  go_wp2_with fail
  cases hfw : fewB l with
  | false =>
    rw [hfw] at Hf
    clear hfw
    refine Hf.out.mono ?_
    rintro e w2 ⟨rfl, hm2⟩
    have Hm2 := Lib.hid (Hm1.out.trans hm2 (fun _ _ h => h))
    clear hm2 Hf
    go_wp2
    go_ret
    exact ⟨rfl, Hm2.out⟩
  | true =>
    rw [hfw] at Hf
    have hn60 : n ≤ 60 := by have := fewB_true hfw; omega
    clear hfw
    refine Hf.out.mono ?_
    rintro e w2 ⟨rfl, hm2⟩
    have Hm2 := Lib.hid (Hm1.out.trans hm2 (fun _ _ h => h))
    have H0 := Lib.hid (dev_new w w2 Hm2.out 32 (by omega) (by omega))
    clear hm2 Hf Hm1
    go_wp2_with fail
    refine H0.out.mono ?_
    rintro e w3 ⟨x, rfl, hx⟩
    have hlen : (Dk.fresh (List.replicate (32 : Int).toNat (fill 0))).dur.length = 32 := by show (List.replicate 32 (fill 0)).length = 32; simp
    have HW := Lib.hid (lgn_new w3 w x _ hx 2 30 1 0 0 (by omega) (by omega) (by omega) (by rw [hlen]; constructor <;> omega) rfl rfl rfl (fun k => blkOf none = some k) (DV.Avoid.none_ x))
    have Hc0 : Hid (Kept8 2 30 0 0 (newG 2 30 1 0 0) (Dk.fresh (List.replicate (32 : Int).toNat (fill 0))) [] []) := ⟨chn_new (b := 2) (n := 30) (N := 32) (by omega), rfl, fun y hy => absurd hy (by simp)⟩
    clear hx H0 hlen
    generalize Dk.fresh (List.replicate (32 : Int).toNat (fill 0)) = d0 at *
    go_wp2_with fail
    refine HW.out.mono ?_
    rintro e w4 ⟨p0, rfl, hlg, _⟩
    have Hlg := Lib.hid hlg
    clear hlg HW
    obtain ⟨px0, hpx⟩ : ∃ px, x.p = px := ⟨_, rfl⟩
    rw [hpx] at Hlg ⊢
    clear hpx
    go_wp2
    go_loopw [5, 7, 9, 10, 11, 12] (fun dv lv ev fv av i wr => ∃ (j px p E fo fr du : Nat) (A1 : Option Addr) (c1 : Nat) (L : List LgD) (g : Lg) (d : Dk) (cs : List Sc), j ≤ n ∧ E ≤ j + 1 ∧ dv = .pointer (some ⟨px, 0, none⟩) ∧ lv = .pointer (some ⟨p, 0, none⟩) ∧ ev = .int .i64 E ∧ fv = .int .i64 fo ∧ av = .slice A1 L.length c1 ∧ i = .int .i64 j ∧ LgN w wr p px g d (fun k => blkOf A1 = some k) ∧ Al w wr A1 c1 L ∧ Kept8 2 30 fr du g d cs L ∧ fo ≤ (outX (cs.take du) 0).length ∧ g.ep = E) (fun _ _ _ _ _ i _ => n - (intOf i).toNat)
    case atStart => exact ⟨0, px0, p0, 1, 0, 0, 0, none, 0, [], _, d0, [], by omega, by omega, rfl, rfl, rfl, rfl, rfl, rfl, Hlg.out, al_nil w _, Hc0.out, Nat.zero_le _, rfl⟩
    case round =>
      obtain ⟨j, px, p, E, fo, fr, du, A1, c1, L, g, d, cs, hj, hE, rfl, rfl, rfl, rfl, rfl, rfl, hlg, hal, hke, hfo, hep⟩ := hrel
      have Hlgr := Lib.hid hlg
      have Hal := Lib.hid hal
      have Hke := Lib.hid hke
      have Hfo := Lib.hid hfo
      have Hep := Lib.hid hep
      clear hlg hal hke hfo hep Hlg Hc0
      by_cases hlt : j < n
      · obtain ⟨y, hy⟩ : ∃ y, l[j]? = some y := ⟨_, List.getElem?_eq_getElem (by omega)⟩
        obtain ⟨b, o, hA, hcs⟩ := (H.out.keep Hlgr.out.old).cells (by omega)
        subst hA
        obtain ⟨k0, k1, ⟨k2, k3, k4, k5, k6, k7, k8, k9, k10, k11, k12, k13, k14, k15⟩, k16, k17, k18⟩ := hcs j y hy
        have i3 : wr.cell? ⟨b, o + j * 19 + 3, none⟩ = some (.int .i64 (y.r.f 1)) := k3
        have i4 : wr.cell? ⟨b, o + j * 19 + 4, none⟩ = some (.int .i64 (y.r.f 2)) := k4
        have i5 : wr.cell? ⟨b, o + j * 19 + 5, none⟩ = some (.int .i64 (y.r.f 3)) := k5
        have i6 : wr.cell? ⟨b, o + j * 19 + 6, none⟩ = some (.int .i64 (y.r.f 4)) := k6
        have i7 : wr.cell? ⟨b, o + j * 19 + 7, none⟩ = some (.int .i64 (y.r.f 5)) := k7
        have i8 : wr.cell? ⟨b, o + j * 19 + 8, none⟩ = some (.int .i64 (y.r.f 6)) := k8
        have i9 : wr.cell? ⟨b, o + j * 19 + 9, none⟩ = some (.int .i64 (y.r.f 7)) := k9
        have i10 : wr.cell? ⟨b, o + j * 19 + 10, none⟩ = some (.int .i64 (y.r.f 8)) := k10
        have i11 : wr.cell? ⟨b, o + j * 19 + 11, none⟩ = some (.int .i64 (y.r.f 9)) := k11
        have i12 : wr.cell? ⟨b, o + j * 19 + 12, none⟩ = some (.bool y.r.o.is) := k12
        have i13 : wr.cell? ⟨b, o + j * 19 + 13, none⟩ = some (.slice y.r.o.B y.r.o.m y.r.o.d) := k13
        have i14 : wr.cell? ⟨b, o + j * 19 + 14, none⟩ = some (.bool y.r.v.is) := k14
        have i15 : wr.cell? ⟨b, o + j * 19 + 15, none⟩ = some (.slice y.r.v.B y.r.v.m y.r.v.d) := k15
        clear k3 k4 k5 k6 k7 k8 k9 k10 k11 k12 k13 k14 k15
        have Hyr : Hid (y.r.At w) := (H.out.ats y (List.mem_of_getElem? hy)).1
        have Hyc : Hid (y.cr.At w) := (H.out.ats y (List.mem_of_getElem? hy)).2
        obtain ⟨gX, hgX⟩ : ∃ gX, wr.heap.size = gX := ⟨_, rfl⟩
        obtain ⟨C, hC⟩ : ∃ C : List Value, [.int .i64 y.k, .int .i64 y.n, .int .i64 y.r.k, .int .i64 (y.r.f 1), .int .i64 (y.r.f 2), .int .i64 (y.r.f 3), .int .i64 (y.r.f 4), .int .i64 (y.r.f 5), .int .i64 (y.r.f 6), .int .i64 (y.r.f 7), .int .i64 (y.r.f 8), .int .i64 (y.r.f 9), .bool y.r.o.is, .slice y.r.o.B y.r.o.m y.r.o.d, .bool y.r.v.is, .slice y.r.v.B y.r.v.m y.r.v.d, .slice y.cr.A y.cr.n y.cr.c, .int .i64 y.cr.torn, .int .i64 y.cr.k] = C := ⟨_, rfl⟩
        have hrg : wr.rangeAt b (o + j * 19) C := by
          rw [← hC]
          intro t u hu
          have ht : t < 19 := (List.getElem?_eq_some_iff.1 hu).1
          match t, ht with
          | 0, _ => injection hu with hu; subst hu; exact k0
          | 1, _ => injection hu with hu; subst hu; exact k1
          | 2, _ => injection hu with hu; subst hu; exact k2
          | 3, _ => injection hu with hu; subst hu; exact i3
          | 4, _ => injection hu with hu; subst hu; exact i4
          | 5, _ => injection hu with hu; subst hu; exact i5
          | 6, _ => injection hu with hu; subst hu; exact i6
          | 7, _ => injection hu with hu; subst hu; exact i7
          | 8, _ => injection hu with hu; subst hu; exact i8
          | 9, _ => injection hu with hu; subst hu; exact i9
          | 10, _ => injection hu with hu; subst hu; exact i10
          | 11, _ => injection hu with hu; subst hu; exact i11
          | 12, _ => injection hu with hu; subst hu; exact i12
          | 13, _ => injection hu with hu; subst hu; exact i13
          | 14, _ => injection hu with hu; subst hu; exact i14
          | 15, _ => injection hu with hu; subst hu; exact i15
          | 16, _ => injection hu with hu; subst hu; exact k16
          | 17, _ => injection hu with hu; subst hu; exact k17
          | 18, _ => injection hu with hu; subst hu; exact k18
        have hCl : C.length = 19 := by rw [← hC]; rfl
        have hC1 : C.toArray.all (·.oneCell') = true := by rw [← hC]; exact all_oneCell_toArray (by simp [Value.oneCell'])
        obtain ⟨wZ, hwZ⟩ : ∃ wZ, wr.alloc (.cells #[.int .i64 0, .int .i64 0, .int .i64 0, .int .i64 0, .int .i64 0, .int .i64 0, .int .i64 0, .int .i64 0, .int .i64 0, .int .i64 0, .int .i64 0, .int .i64 0, .bool false, .slice none 0 0, .bool false, .slice none 0 0, .slice none 0 0, .int .i64 0, .int .i64 0] 45) = wZ := ⟨_, rfl⟩
        have hZ : wZ.heap[gX]? = some (.cells #[.int .i64 0, .int .i64 0, .int .i64 0, .int .i64 0, .int .i64 0, .int .i64 0, .int .i64 0, .int .i64 0, .int .i64 0, .int .i64 0, .int .i64 0, .int .i64 0, .bool false, .slice none 0 0, .bool false, .slice none 0 0, .slice none 0 0, .int .i64 0, .int .i64 0] 45 (0, 0)) := by rw [← hwZ, ← hgX]; exact heap_alloc_new wr _
        obtain ⟨wX, hwX⟩ : ∃ wX, wZ.setRow gX C.toArray = wX := ⟨_, rfl⟩
        have hmX : Mod (fun _ => False) wr wX := by
          have h1 : Mod (fun _ => False) wr wZ := by rw [← hwZ]; exact (Mod.refl _ wr).alloc _
          refine h1.trans (G := fun k => k = gX) ⟨by rw [← hwX]; rfl, by rw [← hwX]; rfl, by rw [← hwX]; rfl, by rw [← hwX]; simp, fun k hk hne => by rw [← hwX]; exact setRow_other wZ gX k _ (fun e => hne e)⟩ (fun k hk e => by omega)
        have hX : wX.heap[gX]? = some (.cells C.toArray 45 (0, 0)) := by rw [← hwX]; exact setRow_heap wZ gX _ _ _ _ hZ
        have HZ := Lib.hid hZ
        have Hrg := Lib.hid hrg
        have HCi : Hid ((Try.prog.info? 45).map (·.size) = some C.length) := by show _ = _; rw [hCl]; kernel_rfl
        have HCj : Hid ((Try.prog.info? 45).map (·.size) = some C.toArray.size) := by show _ = _; rw [List.size_toArray, hCl]; kernel_rfl
        have HCz : Hid ((19 : Nat) = C.toArray.size) := by show _ = _; rw [List.size_toArray, hCl]
        have HC1 := Lib.hid hC1
        rw [← hC] at hX
        have HlgX := Lib.hid (Hlgr.out.keep hmX)
        have HalX := Lib.hid (Hal.out.keep hmX)
        have HX : Hid (wX.heap[gX]? = some (.cells #[.int .i64 y.k, .int .i64 y.n, .int .i64 y.r.k, .int .i64 (y.r.f 1), .int .i64 (y.r.f 2), .int .i64 (y.r.f 3), .int .i64 (y.r.f 4), .int .i64 (y.r.f 5), .int .i64 (y.r.f 6), .int .i64 (y.r.f 7), .int .i64 (y.r.f 8), .int .i64 (y.r.f 9), .bool y.r.o.is, .slice y.r.o.B y.r.o.m y.r.o.d, .bool y.r.v.is, .slice y.r.v.B y.r.v.m y.r.v.d, .slice y.cr.A y.cr.n y.cr.c, .int .i64 y.cr.torn, .int .i64 y.cr.k] 45)) := hX
        have hpend := Hke.out.ch.pendL
        have hfew := Hke.out.few HlgX.out.lgs.ok
        have x0 : wX.cell? ⟨gX, 0, none⟩ = some (.int .i64 y.k) := by rw [cell_of_row _ _ _ _ _ _ hX]; rfl
        have x1 : wX.cell? ⟨gX, 1, none⟩ = some (.int .i64 y.n) := by rw [cell_of_row _ _ _ _ _ _ hX]; rfl
        have x2 : wX.cell? ⟨gX, 2, none⟩ = some (.int .i64 y.r.k) := by rw [cell_of_row _ _ _ _ _ _ hX]; rfl
        have x3 : wX.cell? ⟨gX, 3, none⟩ = some (.int .i64 (y.r.f 1)) := by rw [cell_of_row _ _ _ _ _ _ hX]; rfl
        have x4 : wX.cell? ⟨gX, 4, none⟩ = some (.int .i64 (y.r.f 2)) := by rw [cell_of_row _ _ _ _ _ _ hX]; rfl
        have x5 : wX.cell? ⟨gX, 5, none⟩ = some (.int .i64 (y.r.f 3)) := by rw [cell_of_row _ _ _ _ _ _ hX]; rfl
        have x6 : wX.cell? ⟨gX, 6, none⟩ = some (.int .i64 (y.r.f 4)) := by rw [cell_of_row _ _ _ _ _ _ hX]; rfl
        have x7 : wX.cell? ⟨gX, 7, none⟩ = some (.int .i64 (y.r.f 5)) := by rw [cell_of_row _ _ _ _ _ _ hX]; rfl
        have x8 : wX.cell? ⟨gX, 8, none⟩ = some (.int .i64 (y.r.f 6)) := by rw [cell_of_row _ _ _ _ _ _ hX]; rfl
        have x9 : wX.cell? ⟨gX, 9, none⟩ = some (.int .i64 (y.r.f 7)) := by rw [cell_of_row _ _ _ _ _ _ hX]; rfl
        have x10 : wX.cell? ⟨gX, 10, none⟩ = some (.int .i64 (y.r.f 8)) := by rw [cell_of_row _ _ _ _ _ _ hX]; rfl
        have x11 : wX.cell? ⟨gX, 11, none⟩ = some (.int .i64 (y.r.f 9)) := by rw [cell_of_row _ _ _ _ _ _ hX]; rfl
        have x12 : wX.cell? ⟨gX, 12, none⟩ = some (.bool y.r.o.is) := by rw [cell_of_row _ _ _ _ _ _ hX]; rfl
        have x13 : wX.cell? ⟨gX, 13, none⟩ = some (.slice y.r.o.B y.r.o.m y.r.o.d) := by rw [cell_of_row _ _ _ _ _ _ hX]; rfl
        have x14 : wX.cell? ⟨gX, 14, none⟩ = some (.bool y.r.v.is) := by rw [cell_of_row _ _ _ _ _ _ hX]; rfl
        have x15 : wX.cell? ⟨gX, 15, none⟩ = some (.slice y.r.v.B y.r.v.m y.r.v.d) := by rw [cell_of_row _ _ _ _ _ _ hX]; rfl
        have x16 : wX.cell? ⟨gX, 16, none⟩ = some (.slice y.cr.A y.cr.n y.cr.c) := by rw [cell_of_row _ _ _ _ _ _ hX]; rfl
        have x17 : wX.cell? ⟨gX, 17, none⟩ = some (.int .i64 y.cr.torn) := by rw [cell_of_row _ _ _ _ _ _ hX]; rfl
        have x18 : wX.cell? ⟨gX, 18, none⟩ = some (.int .i64 y.cr.k) := by rw [cell_of_row _ _ _ _ _ _ hX]; rfl
        clear hX hmX hcs hy Hlgr Hal hZ hrg hCl hC1 hC k0 k1 k2 k16 k17 k18 i3 i4 i5 i6 i7 i8 i9 i10 i11 i12 i13 i14 i15
        by_cases hk0 : y.k = 0
        · have q0 : (y.k == 0) = true := by simpa using hk0
          have HAp := Lib.hid (lgn_app HlgX.out (fun k hk => HalX.out.lt k hk) y.r (Hyr.out.keep HlgX.out.old) (by omega))
          clear hk0
          go_wp2_with (first | (with_reducible refine wpList_load_mid rfl 45 (.tmp 52) rfl b (o + j * 19) rfl C _ Hrg.out Try.underlying45 rfl HCi.out ?_) | (refine wpList_store_row rfl 45 (.tmp 13) (.tmp 53) rfl gX C.toArray rfl rfl _ _ HZ.out HCj.out (by exact HCz.out) HC1.out ?_))
          refine HAp.out.mono ?_
          rintro e w7 ⟨a, er, g', d', rfl, happ, hlg7, hmt⟩
          have HX7 : Hid (w7.heap[gX]? = some (.cells #[.int .i64 y.k, .int .i64 y.n, .int .i64 y.r.k, .int .i64 (y.r.f 1), .int .i64 (y.r.f 2), .int .i64 (y.r.f 3), .int .i64 (y.r.f 4), .int .i64 (y.r.f 5), .int .i64 (y.r.f 6), .int .i64 (y.r.f 7), .int .i64 (y.r.f 8), .int .i64 (y.r.f 9), .bool y.r.o.is, .slice y.r.o.B y.r.o.m y.r.o.d, .bool y.r.v.is, .slice y.r.v.B y.r.v.m y.r.v.d, .slice y.cr.A y.cr.n y.cr.c, .int .i64 y.cr.torn, .int .i64 y.cr.k] 45)) := (hmt.block gX (Array.getElem?_eq_some_iff.1 HX.out).1 (fun h => h.not HX.out (by decide) (by decide) (by decide) (by decide) (by decide))).trans HX.out
          have hst := Hke.out.app HlgX.out.lgs.ok rfl HlgX.out.lgs.arm HlgX.out.lgs.dead ⟨wX, HlgX.out.lgs.ats⟩ happ
          have hab : ∀ z ∈ L, er = 0 → z.a < a := fun z hz he => Hke.out.above HlgX.out.lgs.ok happ he hz
          have Hep' : Hid (g'.ep = E) := by show _ = _; rw [happ.kin.ep]; exact Hep.out
          have Hal7 := Lib.hid (HalX.out.mod hmt (fun _ h => h))
          have Hlg7 := Lib.hid hlg7
          have hdn := Hke.out.ch.dn
          clear x0 x1 x2 x3 x4 x5 x6 x7 x8 x9 x10 x11 x12 x13 x14 x15 x16 x17 x18 HX HAp hlg7 hmt happ HlgX HalX
          rcases hst with ⟨rfl, cs', hpre, hke'⟩ | ⟨_, he0, cs', hpre, hke'⟩
          · have Hke' := Lib.hid hke'
            have Hfo' : Hid (fo ≤ (outX (cs'.take du) 0).length) := by show _ ≤ _; rw [take_pre hpre hdn]; exact Hfo.out
            clear hpre hke' Hke Hfo Hep hdn
            rcases Nat.eq_zero_or_pos L.length with hm0 | hm0
            · have Hmm : Hid (L.length = 0) := hm0
              rw [hm0]
              clear hm0 hab
              obtain ⟨w8, hw8⟩ : ∃ w8, w7.alloc (.cells (⟨a, y.r⟩ : LgD).cells 59) = w8 := ⟨_, rfl⟩
              have hm8 : Mod (fun _ => False) w7 w8 := by rw [← hw8]; exact (Mod.refl _ w7).alloc _
              have hown8 : OwN w8 w.heap.size 59 15 A1 (0) c1 (lgC L) := by have := Hal7.out.row.mod hm8 (fun _ _ => id); rw [Hmm.out] at this; exact this
              have hsrc8 : SrcN w8 (some ⟨w7.heap.size, 0, none⟩) 1 15 (⟨a, y.r⟩ : LgD).cells.toList := by rw [← hw8]; exact SrcN.lit w7 (⟨a, y.r⟩ : LgD).cells.toList 59 (lg_one _)
              have hsz8 : w.heap.size ≤ w8.heap.size := Nat.le_trans Hlg7.out.old.size hm8.size
              have hw8' : w7.alloc (.cells #[.int .i64 a, .int .i64 y.r.k, .int .i64 (y.r.f 1), .int .i64 (y.r.f 2), .int .i64 (y.r.f 3), .int .i64 (y.r.f 4), .int .i64 (y.r.f 5), .int .i64 (y.r.f 6), .int .i64 (y.r.f 7), .int .i64 (y.r.f 8), .int .i64 (y.r.f 9), .bool y.r.o.is, .slice y.r.o.B y.r.o.m y.r.o.d, .bool y.r.v.is, .slice y.r.v.B y.r.v.m y.r.v.d] 59) = w8 := hw8
              have u2 : w7.cell? ⟨gX, 2, none⟩ = some (.int .i64 y.r.k) := by rw [cell_of_row _ _ _ _ _ _ HX7.out]; rfl
              have u3 : w7.cell? ⟨gX, 3, none⟩ = some (.int .i64 (y.r.f 1)) := by rw [cell_of_row _ _ _ _ _ _ HX7.out]; rfl
              have u4 : w7.cell? ⟨gX, 4, none⟩ = some (.int .i64 (y.r.f 2)) := by rw [cell_of_row _ _ _ _ _ _ HX7.out]; rfl
              have u5 : w7.cell? ⟨gX, 5, none⟩ = some (.int .i64 (y.r.f 3)) := by rw [cell_of_row _ _ _ _ _ _ HX7.out]; rfl
              have u6 : w7.cell? ⟨gX, 6, none⟩ = some (.int .i64 (y.r.f 4)) := by rw [cell_of_row _ _ _ _ _ _ HX7.out]; rfl
              have u7 : w7.cell? ⟨gX, 7, none⟩ = some (.int .i64 (y.r.f 5)) := by rw [cell_of_row _ _ _ _ _ _ HX7.out]; rfl
              have u8 : w7.cell? ⟨gX, 8, none⟩ = some (.int .i64 (y.r.f 6)) := by rw [cell_of_row _ _ _ _ _ _ HX7.out]; rfl
              have u9 : w7.cell? ⟨gX, 9, none⟩ = some (.int .i64 (y.r.f 7)) := by rw [cell_of_row _ _ _ _ _ _ HX7.out]; rfl
              have u10 : w7.cell? ⟨gX, 10, none⟩ = some (.int .i64 (y.r.f 8)) := by rw [cell_of_row _ _ _ _ _ _ HX7.out]; rfl
              have u11 : w7.cell? ⟨gX, 11, none⟩ = some (.int .i64 (y.r.f 9)) := by rw [cell_of_row _ _ _ _ _ _ HX7.out]; rfl
              have u12 : w7.cell? ⟨gX, 12, none⟩ = some (.bool y.r.o.is) := by rw [cell_of_row _ _ _ _ _ _ HX7.out]; rfl
              have u13 : w7.cell? ⟨gX, 13, none⟩ = some (.slice y.r.o.B y.r.o.m y.r.o.d) := by rw [cell_of_row _ _ _ _ _ _ HX7.out]; rfl
              have u14 : w7.cell? ⟨gX, 14, none⟩ = some (.bool y.r.v.is) := by rw [cell_of_row _ _ _ _ _ _ HX7.out]; rfl
              have u15 : w7.cell? ⟨gX, 15, none⟩ = some (.slice y.r.v.B y.r.v.m y.r.v.d) := by rw [cell_of_row _ _ _ _ _ _ HX7.out]; rfl
              clear hm8
              go_wp2_with (at_builtin; refine wpList_appN (.tmp 81) (.tmp 86) lgElem rfl rfl rfl rfl hown8 hsrc8 (by omega) (by unfold maxLen; omega) hsz8 ?_)
              intro A9 c9 w9 hown9 hg9 hat9
              clear u2 u3 u4 u5 u6 u7 u8 u9 u10 u11 u12 u13 u14 u15
              have hg9' : (w7.alloc (.cells (⟨a, y.r⟩ : LgD).cells 59)).grownBy w9 (blkOf A1) := by rw [hw8]; exact hg9
              have HAl := Lib.hid (Hal7.out.push ⟨a, y.r⟩ Hyr.out (by rw [Hmm.out]; exact hown9) hg9')
              have HLg := Lib.hid (Hlg7.out.pushed Hal7.out ⟨a, y.r⟩ (A' := A9) hg9' (by rw [hw8]; exact hat9))
              have HLl : Hid ((L ++ [(⟨a, y.r⟩ : LgD)]).length = 0 + 1) := by show _ = _; rw [List.length_append, Hmm.out]; rfl
              have HKe := Hke'
              have HFo := Hfo'
              have HEp := Hep'
              clear hw8' hown8 hsrc8 hsz8 hown9 hg9 hat9 hg9' Hal7 Hlg7 hw8 HX7 Hmm Hke' Hfo' Hep'
              have hfl : fo ≤ (0 + 1) := by have e1 := HKe.out.durs; have e2 := HFo.out; have e3 := HLl.out; omega
              have Hfl := Lib.hid hfl
              have hf5 : fo ≤ 1860 := by have e1 := HKe.out.few HLg.out.lgs.ok; have e2 := HKe.out.durs; have e3 := HFo.out; omega
              have HDu : Hid (∀ V, Mod (fun _ => False) w9 V → Calls Try.prog 20 #[.pointer (some ⟨p, 0, none⟩)] V fun e w' => e = .returned (.int .i64 (256 * (du : Nat))) ∧ Mod (fun _ => False) w9 w') := fun V hV => by
                have h0 := lgs_durable_ok ((HLg.out.keep hV).lgs)
                rw [HKe.out.ch.gdu] at h0
                exact h0.mono fun _ _ h => ⟨h.1, hV.trans h.2.2 (fun _ _ h => h)⟩
              clear hfl
              go_wp2
              go_loopw [24] (fun kk V => ∃ i : Nat, i ≤ fo ∧ kk = .int .i64 i ∧ Mod (fun _ => False) w9 V) (fun kk _ => fo - (intOf kk).toNat)
              case atStart => exact ⟨0, by omega, rfl, Mod.refl _ _⟩
              case round =>
                obtain ⟨i, hi, rfl, hm⟩ := hrel
                have Hm := Lib.hid hm
                clear hm
                by_cases hlt2 : i < fo
                · have hil : i < (0 + 1) := by have := Hfl.out; omega
                  have q7 : decide ((i : Int) < ((fo : Nat) : Int)) = true := by rw [decide_eq_true_eq]; omega
                  have q8 : decide ((i : Int) < (((0 + 1) : Nat) : Int)) = true := by rw [decide_eq_true_eq]; omega
                  have q9 : decide (i < fo) = true := by rw [decide_eq_true_eq]; omega
                  have q10 : decide (i < (0 + 1)) = true := by rw [decide_eq_true_eq]; omega
                  have hls := (HAl.out.keep Hm.out).ls (HLg.out.old.trans Hm.out (fun _ _ h => h))
                  obtain ⟨ab, ao, hA2, hc2⟩ := hls.cells (by have := HLl.out; omega)
                  obtain ⟨z, hz⟩ : ∃ z, ((L ++ [⟨a, y.r⟩]))[i]? = some z := ⟨_, List.getElem?_eq_getElem (by have := HLl.out; omega)⟩
                  have hpz := (hc2 i z hz).c0
                  have Hpz : Hid (∀ V', Mod (fun _ => False) wr V' → V'.cell? ⟨ab, ao + i * 15, none⟩ = some (.int .i64 z.a)) := fun V' hV => (World.cell?_of_block (hV.block ab (World.block_lt_of_cell? _ _ hpz) id)).trans hpz
                  have pz := Hpz.out wr (Mod.refl _ _)
                  have pzd := Hpz.out wr.drew (Mod.refl _ wr).drew
                  have hlow := HKe.out.below hz (by have := HFo.out; omega)
                  have q11 : decide (256 * ((du : Nat) : Int) ≤ z.a) = false := by rw [decide_eq_false_iff_not]; omega
                  have hmd : Mod (fun _ => False) wr wr.drew := (Mod.refl _ wr).drew
                  have Hmd := Lib.hid hmd
                  have HMd : Hid (Mod (fun _ => False) w9 wr.drew) := Hm.out.trans hmd (fun _ _ h => h)
                  have HDu2 : Hid (∀ V', Mod (fun _ => False) wr V' → Calls Try.prog 20 #[.pointer (some ⟨p, 0, none⟩)] V' fun e w' => e = .returned (.int .i64 (256 * (du : Nat))) ∧ Mod (fun _ => False) V' w' ∧ Mod (fun _ => False) w9 w') := fun V' hV => by
                    have h0 := lgs_durable_ok ((HLg.out.keep (Hm.out.trans hV (fun _ _ h => h))).lgs)
                    rw [HKe.out.ch.gdu] at h0
                    exact h0.mono fun _ _ h => ⟨h.1, h.2.2, (Hm.out.trans hV (fun _ _ h => h)).trans h.2.2 (fun _ _ h => h)⟩
                  rw [hA2]
                  clear hls hc2 hz hpz hlow hmd hA2
                  go_wp2_with fail
                  go_region_held3 (fun w' => w'.cell? ⟨ab, ao + i * 15, none⟩ = some (.int .i64 z.a)) (first | exact pzd | exact pz | (exact Hpz.out _ (Hmd.out.trans n1 (fun _ _ h => h)))) ((go_at_call 20; refine (HDu2.out _ Hmd.out).mono ?_; rintro e v1 ⟨rfl, n1, m1⟩))
                  have Hm1 := Lib.hid m1
                  clear m1 n1 pz pzd Hpz q7 q8 q9 q10
                  go_wp2
                  go_roundw
                  case rel => exact ⟨i + 1, by omega, by go_num, Hm1.out⟩
                  case measure => simp [intOf]; omega
                · have q7 : decide ((i : Int) < ((fo : Nat) : Int)) = false := by rw [decide_eq_false_iff_not]; omega
                  have HLg2 := Lib.hid (HLg.out.keep Hm.out)
                  have HAl2 := Lib.hid (HAl.out.keep Hm.out)
                  clear HDu Hfl q7
                  go_wp2
                  go_roundw
                  case rel => exact ⟨j + 1, px, p, E, fo, fr, du, A9, c9, (L ++ [⟨a, y.r⟩]), g', d', cs', by omega, by omega, rfl, rfl, by go_num, rfl, by rw [HLl.out], by go_num, HLg2.out, HAl2.out, HKe.out, HFo.out, HEp.out⟩
                  case measure => simp [intOf]; omega
            · obtain ⟨m, hmm⟩ : ∃ m, L.length = m + 1 := ⟨L.length - 1, by omega⟩
              have Hmm := Lib.hid hmm
              have hls := Hal7.out.ls Hlg7.out.old
              obtain ⟨ab, ao, hA2, hc2⟩ := hls.cells hm0
              obtain ⟨z, hz⟩ : ∃ z, L[m]? = some z := ⟨_, List.getElem?_eq_getElem (by omega)⟩
              have pz := (hc2 m z hz).c0
              have hza := hab z (List.mem_of_getElem? hz) rfl
              have q5 : decide (a ≤ z.a) = false := by rw [decide_eq_false_iff_not]; omega
              have hmI : (m : Int) ≤ 2000 := by omega
              subst hA2
              rw [hmm]
              clear hls hc2 hz hza hm0 hmm hab
              obtain ⟨w8, hw8⟩ : ∃ w8, w7.alloc (.cells (⟨a, y.r⟩ : LgD).cells 59) = w8 := ⟨_, rfl⟩
              have hm8 : Mod (fun _ => False) w7 w8 := by rw [← hw8]; exact (Mod.refl _ w7).alloc _
              have hown8 : OwN w8 w.heap.size 59 15 (some ⟨ab, ao, none⟩) (m + 1) c1 (lgC L) := by have := Hal7.out.row.mod hm8 (fun _ _ => id); rw [Hmm.out] at this; exact this
              have hsrc8 : SrcN w8 (some ⟨w7.heap.size, 0, none⟩) 1 15 (⟨a, y.r⟩ : LgD).cells.toList := by rw [← hw8]; exact SrcN.lit w7 (⟨a, y.r⟩ : LgD).cells.toList 59 (lg_one _)
              have hsz8 : w.heap.size ≤ w8.heap.size := Nat.le_trans Hlg7.out.old.size hm8.size
              have hw8' : w7.alloc (.cells #[.int .i64 a, .int .i64 y.r.k, .int .i64 (y.r.f 1), .int .i64 (y.r.f 2), .int .i64 (y.r.f 3), .int .i64 (y.r.f 4), .int .i64 (y.r.f 5), .int .i64 (y.r.f 6), .int .i64 (y.r.f 7), .int .i64 (y.r.f 8), .int .i64 (y.r.f 9), .bool y.r.o.is, .slice y.r.o.B y.r.o.m y.r.o.d, .bool y.r.v.is, .slice y.r.v.B y.r.v.m y.r.v.d] 59) = w8 := hw8
              have u2 : w7.cell? ⟨gX, 2, none⟩ = some (.int .i64 y.r.k) := by rw [cell_of_row _ _ _ _ _ _ HX7.out]; rfl
              have u3 : w7.cell? ⟨gX, 3, none⟩ = some (.int .i64 (y.r.f 1)) := by rw [cell_of_row _ _ _ _ _ _ HX7.out]; rfl
              have u4 : w7.cell? ⟨gX, 4, none⟩ = some (.int .i64 (y.r.f 2)) := by rw [cell_of_row _ _ _ _ _ _ HX7.out]; rfl
              have u5 : w7.cell? ⟨gX, 5, none⟩ = some (.int .i64 (y.r.f 3)) := by rw [cell_of_row _ _ _ _ _ _ HX7.out]; rfl
              have u6 : w7.cell? ⟨gX, 6, none⟩ = some (.int .i64 (y.r.f 4)) := by rw [cell_of_row _ _ _ _ _ _ HX7.out]; rfl
              have u7 : w7.cell? ⟨gX, 7, none⟩ = some (.int .i64 (y.r.f 5)) := by rw [cell_of_row _ _ _ _ _ _ HX7.out]; rfl
              have u8 : w7.cell? ⟨gX, 8, none⟩ = some (.int .i64 (y.r.f 6)) := by rw [cell_of_row _ _ _ _ _ _ HX7.out]; rfl
              have u9 : w7.cell? ⟨gX, 9, none⟩ = some (.int .i64 (y.r.f 7)) := by rw [cell_of_row _ _ _ _ _ _ HX7.out]; rfl
              have u10 : w7.cell? ⟨gX, 10, none⟩ = some (.int .i64 (y.r.f 8)) := by rw [cell_of_row _ _ _ _ _ _ HX7.out]; rfl
              have u11 : w7.cell? ⟨gX, 11, none⟩ = some (.int .i64 (y.r.f 9)) := by rw [cell_of_row _ _ _ _ _ _ HX7.out]; rfl
              have u12 : w7.cell? ⟨gX, 12, none⟩ = some (.bool y.r.o.is) := by rw [cell_of_row _ _ _ _ _ _ HX7.out]; rfl
              have u13 : w7.cell? ⟨gX, 13, none⟩ = some (.slice y.r.o.B y.r.o.m y.r.o.d) := by rw [cell_of_row _ _ _ _ _ _ HX7.out]; rfl
              have u14 : w7.cell? ⟨gX, 14, none⟩ = some (.bool y.r.v.is) := by rw [cell_of_row _ _ _ _ _ _ HX7.out]; rfl
              have u15 : w7.cell? ⟨gX, 15, none⟩ = some (.slice y.r.v.B y.r.v.m y.r.v.d) := by rw [cell_of_row _ _ _ _ _ _ HX7.out]; rfl
              clear hm8
              go_wp2_with (at_builtin; refine wpList_appN (.tmp 81) (.tmp 86) lgElem rfl rfl rfl rfl hown8 hsrc8 (by omega) (by unfold maxLen; omega) hsz8 ?_)
              intro A9 c9 w9 hown9 hg9 hat9
              clear u2 u3 u4 u5 u6 u7 u8 u9 u10 u11 u12 u13 u14 u15
              have hg9' : (w7.alloc (.cells (⟨a, y.r⟩ : LgD).cells 59)).grownBy w9 (blkOf (some ⟨ab, ao, none⟩)) := by rw [hw8]; exact hg9
              have HAl := Lib.hid (Hal7.out.push ⟨a, y.r⟩ Hyr.out (by rw [Hmm.out]; exact hown9) hg9')
              have HLg := Lib.hid (Hlg7.out.pushed Hal7.out ⟨a, y.r⟩ (A' := A9) hg9' (by rw [hw8]; exact hat9))
              have HLl : Hid ((L ++ [(⟨a, y.r⟩ : LgD)]).length = m + 1 + 1) := by show _ = _; rw [List.length_append, Hmm.out]; rfl
              have HKe := Hke'
              have HFo := Hfo'
              have HEp := Hep'
              clear pz q5 hmI hw8' hown8 hsrc8 hsz8 hown9 hg9 hat9 hg9' Hal7 Hlg7 hw8 HX7 Hmm Hke' Hfo' Hep'
              have hfl : fo ≤ (m + 1 + 1) := by have e1 := HKe.out.durs; have e2 := HFo.out; have e3 := HLl.out; omega
              have Hfl := Lib.hid hfl
              have hf5 : fo ≤ 1860 := by have e1 := HKe.out.few HLg.out.lgs.ok; have e2 := HKe.out.durs; have e3 := HFo.out; omega
              have HDu : Hid (∀ V, Mod (fun _ => False) w9 V → Calls Try.prog 20 #[.pointer (some ⟨p, 0, none⟩)] V fun e w' => e = .returned (.int .i64 (256 * (du : Nat))) ∧ Mod (fun _ => False) w9 w') := fun V hV => by
                have h0 := lgs_durable_ok ((HLg.out.keep hV).lgs)
                rw [HKe.out.ch.gdu] at h0
                exact h0.mono fun _ _ h => ⟨h.1, hV.trans h.2.2 (fun _ _ h => h)⟩
              clear hfl
              go_wp2
              go_loopw [24] (fun kk V => ∃ i : Nat, i ≤ fo ∧ kk = .int .i64 i ∧ Mod (fun _ => False) w9 V) (fun kk _ => fo - (intOf kk).toNat)
              case atStart => exact ⟨0, by omega, rfl, Mod.refl _ _⟩
              case round =>
                obtain ⟨i, hi, rfl, hm⟩ := hrel
                have Hm := Lib.hid hm
                clear hm
                by_cases hlt2 : i < fo
                · have hil : i < (m + 1 + 1) := by have := Hfl.out; omega
                  have q7 : decide ((i : Int) < ((fo : Nat) : Int)) = true := by rw [decide_eq_true_eq]; omega
                  have q8 : decide ((i : Int) < (((m + 1 + 1) : Nat) : Int)) = true := by rw [decide_eq_true_eq]; omega
                  have q9 : decide (i < fo) = true := by rw [decide_eq_true_eq]; omega
                  have q10 : decide (i < (m + 1 + 1)) = true := by rw [decide_eq_true_eq]; omega
                  have hls := (HAl.out.keep Hm.out).ls (HLg.out.old.trans Hm.out (fun _ _ h => h))
                  obtain ⟨ab, ao, hA2, hc2⟩ := hls.cells (by have := HLl.out; omega)
                  obtain ⟨z, hz⟩ : ∃ z, ((L ++ [⟨a, y.r⟩]))[i]? = some z := ⟨_, List.getElem?_eq_getElem (by have := HLl.out; omega)⟩
                  have hpz := (hc2 i z hz).c0
                  have Hpz : Hid (∀ V', Mod (fun _ => False) wr V' → V'.cell? ⟨ab, ao + i * 15, none⟩ = some (.int .i64 z.a)) := fun V' hV => (World.cell?_of_block (hV.block ab (World.block_lt_of_cell? _ _ hpz) id)).trans hpz
                  have pz := Hpz.out wr (Mod.refl _ _)
                  have pzd := Hpz.out wr.drew (Mod.refl _ wr).drew
                  have hlow := HKe.out.below hz (by have := HFo.out; omega)
                  have q11 : decide (256 * ((du : Nat) : Int) ≤ z.a) = false := by rw [decide_eq_false_iff_not]; omega
                  have hmd : Mod (fun _ => False) wr wr.drew := (Mod.refl _ wr).drew
                  have Hmd := Lib.hid hmd
                  have HMd : Hid (Mod (fun _ => False) w9 wr.drew) := Hm.out.trans hmd (fun _ _ h => h)
                  have HDu2 : Hid (∀ V', Mod (fun _ => False) wr V' → Calls Try.prog 20 #[.pointer (some ⟨p, 0, none⟩)] V' fun e w' => e = .returned (.int .i64 (256 * (du : Nat))) ∧ Mod (fun _ => False) V' w' ∧ Mod (fun _ => False) w9 w') := fun V' hV => by
                    have h0 := lgs_durable_ok ((HLg.out.keep (Hm.out.trans hV (fun _ _ h => h))).lgs)
                    rw [HKe.out.ch.gdu] at h0
                    exact h0.mono fun _ _ h => ⟨h.1, h.2.2, (Hm.out.trans hV (fun _ _ h => h)).trans h.2.2 (fun _ _ h => h)⟩
                  rw [hA2]
                  clear hls hc2 hz hpz hlow hmd hA2
                  go_wp2_with fail
                  go_region_held3 (fun w' => w'.cell? ⟨ab, ao + i * 15, none⟩ = some (.int .i64 z.a)) (first | exact pzd | exact pz | (exact Hpz.out _ (Hmd.out.trans n1 (fun _ _ h => h)))) ((go_at_call 20; refine (HDu2.out _ Hmd.out).mono ?_; rintro e v1 ⟨rfl, n1, m1⟩))
                  have Hm1 := Lib.hid m1
                  clear m1 n1 pz pzd Hpz q7 q8 q9 q10
                  go_wp2
                  go_roundw
                  case rel => exact ⟨i + 1, by omega, by go_num, Hm1.out⟩
                  case measure => simp [intOf]; omega
                · have q7 : decide ((i : Int) < ((fo : Nat) : Int)) = false := by rw [decide_eq_false_iff_not]; omega
                  have HLg2 := Lib.hid (HLg.out.keep Hm.out)
                  have HAl2 := Lib.hid (HAl.out.keep Hm.out)
                  clear HDu Hfl q7
                  go_wp2
                  go_roundw
                  case rel => exact ⟨j + 1, px, p, E, fo, fr, du, A9, c9, (L ++ [⟨a, y.r⟩]), g', d', cs', by omega, by omega, rfl, rfl, by go_num, rfl, by rw [HLl.out], by go_num, HLg2.out, HAl2.out, HKe.out, HFo.out, HEp.out⟩
                  case measure => simp [intOf]; omega
          · have Hke' := Lib.hid hke'
            have Hfo' : Hid (fo ≤ (outX (cs'.take du) 0).length) := by show _ ≤ _; rw [take_pre hpre hdn]; exact Hfo.out
            have HAl := Hal7
            have HLg := Hlg7
            have HLl : Hid (L.length = L.length) := rfl
            have HKe := Hke'
            have HFo := Hfo'
            have HEp := Hep'
            clear hpre hke' Hke Hfo Hep hdn hab Hal7 Hlg7 HX7 Hke' Hfo' Hep'
            have hfl : fo ≤ L.length := by have e1 := HKe.out.durs; have e2 := HFo.out; have e3 := HLl.out; omega
            have Hfl := Lib.hid hfl
            have hf5 : fo ≤ 1860 := by have e1 := HKe.out.few HLg.out.lgs.ok; have e2 := HKe.out.durs; have e3 := HFo.out; omega
            have HDu : Hid (∀ V, Mod (fun _ => False) w7 V → Calls Try.prog 20 #[.pointer (some ⟨p, 0, none⟩)] V fun e w' => e = .returned (.int .i64 (256 * (du : Nat))) ∧ Mod (fun _ => False) w7 w') := fun V hV => by
              have h0 := lgs_durable_ok ((HLg.out.keep hV).lgs)
              rw [HKe.out.ch.gdu] at h0
              exact h0.mono fun _ _ h => ⟨h.1, hV.trans h.2.2 (fun _ _ h => h)⟩
            clear hfl
            go_wp2
            go_loopw [24] (fun kk V => ∃ i : Nat, i ≤ fo ∧ kk = .int .i64 i ∧ Mod (fun _ => False) w7 V) (fun kk _ => fo - (intOf kk).toNat)
            case atStart => exact ⟨0, by omega, rfl, Mod.refl _ _⟩
            case round =>
              obtain ⟨i, hi, rfl, hm⟩ := hrel
              have Hm := Lib.hid hm
              clear hm
              by_cases hlt2 : i < fo
              · have hil : i < L.length := by have := Hfl.out; omega
                have q7 : decide ((i : Int) < ((fo : Nat) : Int)) = true := by rw [decide_eq_true_eq]; omega
                have q8 : decide ((i : Int) < ((L.length : Nat) : Int)) = true := by rw [decide_eq_true_eq]; omega
                have q9 : decide (i < fo) = true := by rw [decide_eq_true_eq]; omega
                have q10 : decide (i < L.length) = true := by rw [decide_eq_true_eq]; omega
                have hls := (HAl.out.keep Hm.out).ls (HLg.out.old.trans Hm.out (fun _ _ h => h))
                obtain ⟨ab, ao, hA2, hc2⟩ := hls.cells (by have := HLl.out; omega)
                obtain ⟨z, hz⟩ : ∃ z, (L)[i]? = some z := ⟨_, List.getElem?_eq_getElem (by have := HLl.out; omega)⟩
                have hpz := (hc2 i z hz).c0
                have Hpz : Hid (∀ V', Mod (fun _ => False) wr V' → V'.cell? ⟨ab, ao + i * 15, none⟩ = some (.int .i64 z.a)) := fun V' hV => (World.cell?_of_block (hV.block ab (World.block_lt_of_cell? _ _ hpz) id)).trans hpz
                have pz := Hpz.out wr (Mod.refl _ _)
                have pzd := Hpz.out wr.drew (Mod.refl _ wr).drew
                have hlow := HKe.out.below hz (by have := HFo.out; omega)
                have q11 : decide (256 * ((du : Nat) : Int) ≤ z.a) = false := by rw [decide_eq_false_iff_not]; omega
                have hmd : Mod (fun _ => False) wr wr.drew := (Mod.refl _ wr).drew
                have Hmd := Lib.hid hmd
                have HMd : Hid (Mod (fun _ => False) w7 wr.drew) := Hm.out.trans hmd (fun _ _ h => h)
                have HDu2 : Hid (∀ V', Mod (fun _ => False) wr V' → Calls Try.prog 20 #[.pointer (some ⟨p, 0, none⟩)] V' fun e w' => e = .returned (.int .i64 (256 * (du : Nat))) ∧ Mod (fun _ => False) V' w' ∧ Mod (fun _ => False) w7 w') := fun V' hV => by
                  have h0 := lgs_durable_ok ((HLg.out.keep (Hm.out.trans hV (fun _ _ h => h))).lgs)
                  rw [HKe.out.ch.gdu] at h0
                  exact h0.mono fun _ _ h => ⟨h.1, h.2.2, (Hm.out.trans hV (fun _ _ h => h)).trans h.2.2 (fun _ _ h => h)⟩
                rw [hA2]
                clear hls hc2 hz hpz hlow hmd hA2
                go_wp2_with fail
                go_region_held3 (fun w' => w'.cell? ⟨ab, ao + i * 15, none⟩ = some (.int .i64 z.a)) (first | exact pzd | exact pz | (exact Hpz.out _ (Hmd.out.trans n1 (fun _ _ h => h)))) ((go_at_call 20; refine (HDu2.out _ Hmd.out).mono ?_; rintro e v1 ⟨rfl, n1, m1⟩))
                have Hm1 := Lib.hid m1
                clear m1 n1 pz pzd Hpz q7 q8 q9 q10
                go_wp2
                go_roundw
                case rel => exact ⟨i + 1, by omega, by go_num, Hm1.out⟩
                case measure => simp [intOf]; omega
              · have q7 : decide ((i : Int) < ((fo : Nat) : Int)) = false := by rw [decide_eq_false_iff_not]; omega
                have HLg2 := Lib.hid (HLg.out.keep Hm.out)
                have HAl2 := Lib.hid (HAl.out.keep Hm.out)
                clear HDu Hfl q7
                go_wp2
                go_roundw
                case rel => exact ⟨j + 1, px, p, E, fo, fr, du, A1, c1, L, g', d', cs', by omega, by omega, rfl, rfl, by go_num, rfl, rfl, by go_num, HLg2.out, HAl2.out, HKe.out, HFo.out, HEp.out⟩
                case measure => simp [intOf]; omega
        · by_cases hk1 : y.k = 1
          · have q0 : (y.k == 0) = false := by simpa using hk0
            have q1 : (y.k == 1) = true := by simpa using hk1
            have HFx := Lib.hid (lgn_force HlgX.out (fun k hk => HalX.out.lt k hk) (by omega))
            obtain ⟨cs1, f1, f2⟩ := Hke.out.force HlgX.out.lgs.ok rfl HlgX.out.lgs.arm HlgX.out.lgs.dead ⟨wX, HlgX.out.lgs.ats⟩
            have hep1 : g.forced.ep = E := by rw [g.forced_kin.ep]; exact Hep.out
            obtain ⟨g1, hg1⟩ : ∃ g1, g.forced = g1 := ⟨_, rfl⟩
            obtain ⟨d1, hd1⟩ : ∃ d1, g.forcedD d = d1 := ⟨_, rfl⟩
            rw [hg1, hd1] at HFx f1
            rw [hg1] at hep1
            have HKe := Lib.hid f1
            have HFo : Hid (L.length ≤ (outX (cs1.take cs1.length) 0).length) := Nat.le_of_eq f2
            have HEp := Lib.hid hep1
            clear hk0 hk1 f1 f2 hep1 hg1 hd1 Hke Hfo Hep
            go_wp2_with (first | (with_reducible refine wpList_load_mid rfl 45 (.tmp 52) rfl b (o + j * 19) rfl C _ Hrg.out Try.underlying45 rfl HCi.out ?_) | (refine wpList_store_row rfl 45 (.tmp 13) (.tmp 53) rfl gX C.toArray rfl rfl _ _ HZ.out HCj.out (by exact HCz.out) HC1.out ?_))
            refine HFx.out.mono ?_
            rintro e w7 ⟨rfl, hlg7, hmt⟩
            have HAl := Lib.hid (HalX.out.mod hmt (fun _ h => h))
            have HLg := Lib.hid hlg7
            have HLl : Hid (L.length = L.length) := rfl
            clear x0 x1 x2 x3 x4 x5 x6 x7 x8 x9 x10 x11 x12 x13 x14 x15 x16 x17 x18 HX HFx hlg7 hmt HlgX HalX
            have hfl : L.length ≤ L.length := by have e1 := HKe.out.durs; have e2 := HFo.out; have e3 := HLl.out; omega
            have Hfl := Lib.hid hfl
            have hf5 : L.length ≤ 1860 := by have e1 := HKe.out.few HLg.out.lgs.ok; have e2 := HKe.out.durs; have e3 := HFo.out; omega
            have HDu : Hid (∀ V, Mod (fun _ => False) w7 V → Calls Try.prog 20 #[.pointer (some ⟨p, 0, none⟩)] V fun e w' => e = .returned (.int .i64 (256 * (cs1.length : Nat))) ∧ Mod (fun _ => False) w7 w') := fun V hV => by
              have h0 := lgs_durable_ok ((HLg.out.keep hV).lgs)
              rw [HKe.out.ch.gdu] at h0
              exact h0.mono fun _ _ h => ⟨h.1, hV.trans h.2.2 (fun _ _ h => h)⟩
            clear hfl
            go_wp2
            go_loopw [24] (fun kk V => ∃ i : Nat, i ≤ L.length ∧ kk = .int .i64 i ∧ Mod (fun _ => False) w7 V) (fun kk _ => L.length - (intOf kk).toNat)
            case atStart => exact ⟨0, by omega, rfl, Mod.refl _ _⟩
            case round =>
              obtain ⟨i, hi, rfl, hm⟩ := hrel
              have Hm := Lib.hid hm
              clear hm
              by_cases hlt2 : i < L.length
              · have hil : i < L.length := by have := Hfl.out; omega
                have q7 : decide ((i : Int) < ((L.length : Nat) : Int)) = true := by rw [decide_eq_true_eq]; omega
                have q8 : decide ((i : Int) < ((L.length : Nat) : Int)) = true := by rw [decide_eq_true_eq]; omega
                have q9 : decide (i < L.length) = true := by rw [decide_eq_true_eq]; omega
                have q10 : decide (i < L.length) = true := by rw [decide_eq_true_eq]; omega
                have hls := (HAl.out.keep Hm.out).ls (HLg.out.old.trans Hm.out (fun _ _ h => h))
                obtain ⟨ab, ao, hA2, hc2⟩ := hls.cells (by have := HLl.out; omega)
                obtain ⟨z, hz⟩ : ∃ z, (L)[i]? = some z := ⟨_, List.getElem?_eq_getElem (by have := HLl.out; omega)⟩
                have hpz := (hc2 i z hz).c0
                have Hpz : Hid (∀ V', Mod (fun _ => False) wr V' → V'.cell? ⟨ab, ao + i * 15, none⟩ = some (.int .i64 z.a)) := fun V' hV => (World.cell?_of_block (hV.block ab (World.block_lt_of_cell? _ _ hpz) id)).trans hpz
                have pz := Hpz.out wr (Mod.refl _ _)
                have pzd := Hpz.out wr.drew (Mod.refl _ wr).drew
                have hlow := HKe.out.below hz (by have := HFo.out; omega)
                have q11 : decide (256 * ((cs1.length : Nat) : Int) ≤ z.a) = false := by rw [decide_eq_false_iff_not]; omega
                have hmd : Mod (fun _ => False) wr wr.drew := (Mod.refl _ wr).drew
                have Hmd := Lib.hid hmd
                have HMd : Hid (Mod (fun _ => False) w7 wr.drew) := Hm.out.trans hmd (fun _ _ h => h)
                have HDu2 : Hid (∀ V', Mod (fun _ => False) wr V' → Calls Try.prog 20 #[.pointer (some ⟨p, 0, none⟩)] V' fun e w' => e = .returned (.int .i64 (256 * (cs1.length : Nat))) ∧ Mod (fun _ => False) V' w' ∧ Mod (fun _ => False) w7 w') := fun V' hV => by
                  have h0 := lgs_durable_ok ((HLg.out.keep (Hm.out.trans hV (fun _ _ h => h))).lgs)
                  rw [HKe.out.ch.gdu] at h0
                  exact h0.mono fun _ _ h => ⟨h.1, h.2.2, (Hm.out.trans hV (fun _ _ h => h)).trans h.2.2 (fun _ _ h => h)⟩
                rw [hA2]
                clear hls hc2 hz hpz hlow hmd hA2
                go_wp2_with fail
                go_region_held3 (fun w' => w'.cell? ⟨ab, ao + i * 15, none⟩ = some (.int .i64 z.a)) (first | exact pzd | exact pz | (exact Hpz.out _ (Hmd.out.trans n1 (fun _ _ h => h)))) ((go_at_call 20; refine (HDu2.out _ Hmd.out).mono ?_; rintro e v1 ⟨rfl, n1, m1⟩))
                have Hm1 := Lib.hid m1
                clear m1 n1 pz pzd Hpz q7 q8 q9 q10
                go_wp2
                go_roundw
                case rel => exact ⟨i + 1, by omega, by go_num, Hm1.out⟩
                case measure => simp [intOf]; omega
              · have q7 : decide ((i : Int) < ((L.length : Nat) : Int)) = false := by rw [decide_eq_false_iff_not]; omega
                have HLg2 := Lib.hid (HLg.out.keep Hm.out)
                have HAl2 := Lib.hid (HAl.out.keep Hm.out)
                clear HDu Hfl q7
                go_wp2
                go_roundw
                case rel => exact ⟨j + 1, px, p, E, L.length, fr, cs1.length, A1, c1, L, g1, d1, cs1, by omega, by omega, rfl, rfl, by go_num, rfl, rfl, by go_num, HLg2.out, HAl2.out, HKe.out, HFo.out, HEp.out⟩
                case measure => simp [intOf]; omega
          · by_cases hk3 : y.k = 3
            · have q0 : (y.k == 0) = false := by simpa using hk0
              have q1 : (y.k == 1) = false := by simpa using hk1
              have q3 : (y.k == 3) = true := by simpa using hk3
              obtain ⟨xe8, hxe8, hdev8⟩ := HlgX.out.lgs.dev
              have HCr := Lib.hid (dev_crash w wX xe8 d hdev8 (by omega) y.cr.A y.cr.n y.cr.c y.cr.ks y.cr.torn y.cr.k (Hyc.out.keep HlgX.out.old).1 Hyc.out.2)
              rw [hxe8] at HCr
              obtain ⟨t, t1, t2, t3, _, t5⟩ := chn_crash Hke.out.ch (keptN y.cr.ks y.cr.torn y.cr.k) (keptN_le _ _ _)
              have hdn := Hke.out.ch.dn
              obtain ⟨dc, hdc⟩ : ∃ dc, d.crash (keptN y.cr.ks y.cr.torn y.cr.k) = dc := ⟨_, rfl⟩
              have hfl : dc.dead = false ∧ dc.armed = false ∧ dc.pend = [] := by rw [← hdc]; exact ⟨rfl, rfl, rfl⟩
              rw [hdc] at HCr t3 t5
              rw [Hep.out] at t5
              have Hc9 := Lib.hid t5
              have Ht3 := Lib.hid t3
              have Hfl := Lib.hid hfl
              have Ht : Hid (du ≤ t ∧ t ≤ cs.length ∧ t ≤ 30) := ⟨t1, t2, by have := Hke.out.ch.ln; omega⟩
              have Hy0 := Hke
              clear hk0 hk1 hk3 hxe8 hdev8 t1 t2 t3 t5 hdc hfl
              go_wp2_with (first | (with_reducible refine wpList_load_mid rfl 45 (.tmp 52) rfl b (o + j * 19) rfl C _ Hrg.out Try.underlying45 rfl HCi.out ?_) | (refine wpList_store_row rfl 45 (.tmp 13) (.tmp 53) rfl gX C.toArray rfl rfl _ _ HZ.out HCj.out (by exact HCz.out) HC1.out ?_))
              refine HCr.out.mono ?_
              rintro e w9 ⟨xe9, rfl, hdev9, hm9⟩
              have hdl := Hc9.out.dl
              have hRe := wread_ok w9 w xe9 dc hdev9 Hfl.out.1 2 30 0 (by omega) (by omega) (by omega) (by constructor <;> omega)
              have ht3 := Ht3.out
              rw [show ((2 : Nat) : Int) = 2 from rfl, show ((30 : Nat) : Int) = 30 from rfl] at ht3
              rw [show (30 : Int).toNat = 30 from rfl, ht3] at hRe
              have HRe := Lib.hid hRe
              have Hal9 := Lib.hid (HalX.out.keep hm9)
              have Hdev9 := Lib.hid hdev9
              clear x0 x1 x2 x3 x4 x5 x6 x7 x8 x9 x10 x11 x12 x13 x14 x15 x16 x17 x18 HX hdev9 hm9 hRe ht3 HCr HlgX HalX Ht3 hdl
              go_wp2_with fail
              refine HRe.out.mono ?_
              rintro e w10 ⟨⟨A', c', L', rfl, hrow, hown, hL⟩, hm10⟩
              have hok : ∀ (i : Nat) (c : Sc), (cs.take t)[i]? = some c → c.Ok (i : Int) := Hc9.out.ok
              have hat : ∀ y ∈ L', y.r.At w10 := fun y hy => ⟨(hown y hy).1.at_, (hown y hy).2.at_⟩
              obtain ⟨k1, k2⟩ := keys_of L' _ (hL.trans (out_ms _ _)) (outX_good _ 0 (fun i c hc => by rw [Nat.zero_add]; exact hok i c hc)) hat
              have hll : L'.length = (outX (cs.take t) 0).length := by have := congrArg List.length k1; simpa using this
              have hlt3 : (ms (cs.take t) 0).length = t := by have := Ht.out.2.1; simp [ms]; omega
              rw [hlt3]
              have hdev10 := Hdev9.out.keep hm10
              have hal10 := (Hal9.out.keep hm10).ls hdev10.old
              have hls10 := hrow.logs hat
              have hpre : L'.map LgD.key <+: L.map LgD.key := by
                rw [k1, Hke.out.key]
                exact ((outX_take cs t 0).trans (List.prefix_append _ _)).map keyX
              have hfoL : fo ≤ L'.length := by
                rw [hll]
                have e1 := Hfo.out
                have e2 : (outX (cs.take du) 0).length ≤ (outX (cs.take t) 0).length := by
                  have e3 := (outX_take (cs.take t) du 0).length_le
                  rw [List.take_take, Nat.min_eq_left Ht.out.1] at e3
                  exact e3
                omega
              have hsml : L'.length ≤ 1860 := by
                have e1 := (outX_take cs t 0).length_le
                have e2 := Hke.out.len
                omega
              have HB := Lib.hid (begins_ok w10 A' A1 L'.length L.length c' c1 L' L hls10 hal10 (by omega) (begin_of hpre k2 Hke.out.may))
              have Hk1 := Lib.hid k1
              have Hk2 := Lib.hid k2
              have Hrow := Lib.hid hrow
              have Hown := Lib.hid hown
              have Hls10 := Lib.hid hls10
              have Hll := Lib.hid hll
              have Hdev10 := Lib.hid hdev10
              have hsI : (L'.length : Int) ≤ 1860 := by omega
              have q4 : decide ((L'.length : Int) < (fo : Int)) = false := by rw [decide_eq_false_iff_not]; omega
              have q4n : decide (L'.length < fo) = false := by rw [decide_eq_false_iff_not]; omega
              have hm910 : w9.heap.size ≤ w10.heap.size := hm10.size
              have Hw9 := Lib.hid Hdev9.out.old.size
              clear hok hat k1 k2 hll hlt3 hdev10 hal10 hls10 hpre hsml hrow hown hL hm10 HRe Hal9 Hdev9 hfoL
              go_wp2_with fail
              refine HB.out.mono ?_
              rintro e w11 ⟨rfl, hm11⟩
              have hdev11 := Hdev10.out.keep hm11
              have Hdev11 := Lib.hid hdev11
              have Hrow11 := Lib.hid (Hrow.out.mod hm11 (fun _ _ => id))
              have Hown11 : Hid (∀ z ∈ L', z.r.o.Own w11 w9.heap.size ∧ z.r.v.Own w11 w9.heap.size) := fun z hz => ⟨own_mod (Hown.out z hz).1 hm11 (fun _ _ _ => id), own_mod (Hown.out z hz).2 hm11 (fun _ _ _ => id)⟩
              have hsrc := (Hls10.out.keep hm11).src
              have hnil : OwN w11 w.heap.size 59 15 none 0 0 [] := OwN.nil _ _ _ _
              have hszw : w.heap.size ≤ w11.heap.size := hdev11.old.size
              have q5 : (fo : Int) ≤ L'.length := by
                have e1 := Hfo.out
                have e2 : (outX (cs.take du) 0).length ≤ (outX (cs.take t) 0).length := by
                  have e3 := (outX_take (cs.take t) du 0).length_le
                  rw [List.take_take, Nat.min_eq_left Ht.out.1] at e3
                  exact e3
                have := Hll.out
                omega
              clear hm11 HB hdev11 Hdev10 Hrow Hown Hls10 hm910 q5
              go_wp2_with (at_builtin; refine wpList_appN (.const (.slice none 0 0)) (.tmp 124) lgElem rfl rfl rfl rfl hnil hsrc (by omega) (by unfold maxLen; omega) hszw ?_)
              intro A9 c9 w12 hown12 hg12 hat12
              have hm12 : Mod (fun _ => False) w11 w12 := (Mod.refl _ w11).grown hg12 (fun k e _ => by cases e)
              have hdev12 := Hdev11.out.keep hm12
              have hav : xe9.Avoid (fun k => blkOf A9 = some k) := Hdev11.out.at_.avoid_new (fun k hk => by
                rcases hat12 with e | e
                · rw [e] at hk; cases hk
                · rw [e] at hk; injection hk with hk; omega)
              have hdl := Hc9.out.dl
              have HNw := Lib.hid (lgn_new w12 w xe9 dc hdev12 2 30 ((E : Int) + 1) 0 (t : Int) (by omega) (by omega) (by omega) (by have := Ht.out; constructor <;> omega) Hfl.out.2.1 Hfl.out.1 Hfl.out.2.2 _ hav)
              have hw9 : w.heap.size ≤ w12.heap.size := hdev12.old.size
              have Hal12 : Hid (Al w w12 A9 c9 L') := ⟨hown12, fun z hz => .inr ⟨?_, ?_⟩⟩
              rotate_left
              · exact (own_mod (Hown11.out z hz).1 hm12 (fun _ _ _ => id)).reb Hw9.out
              · exact (own_mod (Hown11.out z hz).2 hm12 (fun _ _ _ => id)).reb Hw9.out
              have HKe : Hid (Kept8 2 30 t t (newG 2 30 ((E : Int) + 1) 0 (t : Int)) dc (cs.take t) L') := ⟨Hc9.out, by rw [newG_buf, List.append_nil]; exact Hk1.out, Hk2.out⟩
              have HFo : Hid (L'.length ≤ (outX ((cs.take t).take t) 0).length) := by show _ ≤ _; rw [List.take_take, Nat.min_self, Hll.out]; exact Nat.le_refl _
              have HEp : Hid ((newG 2 30 ((E : Int) + 1) 0 (t : Int)).ep = ((E + 1 : Nat) : Int)) := by show (E : Int) + 1 = _; omega
              obtain ⟨g9, hg9⟩ : ∃ g9, newG 2 30 ((E : Int) + 1) 0 (t : Int) = g9 := ⟨_, rfl⟩
              rw [hg9] at HNw HKe HEp
              clear hown12 hg12 hat12 hdev12 hav hdl hnil hsrc hszw hg9 Hdev11 Hrow11 Hown11 Hk1 Hk2 Hll Hc9 Hke Hfo Hep Hy0 q4 q4n
              go_wp2_with fail
              refine HNw.out.mono ?_
              rintro e w13 ⟨p', rfl, hlg13, hm13⟩
              have HLg := Lib.hid hlg13
              have HAl := Lib.hid (Hal12.out.keep hm13)
              have HLl : Hid (L'.length = L'.length) := rfl
              clear hlg13 hm13 HNw Hal12 hm12 hw9
              have hfl : L'.length ≤ L'.length := by have e1 := HKe.out.durs; have e2 := HFo.out; have e3 := HLl.out; omega
              have Hfl := Lib.hid hfl
              have hf5 : L'.length ≤ 1860 := by have e1 := HKe.out.few HLg.out.lgs.ok; have e2 := HKe.out.durs; have e3 := HFo.out; omega
              have HDu : Hid (∀ V, Mod (fun _ => False) w13 V → Calls Try.prog 20 #[.pointer (some ⟨p', 0, none⟩)] V fun e w' => e = .returned (.int .i64 (256 * (t : Nat))) ∧ Mod (fun _ => False) w13 w') := fun V hV => by
                have h0 := lgs_durable_ok ((HLg.out.keep hV).lgs)
                rw [HKe.out.ch.gdu] at h0
                exact h0.mono fun _ _ h => ⟨h.1, hV.trans h.2.2 (fun _ _ h => h)⟩
              clear hfl
              go_wp2
              go_loopw [24] (fun kk V => ∃ i : Nat, i ≤ L'.length ∧ kk = .int .i64 i ∧ Mod (fun _ => False) w13 V) (fun kk _ => L'.length - (intOf kk).toNat)
              case atStart => exact ⟨0, by omega, rfl, Mod.refl _ _⟩
              case round =>
                obtain ⟨i, hi, rfl, hm⟩ := hrel
                have Hm := Lib.hid hm
                clear hm
                by_cases hlt2 : i < L'.length
                · have hil : i < L'.length := by have := Hfl.out; omega
                  have q7 : decide ((i : Int) < ((L'.length : Nat) : Int)) = true := by rw [decide_eq_true_eq]; omega
                  have q8 : decide ((i : Int) < ((L'.length : Nat) : Int)) = true := by rw [decide_eq_true_eq]; omega
                  have q9 : decide (i < L'.length) = true := by rw [decide_eq_true_eq]; omega
                  have q10 : decide (i < L'.length) = true := by rw [decide_eq_true_eq]; omega
                  have hls := (HAl.out.keep Hm.out).ls (HLg.out.old.trans Hm.out (fun _ _ h => h))
                  obtain ⟨ab, ao, hA2, hc2⟩ := hls.cells (by have := HLl.out; omega)
                  obtain ⟨z, hz⟩ : ∃ z, (L')[i]? = some z := ⟨_, List.getElem?_eq_getElem (by have := HLl.out; omega)⟩
                  have hpz := (hc2 i z hz).c0
                  have Hpz : Hid (∀ V', Mod (fun _ => False) wr V' → V'.cell? ⟨ab, ao + i * 15, none⟩ = some (.int .i64 z.a)) := fun V' hV => (World.cell?_of_block (hV.block ab (World.block_lt_of_cell? _ _ hpz) id)).trans hpz
                  have pz := Hpz.out wr (Mod.refl _ _)
                  have pzd := Hpz.out wr.drew (Mod.refl _ wr).drew
                  have hlow := HKe.out.below hz (by have := HFo.out; omega)
                  have q11 : decide (256 * ((t : Nat) : Int) ≤ z.a) = false := by rw [decide_eq_false_iff_not]; omega
                  have hmd : Mod (fun _ => False) wr wr.drew := (Mod.refl _ wr).drew
                  have Hmd := Lib.hid hmd
                  have HMd : Hid (Mod (fun _ => False) w13 wr.drew) := Hm.out.trans hmd (fun _ _ h => h)
                  have HDu2 : Hid (∀ V', Mod (fun _ => False) wr V' → Calls Try.prog 20 #[.pointer (some ⟨p', 0, none⟩)] V' fun e w' => e = .returned (.int .i64 (256 * (t : Nat))) ∧ Mod (fun _ => False) V' w' ∧ Mod (fun _ => False) w13 w') := fun V' hV => by
                    have h0 := lgs_durable_ok ((HLg.out.keep (Hm.out.trans hV (fun _ _ h => h))).lgs)
                    rw [HKe.out.ch.gdu] at h0
                    exact h0.mono fun _ _ h => ⟨h.1, h.2.2, (Hm.out.trans hV (fun _ _ h => h)).trans h.2.2 (fun _ _ h => h)⟩
                  rw [hA2]
                  clear hls hc2 hz hpz hlow hmd hA2
                  go_wp2_with fail
                  go_region_held3 (fun w' => w'.cell? ⟨ab, ao + i * 15, none⟩ = some (.int .i64 z.a)) (first | exact pzd | exact pz | (exact Hpz.out _ (Hmd.out.trans n1 (fun _ _ h => h)))) ((go_at_call 20; refine (HDu2.out _ Hmd.out).mono ?_; rintro e v1 ⟨rfl, n1, m1⟩))
                  have Hm1 := Lib.hid m1
                  clear m1 n1 pz pzd Hpz q7 q8 q9 q10
                  go_wp2
                  go_roundw
                  case rel => exact ⟨i + 1, by omega, by go_num, Hm1.out⟩
                  case measure => simp [intOf]; omega
                · have q7 : decide ((i : Int) < ((L'.length : Nat) : Int)) = false := by rw [decide_eq_false_iff_not]; omega
                  have HLg2 := Lib.hid (HLg.out.keep Hm.out)
                  have HAl2 := Lib.hid (HAl.out.keep Hm.out)
                  clear HDu Hfl q7
                  go_wp2
                  go_roundw
                  case rel => exact ⟨j + 1, xe9.p, p', (E + 1), L'.length, t, t, A9, c9, L', g9, dc, (cs.take t), by omega, by omega, rfl, rfl, by go_num, rfl, rfl, by go_num, HLg2.out, HAl2.out, HKe.out, HFo.out, HEp.out⟩
                  case measure => simp [intOf]; omega
            · have q0 : (y.k == 0) = false := by simpa using hk0
              have q1 : (y.k == 1) = false := by simpa using hk1
              have q3 : (y.k == 3) = false := by simpa using hk3
              have HAl := HalX
              have HLg := HlgX
              have HLl : Hid (L.length = L.length) := rfl
              have HKe := Hke
              have HFo := Hfo
              have HEp := Hep
              clear hk0 hk1 hk3 HX HlgX HalX Hke Hfo Hep
              go_wp2_with (first | (with_reducible refine wpList_load_mid rfl 45 (.tmp 52) rfl b (o + j * 19) rfl C _ Hrg.out Try.underlying45 rfl HCi.out ?_) | (refine wpList_store_row rfl 45 (.tmp 13) (.tmp 53) rfl gX C.toArray rfl rfl _ _ HZ.out HCj.out (by exact HCz.out) HC1.out ?_))
              clear x0 x1 x2 x3 x4 x5 x6 x7 x8 x9 x10 x11 x12 x13 x14 x15 x16 x17 x18
              have hfl : fo ≤ L.length := by have e1 := HKe.out.durs; have e2 := HFo.out; have e3 := HLl.out; omega
              have Hfl := Lib.hid hfl
              have hf5 : fo ≤ 1860 := by have e1 := HKe.out.few HLg.out.lgs.ok; have e2 := HKe.out.durs; have e3 := HFo.out; omega
              have HDu : Hid (∀ V, Mod (fun _ => False) wX V → Calls Try.prog 20 #[.pointer (some ⟨p, 0, none⟩)] V fun e w' => e = .returned (.int .i64 (256 * (du : Nat))) ∧ Mod (fun _ => False) wX w') := fun V hV => by
                have h0 := lgs_durable_ok ((HLg.out.keep hV).lgs)
                rw [HKe.out.ch.gdu] at h0
                exact h0.mono fun _ _ h => ⟨h.1, hV.trans h.2.2 (fun _ _ h => h)⟩
              clear hfl
              go_wp2
              go_loopw [24] (fun kk V => ∃ i : Nat, i ≤ fo ∧ kk = .int .i64 i ∧ Mod (fun _ => False) wX V) (fun kk _ => fo - (intOf kk).toNat)
              case atStart => exact ⟨0, by omega, rfl, Mod.refl _ _⟩
              case round =>
                obtain ⟨i, hi, rfl, hm⟩ := hrel
                have Hm := Lib.hid hm
                clear hm
                by_cases hlt2 : i < fo
                · have hil : i < L.length := by have := Hfl.out; omega
                  have q7 : decide ((i : Int) < ((fo : Nat) : Int)) = true := by rw [decide_eq_true_eq]; omega
                  have q8 : decide ((i : Int) < ((L.length : Nat) : Int)) = true := by rw [decide_eq_true_eq]; omega
                  have q9 : decide (i < fo) = true := by rw [decide_eq_true_eq]; omega
                  have q10 : decide (i < L.length) = true := by rw [decide_eq_true_eq]; omega
                  have hls := (HAl.out.keep Hm.out).ls (HLg.out.old.trans Hm.out (fun _ _ h => h))
                  obtain ⟨ab, ao, hA2, hc2⟩ := hls.cells (by have := HLl.out; omega)
                  obtain ⟨z, hz⟩ : ∃ z, (L)[i]? = some z := ⟨_, List.getElem?_eq_getElem (by have := HLl.out; omega)⟩
                  have hpz := (hc2 i z hz).c0
                  have Hpz : Hid (∀ V', Mod (fun _ => False) wr V' → V'.cell? ⟨ab, ao + i * 15, none⟩ = some (.int .i64 z.a)) := fun V' hV => (World.cell?_of_block (hV.block ab (World.block_lt_of_cell? _ _ hpz) id)).trans hpz
                  have pz := Hpz.out wr (Mod.refl _ _)
                  have pzd := Hpz.out wr.drew (Mod.refl _ wr).drew
                  have hlow := HKe.out.below hz (by have := HFo.out; omega)
                  have q11 : decide (256 * ((du : Nat) : Int) ≤ z.a) = false := by rw [decide_eq_false_iff_not]; omega
                  have hmd : Mod (fun _ => False) wr wr.drew := (Mod.refl _ wr).drew
                  have Hmd := Lib.hid hmd
                  have HMd : Hid (Mod (fun _ => False) wX wr.drew) := Hm.out.trans hmd (fun _ _ h => h)
                  have HDu2 : Hid (∀ V', Mod (fun _ => False) wr V' → Calls Try.prog 20 #[.pointer (some ⟨p, 0, none⟩)] V' fun e w' => e = .returned (.int .i64 (256 * (du : Nat))) ∧ Mod (fun _ => False) V' w' ∧ Mod (fun _ => False) wX w') := fun V' hV => by
                    have h0 := lgs_durable_ok ((HLg.out.keep (Hm.out.trans hV (fun _ _ h => h))).lgs)
                    rw [HKe.out.ch.gdu] at h0
                    exact h0.mono fun _ _ h => ⟨h.1, h.2.2, (Hm.out.trans hV (fun _ _ h => h)).trans h.2.2 (fun _ _ h => h)⟩
                  rw [hA2]
                  clear hls hc2 hz hpz hlow hmd hA2
                  go_wp2_with fail
                  go_region_held3 (fun w' => w'.cell? ⟨ab, ao + i * 15, none⟩ = some (.int .i64 z.a)) (first | exact pzd | exact pz | (exact Hpz.out _ (Hmd.out.trans n1 (fun _ _ h => h)))) ((go_at_call 20; refine (HDu2.out _ Hmd.out).mono ?_; rintro e v1 ⟨rfl, n1, m1⟩))
                  have Hm1 := Lib.hid m1
                  clear m1 n1 pz pzd Hpz q7 q8 q9 q10
                  go_wp2
                  go_roundw
                  case rel => exact ⟨i + 1, by omega, by go_num, Hm1.out⟩
                  case measure => simp [intOf]; omega
                · have q7 : decide ((i : Int) < ((fo : Nat) : Int)) = false := by rw [decide_eq_false_iff_not]; omega
                  have HLg2 := Lib.hid (HLg.out.keep Hm.out)
                  have HAl2 := Lib.hid (HAl.out.keep Hm.out)
                  clear HDu Hfl q7
                  go_wp2
                  go_roundw
                  case rel => exact ⟨j + 1, px, p, E, fo, fr, du, A1, c1, L, g, d, cs, by omega, by omega, rfl, rfl, by go_num, rfl, rfl, by go_num, HLg2.out, HAl2.out, HKe.out, HFo.out, HEp.out⟩
                  case measure => simp [intOf]; omega
      · obtain rfl : j = n := by omega
        have Hm := Lib.hid Hlgr.out.old
        go_wp2
        go_ret
        exact ⟨rfl, Hm.out⟩
theorem keeps_walk (w : World) (A : Option Addr) (n c : Nat) (l : List OpD) (h : OpsAt w A n c l) : Calls Try.prog 4 #[.slice A n c] w fun e w' => e = .returned (.bool true) ∧ Below w.heap.size w w' :=
  (keeps_walk0 w A n c l h).mono fun _ _ h => ⟨h.1, h.2.below (Nat.le_refl _) (fun _ _ => id)⟩
end Go.Proofs.Ytidligegmhlikaa
