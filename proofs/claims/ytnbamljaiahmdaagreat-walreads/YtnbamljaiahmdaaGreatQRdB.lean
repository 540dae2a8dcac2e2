/-
  wal.ring.batch: a log sector, if it is one.
-/
import Derived.Test.YtnbamljaiahmdaaGreatQRdR
namespace Go.Proofs.YtnbamljaiahmdaaGreat
open Go Go.RowKit Go.Shelf

/-- What batch answers. -/
def BaA (w : World) (o : Option Bm) (e : Ending) (w' : World) : Prop := ∃ z : BtD, e = .returned (.tuple #[.agg z.cells, .bool o.isSome]) ∧ Mod (fun _ => False) w w' ∧
  ∀ m, o = some m → OwN w' w.heap.size 47 14 z.A z.n z.c (recsC z.l) ∧ (∀ y ∈ z.l, y.o.Own w' w.heap.size ∧ y.v.Own w' w.heap.size) ∧ z.m = m
theorem fin_no {w wX wF : World} {gR : Nat} {z : BtD} {o : Option Bm} (hg : w.heap.size ≤ gR) (hm : Mod (fun _ => False) w wX) (hz : Mod (fun k => k = gR) wX wF) (ho : o = none) : BaA w o (.returned (.tuple #[.agg z.cells, .bool false])) wF :=
  ⟨z, by rw [ho]; rfl, hm.trans hz (fun k hk e => by omega), fun m hm' => by rw [ho] at hm'; cases hm'⟩
theorem fin_yes {w w3 w4 wX wF : World} {gR : Nat} {E S F : Int} {B : Option Addr} {m4 d4 : Nat} {L : List RcD} {o : Option Bm} (hg : w.heap.size ≤ gR) (hgR : gR < w3.heap.size) (hm3 : Mod (fun _ => False) w w3) (hm : Mod (fun _ => False) w wX) (hm4 : Mod (fun _ => False) w4 wX) (hz : Mod (fun k => k = gR) wX wF) (hr : OwN w4 w3.heap.size 47 14 B m4 d4 (recsC L))
    (hv : ∀ y ∈ L, y.o.Own w4 w3.heap.size ∧ y.v.Own w4 w3.heap.size) (ho : o = some ⟨E, S, F, L.map RcD.p⟩) : BaA w o (.returned (.tuple #[.agg (⟨E, S, F, B, m4, d4, L⟩ : BtD).cells, .bool true])) wF := by
  have hb := hm3.size
  refine ⟨_, by rw [ho]; rfl, hm.trans hz (fun k hk e => by omega), fun m hm' => ?_⟩
  have hmF : Mod (fun k => k = gR) w4 wF := (hm4.mono (fun _ _ h => h.elim)).trans hz (fun _ _ h => h)
  rw [ho] at hm'
  injection hm' with hm'
  subst hm'
  refine ⟨(hr.mod hmF (fun k hk e => by have := (hr.lt k hk).1; omega)).rebase hb, fun y hy => ?_, rfl⟩
  obtain ⟨a, b⟩ := hv y hy
  exact ⟨Own.rebase (OwV.mod a hmF (fun k hk e => by have := (OwV.lt a k hk).1; omega)) hb, Own.rebase (OwV.mod b hmF (fun k hk e => by have := (OwV.lt b k hk).1; omega)) hb⟩

set_option maxRecDepth 100000 in
set_option maxHeartbeats 8000000 in
theorem batch_ok (w w0 : World) (x : DV) (d : Dk) (h : Dev w0 w x d) (b n q : Int) (b0 : 0 ≤ b) (b1 : b ≤ 4096) (n2 : 2 ≤ n) (n1 : n ≤ 4096) (q0 : 0 ≤ q) :
    Calls Tryz.prog 42 #[.agg #[.pointer (some ⟨x.p, 0, none⟩), .int .i64 b, .int .i64 n], .int .i64 q] w (BaA w (batM (d.read (b + q % n)) q)) := by
  obtain ⟨gR, hgR⟩ : ∃ gR, w.heap.size + 1 = gR := ⟨_, rfl⟩
  obtain ⟨wA, hwA⟩ : ∃ wA, (w.alloc (.cells #[.pointer (some ⟨x.p, 0, none⟩), .int .i64 b, .int .i64 n] 64)).alloc (.cells BtD.zero.cells 68) = wA := ⟨_, rfl⟩
  have hmA : Mod (fun _ => False) w wA := by rw [← hwA]; exact ((Mod.refl _ w).alloc _).alloc _
  have hIA : BtD.zero.In wA gR := by
    have h1 := BtD.In.new (w.alloc (.cells #[.pointer (some ⟨x.p, 0, none⟩), .int .i64 b, .int .i64 n] 64)) BtD.zero
    rw [World.size_alloc, hwA, hgR] at h1
    exact h1
  have hrb : wA.heap[w.heap.size]? = some (.cells #[.pointer (some ⟨x.p, 0, none⟩), .int .i64 b, .int .i64 n] 64 (0, 0)) := by
    rw [← hwA]
    exact (((Mod.refl (fun _ => False) (w.alloc (.cells #[.pointer (some ⟨x.p, 0, none⟩), .int .i64 b, .int .i64 n] 64))).alloc (.cells BtD.zero.cells 68)).block _ (by simp) id).trans (heap_alloc_new w _)
  have Hrc : Hid (∀ W, Mod (fun _ => False) wA W → W.cell? ⟨w.heap.size, 0, none⟩ = some (.pointer (some ⟨x.p, 0, none⟩)) ∧ W.cell? ⟨w.heap.size, 1, none⟩ = some (.int .i64 b) ∧ W.cell? ⟨w.heap.size, 2, none⟩ = some (.int .i64 n)) := fun W hW => by
    have hb := (hW.block _ (Array.getElem?_eq_some_iff.1 hrb).1 id).trans hrb
    refine ⟨?_, ?_, ?_⟩ <;> (rw [cell_of_row _ _ _ _ _ _ hb]; rfl)
  obtain ⟨r0, r1, r2⟩ := Hrc.out wA (Mod.refl _ wA)
  have Hpl : Hid (∀ W, Calls Tryz.prog 60 #[.agg #[.pointer (some ⟨x.p, 0, none⟩), .int .i64 b, .int .i64 n], .int .i64 q] W fun r w' => r = .returned (.int .i64 (b + q % n)) ∧ Mod (fun _ => False) W w') := fun W => place_ok W _ _ _ _ b0 b1 n2 n1 q0
  have Hrd : Hid (∀ W, Mod (fun _ => False) w W → Calls Tryz.prog 28 #[.pointer (some ⟨x.p, 0, none⟩), .int .i64 (b + q % n)] W fun e w' => ∃ A n' c, e = .returned (.tuple #[.slice A n' c, .int .i64 (d.reach (b + q % n))]) ∧ FreshR W w' A n' c (d.read (b + q % n))) := fun W hW => dev_read w0 W x d (h.keep hW) _
  obtain ⟨xs, hxs⟩ : ∃ xs, d.read (b + q % n) = xs := ⟨_, rfl⟩
  rw [hxs] at Hrd ⊢
  generalize b + q % n = pl at *
  generalize d.reach pl = er0 at *
  have HgR : Hid (w.heap.size ≤ gR) := by show _ ≤ _; omega
  have HgRe := Lib.hid hgR
  have HIA := Lib.hid hIA
  have HmA := Lib.hid hmA
  have HmAd : Hid (Mod (fun _ => False) wA wA.drew) := (Mod.refl _ wA).drew
  clear hgR hmA hIA hrb h hxs b0 b1 n2 n1 q0
  go_enter Tryz.func42, Tryz.ntmps42
  go_wp2_with fail
  rw [show (w.alloc (.cells #[.pointer (some ⟨x.p, 0, none⟩), .int .i64 b, .int .i64 n] 64)).alloc (.cells #[.int .i64 0, .int .i64 0, .int .i64 0, .slice none 0 0] 68) = wA from hwA, HgRe.out]
  go_region_held3 (fun w' => w'.cell? ⟨w.heap.size, 0, none⟩ = some (.pointer (some ⟨x.p, 0, none⟩)) ∧ w'.cell? ⟨w.heap.size, 1, none⟩ = some (.int .i64 b) ∧ w'.cell? ⟨w.heap.size, 2, none⟩ = some (.int .i64 n)) (first | exact ⟨r0, r1, r2⟩ | exact Hrc.out _ (HmAd.out.trans hm1 (fun _ _ h => h)) | exact Hrc.out _ ((HmAd.out.trans hm1 (fun _ _ h => h)).trans hf.2 (fun _ _ h => h))) (first | (go_at_call 60; refine (Hpl.out _).mono ?_; rintro e w1 ⟨rfl, hm1⟩) | (go_at_call 28; refine (Hrd.out _ (HmA.out.trans (HmAd.out.trans hm1 (fun _ _ h => h)) (fun _ _ h => h))).mono ?_; rintro e w2 ⟨A, m2, c2, rfl, hf⟩))
  have hmA2 := (HmAd.out.trans hm1 (fun _ _ h => h)).trans hf.2 (fun _ _ h => h)
  have Hop := Lib.hid (openA_ok w2 A m2 c2 xs hf.sl)
  have HI2 := Lib.hid (HIA.out.keep hmA2)
  have Hm2 : Hid (Mod (fun _ => False) w w2) := HmA.out.trans hmA2 (fun _ _ h => h)
  clear hm1 hf hmA2 r0 r1 r2 Hrc Hpl Hrd HIA HmAd HmA
  go_wp2_with fail
  refine Hop.out.mono ?_
  rintro e w3 ⟨h3, hm3⟩
  have hI3 := HI2.out.keep hm3
  have HI3 := Lib.hid hI3
  have Hm3 : Hid (Mod (fun _ => False) w w3) := Hm2.out.trans hm3 (fun _ _ h => h)
  have HgR3 := Lib.hid hI3.lt
  clear hm3 HI2 Hm2 Hop
  rcases h3 with ⟨hno, er, her, rfl⟩ | ⟨hl, ht, g3, rfl, hsl⟩
  · have q1 : (er != 0) = true := by simpa using her
    have Hno : Hid (batM xs q = none) := by show _ = _; unfold batM; rw [if_neg hno]
    have i0 := hI3.c0
    have i1 := hI3.c1
    have i2 := hI3.c2
    have i3 := hI3.c3
    have z0 := hI3.fz 0
    have z1 := hI3.fz 1
    have z2 := hI3.fz 2
    have z3 := hI3.fz 3
    clear hI3 hno her
    go_wp2
    change bodyPost _ _ _ _ _ (stBat w3 gR BtD.zero)
    have hIz := stBat_in HI3.out BtD.zero
    have s0 := hIz.c0
    have s1 := hIz.c1
    have s2 := hIz.c2
    have s3 := hIz.c3
    have Hmz := Lib.hid (stBat_mod w3 gR BtD.zero)
    generalize stBat w3 gR BtD.zero = wF at *
    clear i0 i1 i2 i3 z0 z1 z2 z3 hIz
    refine bodyPost_ret (v := .tuple #[.agg BtD.zero.cells, .bool false]) (by simp [results, Tryz.results42, go_sem, s0, s1, s2, s3]) rfl ?_
    exact fin_no (gR := gR) (z := BtD.zero) HgR.out Hm3.out Hmz.out Hno.out
  · have Hbat : Hid (∀ l, unpackM (midS xs) = some l → stampOk xs q = true → batM xs q = some ⟨hdE (midS xs), hdS (midS xs), hdF (midS xs), l⟩) := fun l h1 h2 => batM_yes hl ht h1 h2
    have Hbno : Hid (∀ l, unpackM (midS xs) = some l → stampOk xs q = false → batM xs q = none) := fun l h1 h2 => by unfold batM; rw [if_pos ⟨hl, ht⟩, h1]; dsimp only; rw [h2]; rfl
    have Hbun : Hid (unpackM (midS xs) = none → batM xs q = none) := fun h1 => by unfold batM; rw [if_pos ⟨hl, ht⟩, h1]
    have Hhd : Hid (∀ l, unpackM (midS xs) = some l → headOk (hdE (midS xs)) (hdS (midS xs)) (hdF (midS xs)) = true) := fun l h1 => (unpack_head h1).1
    have Hun := Lib.hid (unpack_ok w3 _ _ _ _ hsl)
    have hst : stampOk xs q = (decide (hdS (midS xs) = q) && (decide ((unle (xs.take 4) : Int) = 16777216 * hdE (midS xs) + hdS (midS xs)) && decide (1 ≤ hdE (midS xs)))) := rfl
    obtain ⟨ys, hys⟩ : ∃ ys, midS xs = ys := ⟨_, rfl⟩
    rw [hys] at Hbat Hbno Hbun Hhd Hun hst
    obtain ⟨M, hM⟩ : ∃ M : Int, (unle (xs.take 4) : Int) = M := ⟨_, rfl⟩
    rw [hM] at hst ⊢
    have Hstv := Lib.hid hst
    clear hI3 hl ht hsl hst hys hM
    go_wp2_with fail
    refine Hun.out.mono ?_
    rintro e w4 ⟨hu, hm4⟩
    have Hm4 : Hid (Mod (fun _ => False) w w4) := Hm3.out.trans hm4 (fun _ _ h => h)
    have HI4 := Lib.hid (HI3.out.keep hm4)
    clear hm4 Hun HI3
    cases hum : unpackM ys with
    | none =>
      rw [hum] at hu
      obtain rfl := hu
      have Hno := Lib.hid (Hbun.out hum)
      have Hst : Hid (∀ W, Calls Tryz.prog 59 #[.int .i64 0, .int .i64 0] W fun r w' => r = .returned (.int .i64 (16777216 * 0 + 0)) ∧ W = w') := fun W => wstamp_ok W _ _ (by omega) (by omega) (by omega) (by omega)
      clear hum Hbat Hbno Hbun Hhd Hstv
      obtain ⟨wX, hwX⟩ : ∃ wX, w4.alloc (.cells (BtD.zero).cells 68) = wX := ⟨_, rfl⟩
      have hX : (BtD.zero).In wX w4.heap.size := by rw [← hwX]; exact BtD.In.new w4 _
      have hmX : Mod (fun _ => False) w4 wX := by rw [← hwX]; exact (Mod.refl _ w4).alloc _
      have hIX := HI4.out.keep hmX
      have HI := Lib.hid hIX
      have hne : ¬ w4.heap.size = gR := by have := HI4.out.lt; omega
      have HXd : Hid ((BtD.zero).In wX.drew w4.heap.size) := hX.keep ((Mod.refl _ wX).drew)
      have HId : Hid (BtD.zero.In wX.drew gR) := hIX.keep ((Mod.refl _ wX).drew)
      have Hne : Hid (¬ w4.heap.size = gR) := hne
      have HmX : Hid (Mod (fun _ => False) w wX) := Hm4.out.trans hmX (fun _ _ h => h)
      have HmX4 := Lib.hid hmX
      clear hX hmX hIX hne
      go_wp2_with fail
      refine wp_region_held (by kernel_rfl) (rd_region0 (W := wX.drew) (by kernel_rfl) (by kernel_rfl) (by kernel_rfl) ?_ (BtD.zero) w4.heap.size gR q M 7 _ _ _ _ _ _ _ _ _ _ _ _ _ _ _ _ _ _ _ _ _ _ _ _ _ _ _ _ _ _ _ _ _ _ _ _ _ _ _ _ _ _ _ _ _ _ _ _ _ _ _ _ _ HXd.out rfl HId.out Hne.out ?_)
      · intro c a t u w' hq
        cases t <;> exact hq
      go_wp2
      change bodyPost _ _ _ _ _ (stBat wX.drew gR (BtD.zero))
      have hIz := stBat_in (HI.out.keep ((Mod.refl _ wX).drew)) (BtD.zero)
      have s0 := hIz.c0
      have s1 := hIz.c1
      have s2 := hIz.c2
      have s3 := hIz.c3
      have hmz := stBat_mod wX.drew gR (BtD.zero)
      have Hmz : Hid (Mod (fun k => k = gR) wX (stBat wX.drew gR (BtD.zero))) := ((Mod.refl _ wX).drew).trans hmz (fun _ _ h => h)
      generalize stBat wX.drew gR (BtD.zero) = wF at *
      clear hIz hmz
      refine bodyPost_ret (v := .tuple #[.agg (BtD.zero).cells, .bool false]) (by simp [results, Tryz.results42, go_sem, s0, s1, s2, s3]) rfl ?_
      exact fin_no (gR := gR) (z := (BtD.zero)) HgR.out HmX.out Hmz.out Hno.out
    | some l =>
      rw [hum] at hu
      obtain ⟨B, m4, d4, L, rfl, hrow, hown, hLl⟩ := hu
      obtain ⟨k0, k1, k2, k3, k4, k5⟩ := headOk_bd (Hhd.out l hum)
      have HbatL : Hid (stampOk xs q = true → batM xs q = some ⟨hdE ys, hdS ys, hdF ys, L.map RcD.p⟩) := fun h2 => by rw [hLl]; exact Hbat.out l hum h2
      have HbnoL : Hid (stampOk xs q = false → batM xs q = none) := fun h2 => Hbno.out l hum h2
      have Hrow := Lib.hid hrow
      have Hown := Lib.hid hown
      clear hum Hbat Hbno Hbun Hhd hrow hown hLl
      generalize hdE ys = E at *
      generalize hdS ys = S at *
      generalize hdF ys = F at *
      have Hst : Hid (∀ W, Calls Tryz.prog 59 #[.int .i64 E, .int .i64 S] W fun r w' => r = .returned (.int .i64 (16777216 * E + S)) ∧ W = w') := fun W => wstamp_ok W _ _ k0 k1 k2 k3
      clear k4 k5
      by_cases hs : S = q
      · have p1 : (S == q) = true := by simpa using hs
        by_cases hm : M = 16777216 * E + S
        · have p2 : (M == 16777216 * E + S) = true := by simpa using hm
          by_cases he : 1 ≤ E
          · have p3 : decide (1 ≤ E) = true := by simpa using he
            have Hyes : Hid (batM xs q = some ⟨E, S, F, L.map RcD.p⟩) := HbatL.out (by rw [Hstv.out, decide_eq_true hs, decide_eq_true hm, decide_eq_true he]; rfl)
            clear hs hm he HbatL HbnoL Hstv
            obtain ⟨wX, hwX⟩ : ∃ wX, w4.alloc (.cells (⟨E, S, F, B, m4, d4, L⟩ : BtD).cells 68) = wX := ⟨_, rfl⟩
            have hX : (⟨E, S, F, B, m4, d4, L⟩ : BtD).In wX w4.heap.size := by rw [← hwX]; exact BtD.In.new w4 _
            have hmX : Mod (fun _ => False) w4 wX := by rw [← hwX]; exact (Mod.refl _ w4).alloc _
            have hIX := HI4.out.keep hmX
            have HI := Lib.hid hIX
            have hne : ¬ w4.heap.size = gR := by have := HI4.out.lt; omega
            have HXd : Hid ((⟨E, S, F, B, m4, d4, L⟩ : BtD).In wX.drew w4.heap.size) := hX.keep ((Mod.refl _ wX).drew)
            have HId : Hid (BtD.zero.In wX.drew gR) := hIX.keep ((Mod.refl _ wX).drew)
            have Hne : Hid (¬ w4.heap.size = gR) := hne
            have HmX : Hid (Mod (fun _ => False) w wX) := Hm4.out.trans hmX (fun _ _ h => h)
            have HmX4 := Lib.hid hmX
            clear hX hmX hIX hne
            go_wp2_with fail
            refine wp_region_held (by kernel_rfl) (rd_region4 (W := wX.drew) (by kernel_rfl) (by kernel_rfl) (by kernel_rfl) ?_ (⟨E, S, F, B, m4, d4, L⟩ : BtD) w4.heap.size gR q M 0 _ _ _ _ _ _ _ _ _ _ _ _ _ _ _ _ _ _ _ _ _ _ _ _ _ _ _ _ _ _ _ _ _ _ _ _ _ _ _ _ _ _ _ _ _ _ _ _ _ _ _ _ _ HXd.out rfl p1 p2 p3 Hst.out HId.out Hne.out ?_)
            · intro c a t u w' hq
              cases t <;> exact hq
            go_wp2
            change bodyPost _ _ _ _ _ (stBat wX.drew gR (⟨E, S, F, B, m4, d4, L⟩ : BtD))
            have hIz := stBat_in (HI.out.keep ((Mod.refl _ wX).drew)) (⟨E, S, F, B, m4, d4, L⟩ : BtD)
            have s0 := hIz.c0
            have s1 := hIz.c1
            have s2 := hIz.c2
            have s3 := hIz.c3
            have hmz := stBat_mod wX.drew gR (⟨E, S, F, B, m4, d4, L⟩ : BtD)
            have Hmz : Hid (Mod (fun k => k = gR) wX (stBat wX.drew gR (⟨E, S, F, B, m4, d4, L⟩ : BtD))) := ((Mod.refl _ wX).drew).trans hmz (fun _ _ h => h)
            generalize stBat wX.drew gR (⟨E, S, F, B, m4, d4, L⟩ : BtD) = wF at *
            clear hIz hmz
            refine bodyPost_ret (v := .tuple #[.agg (⟨E, S, F, B, m4, d4, L⟩ : BtD).cells, .bool true]) (by simp [results, Tryz.results42, go_sem, s0, s1, s2, s3]) rfl ?_
            exact fin_yes (gR := gR) HgR.out HgR3.out Hm3.out HmX.out HmX4.out Hmz.out Hrow.out Hown.out Hyes.out
          · have p3 : decide (1 ≤ E) = false := by simpa using he
            have Hno : Hid (batM xs q = none) := HbnoL.out (by rw [Hstv.out, decide_eq_false he, Bool.and_false, Bool.and_false])
            clear hs hm he HbatL HbnoL Hstv Hrow Hown
            obtain ⟨wX, hwX⟩ : ∃ wX, w4.alloc (.cells (⟨E, S, F, B, m4, d4, L⟩ : BtD).cells 68) = wX := ⟨_, rfl⟩
            have hX : (⟨E, S, F, B, m4, d4, L⟩ : BtD).In wX w4.heap.size := by rw [← hwX]; exact BtD.In.new w4 _
            have hmX : Mod (fun _ => False) w4 wX := by rw [← hwX]; exact (Mod.refl _ w4).alloc _
            have hIX := HI4.out.keep hmX
            have HI := Lib.hid hIX
            have hne : ¬ w4.heap.size = gR := by have := HI4.out.lt; omega
            have HXd : Hid ((⟨E, S, F, B, m4, d4, L⟩ : BtD).In wX.drew w4.heap.size) := hX.keep ((Mod.refl _ wX).drew)
            have HId : Hid (BtD.zero.In wX.drew gR) := hIX.keep ((Mod.refl _ wX).drew)
            have Hne : Hid (¬ w4.heap.size = gR) := hne
            have HmX : Hid (Mod (fun _ => False) w wX) := Hm4.out.trans hmX (fun _ _ h => h)
            have HmX4 := Lib.hid hmX
            clear hX hmX hIX hne
            go_wp2_with fail
            refine wp_region_held (by kernel_rfl) (rd_region3 (W := wX.drew) (by kernel_rfl) (by kernel_rfl) (by kernel_rfl) ?_ (⟨E, S, F, B, m4, d4, L⟩ : BtD) w4.heap.size gR q M 0 _ _ _ _ _ _ _ _ _ _ _ _ _ _ _ _ _ _ _ _ _ _ _ _ _ _ _ _ _ _ _ _ _ _ _ _ _ _ _ _ _ _ _ _ _ _ _ _ _ _ _ _ _ HXd.out rfl p1 p2 p3 Hst.out HId.out Hne.out ?_)
            · intro c a t u w' hq
              cases t <;> exact hq
            go_wp2
            change bodyPost _ _ _ _ _ (stBat wX.drew gR (⟨E, S, F, B, m4, d4, L⟩ : BtD))
            have hIz := stBat_in (HI.out.keep ((Mod.refl _ wX).drew)) (⟨E, S, F, B, m4, d4, L⟩ : BtD)
            have s0 := hIz.c0
            have s1 := hIz.c1
            have s2 := hIz.c2
            have s3 := hIz.c3
            have hmz := stBat_mod wX.drew gR (⟨E, S, F, B, m4, d4, L⟩ : BtD)
            have Hmz : Hid (Mod (fun k => k = gR) wX (stBat wX.drew gR (⟨E, S, F, B, m4, d4, L⟩ : BtD))) := ((Mod.refl _ wX).drew).trans hmz (fun _ _ h => h)
            generalize stBat wX.drew gR (⟨E, S, F, B, m4, d4, L⟩ : BtD) = wF at *
            clear hIz hmz
            refine bodyPost_ret (v := .tuple #[.agg (⟨E, S, F, B, m4, d4, L⟩ : BtD).cells, .bool false]) (by simp [results, Tryz.results42, go_sem, s0, s1, s2, s3]) rfl ?_
            exact fin_no (gR := gR) (z := (⟨E, S, F, B, m4, d4, L⟩ : BtD)) HgR.out HmX.out Hmz.out Hno.out
        · have p2 : (M == 16777216 * E + S) = false := by simpa using hm
          have Hno : Hid (batM xs q = none) := HbnoL.out (by rw [Hstv.out, decide_eq_false hm, Bool.false_and, Bool.and_false])
          clear hs hm HbatL HbnoL Hstv Hrow Hown
          obtain ⟨wX, hwX⟩ : ∃ wX, w4.alloc (.cells (⟨E, S, F, B, m4, d4, L⟩ : BtD).cells 68) = wX := ⟨_, rfl⟩
          have hX : (⟨E, S, F, B, m4, d4, L⟩ : BtD).In wX w4.heap.size := by rw [← hwX]; exact BtD.In.new w4 _
          have hmX : Mod (fun _ => False) w4 wX := by rw [← hwX]; exact (Mod.refl _ w4).alloc _
          have hIX := HI4.out.keep hmX
          have HI := Lib.hid hIX
          have hne : ¬ w4.heap.size = gR := by have := HI4.out.lt; omega
          have HXd : Hid ((⟨E, S, F, B, m4, d4, L⟩ : BtD).In wX.drew w4.heap.size) := hX.keep ((Mod.refl _ wX).drew)
          have HId : Hid (BtD.zero.In wX.drew gR) := hIX.keep ((Mod.refl _ wX).drew)
          have Hne : Hid (¬ w4.heap.size = gR) := hne
          have HmX : Hid (Mod (fun _ => False) w wX) := Hm4.out.trans hmX (fun _ _ h => h)
          have HmX4 := Lib.hid hmX
          clear hX hmX hIX hne
          go_wp2_with fail
          refine wp_region_held (by kernel_rfl) (rd_region2 (W := wX.drew) (by kernel_rfl) (by kernel_rfl) (by kernel_rfl) ?_ (⟨E, S, F, B, m4, d4, L⟩ : BtD) w4.heap.size gR q M 0 _ _ _ _ _ _ _ _ _ _ _ _ _ _ _ _ _ _ _ _ _ _ _ _ _ _ _ _ _ _ _ _ _ _ _ _ _ _ _ _ _ _ _ _ _ _ _ _ _ _ _ _ _ HXd.out rfl p1 p2 Hst.out HId.out Hne.out ?_)
          · intro c a t u w' hq
            cases t <;> exact hq
          go_wp2
          change bodyPost _ _ _ _ _ (stBat wX.drew gR (⟨E, S, F, B, m4, d4, L⟩ : BtD))
          have hIz := stBat_in (HI.out.keep ((Mod.refl _ wX).drew)) (⟨E, S, F, B, m4, d4, L⟩ : BtD)
          have s0 := hIz.c0
          have s1 := hIz.c1
          have s2 := hIz.c2
          have s3 := hIz.c3
          have hmz := stBat_mod wX.drew gR (⟨E, S, F, B, m4, d4, L⟩ : BtD)
          have Hmz : Hid (Mod (fun k => k = gR) wX (stBat wX.drew gR (⟨E, S, F, B, m4, d4, L⟩ : BtD))) := ((Mod.refl _ wX).drew).trans hmz (fun _ _ h => h)
          generalize stBat wX.drew gR (⟨E, S, F, B, m4, d4, L⟩ : BtD) = wF at *
          clear hIz hmz
          refine bodyPost_ret (v := .tuple #[.agg (⟨E, S, F, B, m4, d4, L⟩ : BtD).cells, .bool false]) (by simp [results, Tryz.results42, go_sem, s0, s1, s2, s3]) rfl ?_
          exact fin_no (gR := gR) (z := (⟨E, S, F, B, m4, d4, L⟩ : BtD)) HgR.out HmX.out Hmz.out Hno.out
      · have p1 : (S == q) = false := by simpa using hs
        have Hno : Hid (batM xs q = none) := HbnoL.out (by rw [Hstv.out, decide_eq_false hs, Bool.false_and])
        clear hs HbatL HbnoL Hstv Hrow Hown
        obtain ⟨wX, hwX⟩ : ∃ wX, w4.alloc (.cells (⟨E, S, F, B, m4, d4, L⟩ : BtD).cells 68) = wX := ⟨_, rfl⟩
        have hX : (⟨E, S, F, B, m4, d4, L⟩ : BtD).In wX w4.heap.size := by rw [← hwX]; exact BtD.In.new w4 _
        have hmX : Mod (fun _ => False) w4 wX := by rw [← hwX]; exact (Mod.refl _ w4).alloc _
        have hIX := HI4.out.keep hmX
        have HI := Lib.hid hIX
        have hne : ¬ w4.heap.size = gR := by have := HI4.out.lt; omega
        have HXd : Hid ((⟨E, S, F, B, m4, d4, L⟩ : BtD).In wX.drew w4.heap.size) := hX.keep ((Mod.refl _ wX).drew)
        have HId : Hid (BtD.zero.In wX.drew gR) := hIX.keep ((Mod.refl _ wX).drew)
        have Hne : Hid (¬ w4.heap.size = gR) := hne
        have HmX : Hid (Mod (fun _ => False) w wX) := Hm4.out.trans hmX (fun _ _ h => h)
        have HmX4 := Lib.hid hmX
        clear hX hmX hIX hne
        go_wp2_with fail
        refine wp_region_held (by kernel_rfl) (rd_region1 (W := wX.drew) (by kernel_rfl) (by kernel_rfl) (by kernel_rfl) ?_ (⟨E, S, F, B, m4, d4, L⟩ : BtD) w4.heap.size gR q M 0 _ _ _ _ _ _ _ _ _ _ _ _ _ _ _ _ _ _ _ _ _ _ _ _ _ _ _ _ _ _ _ _ _ _ _ _ _ _ _ _ _ _ _ _ _ _ _ _ _ _ _ _ _ HXd.out rfl p1 HId.out Hne.out ?_)
        · intro c a t u w' hq
          cases t <;> exact hq
        go_wp2
        change bodyPost _ _ _ _ _ (stBat wX.drew gR (⟨E, S, F, B, m4, d4, L⟩ : BtD))
        have hIz := stBat_in (HI.out.keep ((Mod.refl _ wX).drew)) (⟨E, S, F, B, m4, d4, L⟩ : BtD)
        have s0 := hIz.c0
        have s1 := hIz.c1
        have s2 := hIz.c2
        have s3 := hIz.c3
        have hmz := stBat_mod wX.drew gR (⟨E, S, F, B, m4, d4, L⟩ : BtD)
        have Hmz : Hid (Mod (fun k => k = gR) wX (stBat wX.drew gR (⟨E, S, F, B, m4, d4, L⟩ : BtD))) := ((Mod.refl _ wX).drew).trans hmz (fun _ _ h => h)
        generalize stBat wX.drew gR (⟨E, S, F, B, m4, d4, L⟩ : BtD) = wF at *
        clear hIz hmz
        refine bodyPost_ret (v := .tuple #[.agg (⟨E, S, F, B, m4, d4, L⟩ : BtD).cells, .bool false]) (by simp [results, Tryz.results42, go_sem, s0, s1, s2, s3]) rfl ?_
        exact fin_no (gR := gR) (z := (⟨E, S, F, B, m4, d4, L⟩ : BtD)) HgR.out HmX.out Hmz.out Hno.out
end Go.Proofs.YtnbamljaiahmdaaGreat
