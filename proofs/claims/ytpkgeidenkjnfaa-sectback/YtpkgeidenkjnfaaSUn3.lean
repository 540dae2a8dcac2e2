/-
  sect.Unpack: its walk.
-/
import Derived.Test.YtpkgeidenkjnfaaSUn2
namespace Go.Proofs.Ytpkgeidenkjnfaa
open Go Go.RowKit Go.Shelf

/-- The result is told to be none. -/
theorem un_none {w V : World} (hz : BtD.zero.In V w.heap.size) (ho : Mod (fun _ => False) w V) : ∃ V', stBat V w.heap.size BtD.zero = V' ∧ BtD.zero.In V' w.heap.size ∧ Mod (fun _ => False) w V' :=
  ⟨_, rfl, stBat_in hz _, ho.trans (stBat_mod _ _ _) (fun k hk e => by omega)⟩

set_option maxRecDepth 100000 in
set_option maxHeartbeats 4000000 in
theorem unpack_ok (w : World) (A : Option Addr) (n c : Nat) (xs : List UInt8) (h : Sl w A n c xs) :
    Calls Try.prog 21 #[.slice A n c] w fun e w' => UnAns w w' xs e (unpackM xs) ∧ Mod (fun _ => False) w w' := by
  have hxl := h.len
  obtain ⟨wA, hwA⟩ : ∃ wA, w.alloc (.cells BtD.zero.cells 24) = wA := ⟨_, rfl⟩
  have hmA : Mod (fun _ => False) w wA := by rw [← hwA]; exact (Mod.refl _ w).alloc _
  have hZ : BtD.zero.In wA w.heap.size := by rw [← hwA]; exact BtD.In.new w BtD.zero
  have hsA : wA.heap.size = w.heap.size + 1 := by rw [← hwA]; exact World.size_alloc _ _
  have HwA := Lib.hid hwA
  have HZ := Lib.hid hZ
  have HmA := Lib.hid hmA
  have HsA := Lib.hid hsA
  have Hxl := Lib.hid hxl
  by_cases hbad : n < 11 ∨ 248 < n
  · have Hu : Hid (unpackM xs = none) := by show _ = _; unfold unpackM; rw [if_pos (by rw [hxl]; exact hbad)]
    have r0 := hZ.c0
    have r1 := hZ.c1
    have r2 := hZ.c2
    have r3 := hZ.c3
    have z0 := hZ.fz 0
    have z1 := hZ.fz 1
    have z2 := hZ.fz 2
    have z3 := hZ.fz 3
    clear hxl h hwA hmA hZ hsA
    by_cases hlo : n < 11
    · have hd : decide ((n : Int) < 11) = true := by simp; omega
      clear hbad hlo
      go_enter Try.func21, Try.ntmps21
      go_wp2_with fail
      go_wp2
      rw [show w.alloc (.cells #[.int .i64 0, .int .i64 0, .int .i64 0, .slice none 0 0] 24) = wA from HwA.out]
      clear z0 z1 z2 z3
      refine bodyPost_ret (v := .tuple #[.agg BtD.zero.cells, .int .i64 7]) (by simp [results, Try.results21, go_sem, r0, r1, r2, r3]) rfl ?_
      exact ⟨by rw [Hu.out]; rfl, HmA.out⟩
    · have hd : decide ((n : Int) < 11) = false := by simp; omega
      have hd2 : decide ((248 : Int) < n) = true := by simp; omega
      clear hbad hlo
      go_enter Try.func21, Try.ntmps21
      go_wp2_with fail
      go_wp2
      rw [show w.alloc (.cells #[.int .i64 0, .int .i64 0, .int .i64 0, .slice none 0 0] 24) = wA from HwA.out]
      clear z0 z1 z2 z3
      refine bodyPost_ret (v := .tuple #[.agg BtD.zero.cells, .int .i64 7]) (by simp [results, Try.results21, go_sem, r0, r1, r2, r3]) rfl ?_
      exact ⟨by rw [Hu.out]; rfl, HmA.out⟩
  have hd : decide ((n : Int) < 11) = false := by simp; omega
  have hd2 : decide ((248 : Int) < n) = false := by simp; omega
  have Hn : Hid (11 ≤ n ∧ n ≤ 248) := by show _ ∧ _; omega
  have HR := Lib.hid (newReader_ok wA A n c xs (h.mod hmA (fun _ _ _ => id)) (by omega))
  have Hbad : Hid (¬ (xs.length < 11 ∨ 248 < xs.length)) := by rw [hxl]; exact hbad
  clear hbad h hxl hwA hmA hZ hsA
  go_enter Try.func21, Try.ntmps21
  go_wp2_with fail
  rw [show w.alloc (.cells #[.int .i64 0, .int .i64 0, .int .i64 0, .slice none 0 0] 24) = wA from HwA.out]
  clear HwA
  refine HR.out.mono ?_
  rintro e w1 ⟨rfl, hr1, hs1, hm1⟩
  rw [HsA.out] at hr1 hs1
  rw [HsA.out]
  have hrd1 : Rdr w1 (w.heap.size + 1 + 1) (w.heap.size + 1) xs := ⟨⟨_, n, n, hr1, by have := Hn.out; unfold maxLen; omega, rfl⟩, by omega⟩
  have HH := Lib.hid (readHead_ok w1 _ _ xs hrd1 (by omega) (by rw [Hxl.out]; exact Hn.out.1))
  have HZ1 := Lib.hid (HZ.out.keep hm1)
  have Hm1 := Lib.hid (HmA.out.trans hm1 (fun _ _ h => h))
  have Hs1 := Lib.hid hs1
  clear hd hd2 hr1 hs1 hm1 hrd1 HZ HmA HsA HR
  go_wp2_with fail
  refine HH.out.mono ?_
  rintro e w2 ⟨rfl, hrd2, hm2⟩
  obtain ⟨w3, hw3⟩ : ∃ w3, w2.alloc (.cells #[.int .i64 (hdE xs), .int .i64 (hdS xs), .int .i64 (hdF xs), .slice none 0 0] 24) = w3 := ⟨_, rfl⟩
  have hm3 : Mod (fun _ => False) w2 w3 := by rw [← hw3]; exact (Mod.refl _ w2).alloc _
  have hX3 : BtD.In w3 ⟨hdE xs, hdS xs, hdF xs, none, 0, 0, []⟩ w2.heap.size := by rw [← hw3]; exact BtD.In.new w2 ⟨hdE xs, hdS xs, hdF xs, none, 0, 0, []⟩
  have hs3 : w3.heap.size = w2.heap.size + 1 := by rw [← hw3]; exact World.size_alloc _ _
  have HX3 := Lib.hid hX3
  have HM := Lib.hid (mayHead_ok w3 ⟨hdE xs, hdS xs, hdF xs, none, 0, 0, []⟩)
  have hZ2 := HZ1.out.mod hm2 (by omega)
  have HZ3 := Lib.hid (hZ2.keep hm3)
  have Hm3 : Hid (Mod (fun _ => False) w w3) := (Hm1.out.trans hm2 (fun k hk e => by omega)).trans hm3 (fun _ _ h => h)
  have Hrd3 := Lib.hid (hrd2.keep hm3)
  have Hs3 := Lib.hid hs3
  have Hs2 : Hid (w.heap.size + 3 ≤ w2.heap.size) := by have := hm2.size; have := Hs1.out; show _ ≤ _; omega
  have Hw3 := Lib.hid hw3
  clear hrd2 hm2 hm3 hX3 hs3 hZ2 hw3 HH HZ1 Hm1 Hs1
  go_wp2_with fail
  rw [Hw3.out]
  clear Hw3
  refine HM.out.mono ?_
  rintro e w4 ⟨rfl, hm4⟩
  have HX4 := Lib.hid (HX3.out.keep hm4)
  have HZ4 := Lib.hid (HZ3.out.keep hm4)
  have Hm4 := Lib.hid (Hm3.out.trans hm4 (fun _ _ h => h))
  have Hrd4 := Lib.hid (Hrd3.out.keep hm4)
  have Hs4 : Hid (w2.heap.size < w4.heap.size) := by have := hm4.size; have := Hs3.out; show _ < _; omega
  clear hm4 HM HX3 HZ3 Hm3 Hrd3 Hs3
  obtain ⟨N, hN⟩ : ∃ N, hdN xs = N := ⟨_, rfl⟩
  have HN := Lib.hid hN
  rw [hN]
  clear hN
  have r0 := HZ4.out.c0
  have r1 := HZ4.out.c1
  have r2 := HZ4.out.c2
  have r3 := HZ4.out.c3
  have z0 := HZ4.out.fz 0
  have z1 := HZ4.out.fz 1
  have z2 := HZ4.out.fz 2
  have z3 := HZ4.out.fz 3
  cases hh : headOk (hdE xs) (hdS xs) (hdF xs) with
  | false =>
    have Hu : Hid (unpackM xs = none) := by show _ = _; unfold unpackM; rw [if_neg Hbad.out, hh]; rfl
    clear hh
    go_wp2
    change bodyPost _ _ _ _ _ (stBat w4 w.heap.size BtD.zero)
    obtain ⟨V, hV, hzV, hoV⟩ := un_none HZ4.out Hm4.out
    rw [hV]
    clear hV
    have s0 := hzV.c0
    have s1 := hzV.c1
    have s2 := hzV.c2
    have s3 := hzV.c3
    have HoV := Lib.hid hoV
    clear hzV hoV r0 r1 r2 r3 z0 z1 z2 z3
    refine bodyPost_ret (v := .tuple #[.agg BtD.zero.cells, .int .i64 7]) (by simp [results, Try.results21, go_sem, s0, s1, s2, s3]) rfl ?_
    exact ⟨by rw [Hu.out]; rfl, HoV.out⟩
  | true =>
  by_cases h60 : 60 < N
  · have Hu : Hid (unpackM xs = none) := by show _ = _; unfold unpackM; rw [if_neg Hbad.out, hh, HN.out, decide_eq_false (by omega : ¬ N ≤ 60)]; rfl
    have hd : decide ((60 : Int) < N) = true := by simp; omega
    clear hh h60
    go_wp2
    change bodyPost _ _ _ _ _ (stBat w4 w.heap.size BtD.zero)
    obtain ⟨V, hV, hzV, hoV⟩ := un_none HZ4.out Hm4.out
    rw [hV]
    clear hV
    have s0 := hzV.c0
    have s1 := hzV.c1
    have s2 := hzV.c2
    have s3 := hzV.c3
    have HoV := Lib.hid hoV
    clear hzV hoV r0 r1 r2 r3 z0 z1 z2 z3
    refine bodyPost_ret (v := .tuple #[.agg BtD.zero.cells, .int .i64 7]) (by simp [results, Try.results21, go_sem, s0, s1, s2, s3]) rfl ?_
    exact ⟨by rw [Hu.out]; rfl, HoV.out⟩
  have hd : decide ((60 : Int) < N) = false := by simp; omega
  have Hun : Hid (unpackM xs = match recsJ (xs.drop 11) N with | none => none | some (l, rest) => if rest.all (· == 0) then some l else none) := by
    show _ = _
    unfold unpackM
    rw [if_neg Hbad.out, hh, HN.out, decide_eq_true (by omega : N ≤ 60)]
    rfl
  have hN60 : (N : Int) ≤ 60 := by omega
  have hus : US w w4.heap.size (w.heap.size + 1 + 1) (w.heap.size + 1) w2.heap.size (hdE xs) (hdS xs) (hdF xs) w4 none 0 0 [] (xs.drop 11) :=
    ⟨Hrd4.out, HX4.out, HZ4.out, OwN.nil _ _ _ _, by simp, Hm4.out, by omega, by omega, by have := Hs2.out; omega, Hs4.out, Nat.le_refl _⟩
  have Hus := Lib.hid hus
  clear hh h60 hus HX4 HZ4 Hm4 Hrd4 r0 r1 r2 r3 z0 z1 z2 z3
  go_wp2_with fail
  go_loopw [34] (fun i wr => ∃ (j m d : Nat) (B : Option Addr) (L : List RcD) (rest : List UInt8), j ≤ N ∧ i = .int .i64 j ∧ recsJ (xs.drop 11) j = some (L.map RcD.p, rest) ∧ m = j ∧ US w w4.heap.size (w.heap.size + 1 + 1) (w.heap.size + 1) w2.heap.size (hdE xs) (hdS xs) (hdF xs) wr B m d L rest) (fun i _ => N - (intOf i).toNat)
  case atStart => exact ⟨0, 0, 0, none, [], xs.drop 11, by omega, rfl, rfl, rfl, Hus.out⟩
  case round =>
    obtain ⟨j, m, d, B, L, rest, hj, rfl, hrec, hmj, hS⟩ := hrel
    have Hrec := Lib.hid hrec
    have HS := Lib.hid hS
    have Hmj := Lib.hid hmj
    have hm60 : (m : Int) ≤ 60 := by omega
    clear hrec hS hmj Hus
    by_cases hlt : j < N
    · cases hr : recR rest with
      | none =>
        have Hu : Hid (unpackM xs = none) := by show _ = _; rw [Hun.out, recsJ_no Hrec.out hr N hlt]
        have Hno := Lib.hid (readRec_no wr _ _ rest HS.out.rd hr)
        clear hr
        go_wp2_with fail
        refine Hno.out.mono ?_
        rintro e w5 ⟨y, er, rfl, her, hm5⟩
        have hb : (er != 0) = true := by simpa using her
        have hma : Mod (fun _ => False) w5 (w5.alloc (.cells y.cells 45)) := (Mod.refl _ w5).alloc _
        have hZ6 := (HS.out.res.mod hm5 (by omega)).keep hma
        have hm6 : Mod (fun _ => False) w (w5.alloc (.cells y.cells 45)) := (HS.out.old.trans hm5 (fun k hk e => by omega)).trans hma (fun _ _ h => h)
        have r0 := hZ6.c0
        have r1 := hZ6.c1
        have r2 := hZ6.c2
        have r3 := hZ6.c3
        have z0 := hZ6.fz 0
        have z1 := hZ6.fz 1
        have z2 := hZ6.fz 2
        have z3 := hZ6.fz 3
        have HZ6 := Lib.hid hZ6
        have Hm6 := Lib.hid hm6
        clear her hm5 hma hZ6 hm6 Hno
        obtain ⟨w6, hw6⟩ : ∃ w6, w5.alloc (.cells y.cells 45) = w6 := ⟨_, rfl⟩
        rw [hw6] at r0 r1 r2 r3 z0 z1 z2 z3 HZ6 Hm6
        go_wp2
        change bodyPost _ _ _ _ _ (stBat w6 w.heap.size BtD.zero)
        obtain ⟨V, hV, hzV, hoV⟩ := un_none HZ6.out Hm6.out
        rw [hV]
        clear hV
        have s0 := hzV.c0
        have s1 := hzV.c1
        have s2 := hzV.c2
        have s3 := hzV.c3
        have HoV := Lib.hid hoV
        clear hzV hoV r0 r1 r2 r3 z0 z1 z2 z3
        refine bodyPost_ret (v := .tuple #[.agg BtD.zero.cells, .int .i64 7]) (by simp [results, Try.results21, go_sem, s0, s1, s2, s3]) rfl ?_
        exact ⟨by rw [Hu.out]; rfl, HoV.out⟩
      | some rr =>
        obtain ⟨r, rest'⟩ := rr
        have Hrec2 := Lib.hid (recsJ_yes Hrec.out hr)
        have Hyes := Lib.hid (readRec_yes wr _ _ rest HS.out.rd (by have := HS.out.l1; have := HS.out.l2; have := HS.out.rd.lt; omega) r rest' hr)
        clear hr
        go_wp2_with fail
        refine Hyes.out.mono ?_
        rintro e w5 ⟨y, rfl, hy, hyo, hyv, hrd5, hm5⟩
        have hS5 := HS.out.turn hm5 hrd5
        have hyo5 := Own.rebase hyo HS.out.l5
        have hyv5 := Own.rebase hyv HS.out.l5
        obtain ⟨w6, hw6⟩ : ∃ w6, w5.alloc (.cells y.cells 45) = w6 := ⟨_, rfl⟩
        have hma : Mod (fun _ => False) w5 w6 := by rw [← hw6]; exact (Mod.refl _ w5).alloc _
        have hI6 : y.In w6 w5.heap.size := by rw [← hw6]; exact RcD.In.new w5 y
        have hS6 := hS5.keep hma
        have hyo6 := OwV.mod hyo5 hma (fun _ _ => id)
        have hyv6 := OwV.mod hyv5 hma (fun _ _ => id)
        have x3 := hS6.box.c3
        have hmb : Mod (fun _ => False) w6 (w6.alloc (.cells y.cells 45)) := (Mod.refl _ w6).alloc _
        have hS7 := hS6.keep hmb
        have HS7 := Lib.hid hS7
        have Hyo7 : Hid (y.o.Own (w6.alloc (.cells y.cells 45)) w4.heap.size) := OwV.mod hyo6 hmb (fun _ _ => id)
        have Hyv7 : Hid (y.v.Own (w6.alloc (.cells y.cells 45)) w4.heap.size) := OwV.mod hyv6 hmb (fun _ _ => id)
        have hown := hS7.row
        have hsrc := SrcN.rec1 w6 y 45
        have hl5 := hS7.l5
        have Hy := Lib.hid hy
        have p0 := hI6.kind
        have p1 := hI6.num (i := 1) (by omega) (by omega)
        have p2 := hI6.num (i := 2) (by omega) (by omega)
        have p3 := hI6.num (i := 3) (by omega) (by omega)
        have p4 := hI6.num (i := 4) (by omega) (by omega)
        have p5 := hI6.num (i := 5) (by omega) (by omega)
        have p6 := hI6.num (i := 6) (by omega) (by omega)
        have p7 := hI6.num (i := 7) (by omega) (by omega)
        have p8 := hI6.num (i := 8) (by omega) (by omega)
        have p9 := hI6.num (i := 9) (by omega) (by omega)
        have p10 := hI6.c10
        have p11 := hI6.c11
        have p12 := hI6.c12
        have p13 := hI6.c13
        clear hy hyo hyv hrd5 hm5 hS5 hyo5 hyv5 hma hI6 hS6 hyo6 hyv6 hmb hS7 Hyes
        go_wp2_with (at_builtin; refine wpList_appN (.tmp 45) (.tmp 47) recElem rfl rfl rfl rfl hown hsrc (by omega) (by unfold maxLen; omega) hl5 ?_)
        intro B8 d8 w8 hown8 hg8 hat8
        have h9 := HS7.out.push Hyo7.out Hyv7.out hown8 hg8
        have hB : ∀ k, blkOf B = some k → w4.heap.size ≤ k := fun k hk => (hown.lt k hk).1
        have hx8 : BtD.In w8 ⟨hdE xs, hdS xs, hdF xs, B, m, d, L⟩ w2.heap.size := (hg8.block _ HS7.out.box.lt (fun e => by have := hB _ e.symm; have := Hs4.out; omega)).trans HS7.out.box
        have y3 := hx8.c3
        have yz := hx8.fz 3
        have H9 := Lib.hid h9
        clear hw6 h9 hB hx8 hown8 hg8 hat8 hown hsrc hl5 x3 HS7 Hyo7 Hyv7 HS p0 p1 p2 p3 p4 p5 p6 p7 p8 p9 p10 p11 p12 p13
        go_wp2
        go_roundw
        case rel => exact ⟨j + 1, m + 1, d8, B8, L ++ [y], rest', by omega, by go_num, by rw [Hrec2.out, List.map_append, ← Hy.out]; rfl, by rw [Hmj.out], H9.out⟩
        case measure => simp [intOf]; omega
    · have Hj : Hid (j = N) := by show _ = _; omega
      have hrl : rest.length ≤ 1000 := by
        have h1 := recsJ_len Hrec.out
        have h2 := Hxl.out
        have h3 := Hn.out
        rw [List.length_drop] at h1
        omega
      have HO := Lib.hid (onlyZeros_ok wr _ _ rest HS.out.rd hrl)
      have Hu2 : Hid (unpackM xs = if rest.all (· == 0) then some (L.map RcD.p) else none) := by show _ = _; rw [Hun.out, ← Hj.out, Hrec.out]
      clear hrl
      go_wp2_with fail
      refine HO.out.mono ?_
      rintro e w5 ⟨rfl, hm5⟩
      have hZ5 := HS.out.res.mod hm5 (by omega)
      have HZ5 := Lib.hid hZ5
      have Hm5 : Hid (Mod (fun _ => False) w w5) := HS.out.old.trans hm5 (fun k hk e => by omega)
      have hb5 := HS.out.box.mod hm5 (by have := HS.out.l3; omega)
      have Hrow5 : Hid (OwN w5 w4.heap.size 45 14 B m d (recsC L)) := HS.out.row.mod hm5 (fun k hk e => by have := (HS.out.row.lt k hk).1; have := HS.out.l3; have := HS.out.l4; omega)
      have Hown5 : Hid (∀ y ∈ L, y.o.Own w5 w4.heap.size ∧ y.v.Own w5 w4.heap.size) := fun y hy => by
        obtain ⟨a, b⟩ := HS.out.own y hy
        exact ⟨OwV.mod a hm5 (fun k hk e => by have := (OwV.lt a k hk).1; have := HS.out.l3; have := HS.out.l4; omega), OwV.mod b hm5 (fun k hk e => by have := (OwV.lt b k hk).1; have := HS.out.l3; have := HS.out.l4; omega)⟩
      have x0 := hb5.c0
      have x1 := hb5.c1
      have x2 := hb5.c2
      have x3 := hb5.c3
      have r0 := hZ5.c0
      have r1 := hZ5.c1
      have r2 := hZ5.c2
      have r3 := hZ5.c3
      have z0 := hZ5.fz 0
      have z1 := hZ5.fz 1
      have z2 := hZ5.fz 2
      have z3 := hZ5.fz 3
      clear hZ5 hm5 hb5 HO
      cases hz : rest.all (· == 0) with
      | false =>
        have Hu : Hid (unpackM xs = none) := by show _ = _; rw [Hu2.out, hz]; rfl
        clear hz
        go_wp2
        change bodyPost _ _ _ _ _ (stBat w5 w.heap.size BtD.zero)
        obtain ⟨V, hV, hzV, hoV⟩ := un_none HZ5.out Hm5.out
        rw [hV]
        clear hV
        have s0 := hzV.c0
        have s1 := hzV.c1
        have s2 := hzV.c2
        have s3 := hzV.c3
        have HoV := Lib.hid hoV
        clear hzV hoV r0 r1 r2 r3 z0 z1 z2 z3
        refine bodyPost_ret (v := .tuple #[.agg BtD.zero.cells, .int .i64 7]) (by simp [results, Try.results21, go_sem, s0, s1, s2, s3]) rfl ?_
        exact ⟨by rw [Hu.out]; rfl, HoV.out⟩
      | true =>
        have Hu : Hid (unpackM xs = some (L.map RcD.p)) := by show _ = _; rw [Hu2.out, hz]; rfl
        have Hlo : Hid (w.heap.size < w4.heap.size) := by have := HS.out.l1; have := HS.out.l2; have := HS.out.l3; have := HS.out.l4; show _ < _; omega
        clear hz
        go_wp2
        change bodyPost _ _ _ _ _ (stBat w5 w.heap.size ⟨hdE xs, hdS xs, hdF xs, B, m, d, L⟩)
        have h6 := stBat_in HZ5.out ⟨hdE xs, hdS xs, hdF xs, B, m, d, L⟩
        have hm6 := stBat_mod w5 w.heap.size ⟨hdE xs, hdS xs, hdF xs, B, m, d, L⟩
        have Hm6 : Hid (Mod (fun _ => False) w (stBat w5 w.heap.size ⟨hdE xs, hdS xs, hdF xs, B, m, d, L⟩)) := Hm5.out.trans hm6 (fun k hk e => by omega)
        have Hrow6 := Lib.hid ((Hrow5.out.mod hm6 (fun k hk e => by have := (Hrow5.out.lt k hk).1; have := Hlo.out; omega)).rebase (Nat.le_of_lt Hlo.out))
        have Hown6 : Hid (∀ y ∈ L, y.o.Own (stBat w5 w.heap.size ⟨hdE xs, hdS xs, hdF xs, B, m, d, L⟩) w.heap.size ∧ y.v.Own (stBat w5 w.heap.size ⟨hdE xs, hdS xs, hdF xs, B, m, d, L⟩) w.heap.size) := fun y hy => by
          obtain ⟨a, b⟩ := Hown5.out y hy
          exact ⟨Own.rebase (OwV.mod a hm6 (fun k hk e => by have := (OwV.lt a k hk).1; have := Hlo.out; omega)) (Nat.le_of_lt Hlo.out), Own.rebase (OwV.mod b hm6 (fun k hk e => by have := (OwV.lt b k hk).1; have := Hlo.out; omega)) (Nat.le_of_lt Hlo.out)⟩
        generalize stBat w5 w.heap.size ⟨hdE xs, hdS xs, hdF xs, B, m, d, L⟩ = w6 at *
        have s0 := h6.c0
        have s1 := h6.c1
        have s2 := h6.c2
        have s3 := h6.c3
        clear x0 x1 x2 x3 r0 r1 r2 r3 z0 z1 z2 z3 h6 hm6
        refine bodyPost_ret (v := .tuple #[.agg #[.int .i64 (hdE xs), .int .i64 (hdS xs), .int .i64 (hdF xs), .slice B m d], .int .i64 0]) (by simp [results, Try.results21, go_sem, s0, s1, s2, s3]) rfl ?_
        exact ⟨by rw [Hu.out]; exact ⟨B, m, d, L, rfl, Hrow6.out, Hown6.out, rfl⟩, Hm6.out⟩
end Go.Proofs.Ytpkgeidenkjnfaa
