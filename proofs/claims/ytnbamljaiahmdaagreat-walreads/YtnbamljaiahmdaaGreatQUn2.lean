/-
  bobbinref07.Unpack: its walk.
  bobbinref07.Unpack.
-/
import Derived.Test.YtnbamljaiahmdaaGreatQUnB
import Derived.Test.YtnbamljaiahmdaaGreatQRfD2
import Derived.Test.YtnbamljaiahmdaaGreatQU2
namespace Go.Proofs.YtnbamljaiahmdaaGreat
open Go Go.RowKit Go.Shelf

theorem hdN_at {xs : List UInt8} (h : 10 < xs.length) : hdN xs = (xs.getD 10 0).toNat := by
  have e : (xs.drop 10).take 1 = [xs[10]] := by rw [List.drop_eq_getElem_cons h]; rfl
  have e2 : xs.getD 10 0 = xs[10] := by rw [List.getD_eq_getElem?_getD, List.getElem?_eq_getElem h]; rfl
  unfold hdN
  rw [e, e2]
  show (xs[10]).toNat + 256 * 0 = _
  omega
theorem Sl.getc {w : World} {b o n c : Nat} {xs : List UInt8} (h : Sl w (some ⟨b, o, none⟩) n c xs) {j : Nat} (hj : j < n) : w.cell? ⟨b, o + j, none⟩ = some (.int .u8 ((xs.getD j 0).toNat : Int)) := by
  obtain ⟨b', o', e, hc⟩ := h.2.2 (by omega)
  injection e with e
  injection e with e1 e2
  subst e1; subst e2
  exact hc j hj
theorem zeros_all {xs : List UInt8} {k : Nat} (h : ∀ q, k ≤ q → q < xs.length → xs.getD q 0 = 0) : (xs.drop k).all (· == 0) = true := by
  rw [List.all_eq_true]
  intro x hx
  obtain ⟨i, hi, rfl⟩ := List.mem_iff_getElem.1 hx
  have hl := hi
  rw [List.length_drop] at hl
  have := h (k + i) (by omega) (by omega)
  rw [List.getD_eq_getElem?_getD, List.getElem?_eq_getElem (by omega)] at this
  rw [List.getElem_drop]
  simpa using this
theorem zeros_not {xs : List UInt8} {k q : Nat} (h1 : k ≤ q) (h2 : q < xs.length) (h : xs.getD q 0 ≠ 0) : (xs.drop k).all (· == 0) = false := by
  cases ha : (xs.drop k).all (· == 0) with
  | false => rfl
  | true =>
    exfalso
    rw [List.all_eq_true] at ha
    have hm : xs[q] ∈ xs.drop k := by
      rw [List.mem_iff_getElem]
      exact ⟨q - k, by rw [List.length_drop]; omega, by rw [List.getElem_drop]; congr 1; omega⟩
    have := ha _ hm
    apply h
    rw [List.getD_eq_getElem?_getD, List.getElem?_eq_getElem h2]
    simpa using this
def DecOk : Prop := ∀ (w : World) (A : Option Addr) (n c : Nat) (xs : List UInt8), Sl w A n c xs → n ≤ 1000000 → c ≤ maxLen →
    Calls Tryz.prog 47 #[.slice A n c] w fun e w' => RAns w w' e (decode xs) ∧ Mod (fun _ => False) w w'

set_option maxRecDepth 100000 in
set_option maxHeartbeats 8000000 in
theorem runpack_short (w : World) (A : Option Addr) (n c : Nat) (xs : List UInt8) (h : Sl w A n c xs) (hbad : n < 11 ∨ 248 < n) :
    Calls Tryz.prog 27 #[.slice A n c] w fun e w' => UnAns w w' xs e (unpackM xs) ∧ Mod (fun _ => False) w w' := by
  have hxl := h.len
  obtain ⟨wA, hwA⟩ : ∃ wA, w.alloc (.cells BtD.zero.cells 68) = wA := ⟨_, rfl⟩
  have hmA : Mod (fun _ => False) w wA := by rw [← hwA]; exact (Mod.refl _ w).alloc _
  have hZ : BtD.zero.In wA w.heap.size := by rw [← hwA]; exact BtD.In.new w BtD.zero
  have HwA := Lib.hid hwA
  have HmA := Lib.hid hmA
  have Hu : Hid (unpackM xs = none) := by show _ = _; unfold unpackM; rw [if_pos (by rw [hxl]; exact hbad)]
  have r0 := hZ.c0
  have r1 := hZ.c1
  have r2 := hZ.c2
  have r3 := hZ.c3
  have z0 := hZ.fz 0
  have z1 := hZ.fz 1
  have z2 := hZ.fz 2
  have z3 := hZ.fz 3
  clear hxl h hwA hmA hZ
  by_cases hlo : n < 11
  · have hd : decide ((n : Int) < 11) = true := by simp; omega
    clear hbad hlo
    go_enter Tryz.func27, Tryz.ntmps27
    go_wp2_with fail
    go_wp2
    rw [show w.alloc (.cells #[.int .i64 0, .int .i64 0, .int .i64 0, .slice none 0 0] 68) = wA from HwA.out]
    clear z0 z1 z2 z3
    refine bodyPost_ret (v := .tuple #[.agg BtD.zero.cells, .int .i64 7]) (by simp [results, Tryz.results27, go_sem, r0, r1, r2, r3]) rfl ?_
    exact ⟨by rw [Hu.out]; rfl, HmA.out⟩
  · have hd : decide ((n : Int) < 11) = false := by simp; omega
    have hd2 : decide ((248 : Int) < n) = true := by simp; omega
    clear hbad hlo
    go_enter Tryz.func27, Tryz.ntmps27
    go_wp2_with fail
    go_wp2
    rw [show w.alloc (.cells #[.int .i64 0, .int .i64 0, .int .i64 0, .slice none 0 0] 68) = wA from HwA.out]
    clear z0 z1 z2 z3
    refine bodyPost_ret (v := .tuple #[.agg BtD.zero.cells, .int .i64 7]) (by simp [results, Tryz.results27, go_sem, r0, r1, r2, r3]) rfl ?_
    exact ⟨by rw [Hu.out]; rfl, HmA.out⟩

set_option maxRecDepth 100000 in
set_option maxHeartbeats 8000000 in
theorem runpack_long (HD : Hid DecOk) (w : World) (A : Option Addr) (n c : Nat) (xs : List UInt8) (h : Sl w A n c xs) (hc : c ≤ maxLen) (hlo : 11 ≤ n) (hhi : n ≤ 248) :
    Calls Tryz.prog 27 #[.slice A n c] w fun e w' => UnAns w w' xs e (unpackM xs) ∧ Mod (fun _ => False) w w' := by
  obtain ⟨b, o, rfl, hb⟩ := h.lt (by omega)
  have hxl := h.len
  have hcap := h.cap
  obtain ⟨wA, hwA⟩ : ∃ wA, w.alloc (.cells BtD.zero.cells 68) = wA := ⟨_, rfl⟩
  have hmA : Mod (fun _ => False) w wA := by rw [← hwA]; exact (Mod.refl _ w).alloc _
  have hZ : BtD.zero.In wA w.heap.size := by rw [← hwA]; exact BtD.In.new w BtD.zero
  have hsA : wA.heap.size = w.heap.size + 1 := by rw [← hwA]; exact World.size_alloc _ _
  have HwA := Lib.hid hwA
  have HZ := Lib.hid hZ
  have HmA := Lib.hid hmA
  have HsA := Lib.hid hsA
  have Hxl := Lib.hid hxl
  have Hc := Lib.hid hc
  have Hh := Lib.hid h
  have hd : decide ((n : Int) < 11) = false := by simp; omega
  have hd2 : decide ((248 : Int) < n) = false := by simp; omega
  have Hn : Hid (11 ≤ n ∧ n ≤ 248 ∧ n ≤ c) := by show _ ∧ _; omega
  have hn2 : (2 : Int) ≤ n := by omega
  have hc2 : (2 : Int) ≤ c := by omega
  have hn6 : (6 : Int) ≤ n := by omega
  have hc6 : (6 : Int) ≤ c := by omega
  have hnc : (n : Int) ≤ c := by omega
  have he2 : ¬ c = 2 := by omega
  have he6 : ¬ c = 6 := by omega
  have hA := h.mod hmA (fun _ _ _ => id)
  have HG1 := Lib.hid (refGet_ok2 wA _ n c xs hA hc (by omega))
  have HT2 : Hid (Sl wA (some ⟨b, o + 2, none⟩) (n - 2) (c - 2) (xs.drop 2)) := by have := (hA.tail 2 (by omega)).1; rw [if_neg he2] at this; exact this
  have HT6 : Hid (Sl wA (some ⟨b, o + 6, none⟩) (n - 6) (c - 6) (xs.drop 6)) := by have := (hA.tail 6 (by omega)).1; rw [if_neg he6] at this; exact this
  clear h hb hxl hcap hwA hmA hZ hsA hA hlo hhi hc
  go_enter Tryz.func27, Tryz.ntmps27
  go_wp2_with fail
  rw [show w.alloc (.cells #[.int .i64 0, .int .i64 0, .int .i64 0, .slice none 0 0] 68) = wA from HwA.out]
  clear HwA
  refine HG1.out.mono ?_
  rintro e w1 ⟨A1, q1, rfl, _, rfl⟩
  clear HG1
  go_wp2_with fail
  have hmx : c - 2 ≤ maxLen := by have := Hc.out; omega
  refine (refGet_ok4 _ _ (n - 2) (c - 2) _ (Sl.drewN HT2.out q1) hmx (by have := Hn.out; omega)).mono ?_
  rintro e w2 ⟨A2, q2, rfl, _, rfl⟩
  clear hmx HT2
  rw [World.drewN_drewN]
  go_wp2_with fail
  have hmx : c - 6 ≤ maxLen := by have := Hc.out; omega
  refine (refGet_ok4 _ _ (n - 6) (c - 6) _ (Sl.drewN HT6.out (q1 + q2)) hmx (by have := Hn.out; omega)).mono ?_
  rintro e w3 ⟨A3, q3, rfl, _, rfl⟩
  clear hmx HT6
  rw [World.drewN_drewN]
  have HE : Hid ((unle (xs.take 2) : Int) = hdE xs) := rfl
  have HS : Hid ((unle ((xs.drop 2).take 4) : Int) = hdS xs) := rfl
  have HF : Hid ((unle ((xs.drop 6).take 4) : Int) = hdF xs) := rfl
  rw [HE.out, HS.out, HF.out]
  have hm2 : Mod (fun _ => False) wA (wA.drewN (q1 + q2 + q3)) := (Mod.refl _ wA).drewN _
  have hs2 : (wA.drewN (q1 + q2 + q3)).heap.size = wA.heap.size := rfl
  generalize wA.drewN (q1 + q2 + q3) = w2 at *
  obtain ⟨w4, hw4⟩ : ∃ w4, w2.alloc (.cells #[.int .i64 (hdE xs), .int .i64 (hdS xs), .int .i64 (hdF xs), .slice none 0 0] 68) = w4 := ⟨_, rfl⟩
  have hm3 : Mod (fun _ => False) w2 w4 := by rw [← hw4]; exact (Mod.refl _ w2).alloc _
  have hX3 : BtD.In w4 ⟨hdE xs, hdS xs, hdF xs, none, 0, 0, []⟩ w2.heap.size := by rw [← hw4]; exact BtD.In.new w2 ⟨hdE xs, hdS xs, hdF xs, none, 0, 0, []⟩
  have hs3 : w4.heap.size = w2.heap.size + 1 := by rw [← hw4]; exact World.size_alloc _ _
  have hs4 := HsA.out
  have Hus : Hid (UR w w4.heap.size w2.heap.size (hdE xs) (hdS xs) (hdF xs) w4 none 0 0 []) :=
    ⟨hX3, (HZ.out.keep hm2).keep hm3, OwN.nil _ _ _ _, by simp, (HmA.out.trans hm2 (fun _ _ h => h)).trans hm3 (fun _ _ h => h), by omega, by omega, Nat.le_refl _⟩
  obtain ⟨N, hN⟩ : ∃ N, hdN xs = N := ⟨_, rfl⟩
  have HN := Lib.hid hN
  have Hw4 := Lib.hid hw4
  clear hN hm2 hs2 hm3 hX3 hs3 hs4 hw4 HmA HZ HsA HE HS HF
  go_wp2_with fail
  rw [Hw4.out]
  clear Hw4
  have hN255 : (N : Int) ≤ 255 := by
    have := HN.out
    rw [hdN_at (by have := Hxl.out; have := Hn.out; omega)] at this
    have := (xs.getD 10 0).toNat_lt
    omega
  clear hd hd2 hn2 hc2 hn6 hc6 he2 he6
  go_wp2_with fail
  go_loopw [14, 15] (fun a i wr => ∃ (j m d at_ : Nat) (B : Option Addr) (L : List RcD), j ≤ N ∧ i = .int .i64 j ∧ a = .int .i64 at_ ∧ recsJ (xs.drop 11) j = some (L.map RcD.p, xs.drop at_) ∧ m = j ∧ at_ ≤ n ∧ UR w w4.heap.size w2.heap.size (hdE xs) (hdS xs) (hdF xs) wr B m d L) (fun _ i _ => N - (intOf i).toNat)
  case atStart => exact ⟨0, 0, 0, 11, none, [], by omega, rfl, rfl, rfl, rfl, by have := Hn.out; omega, Hus.out⟩
  case round =>
    obtain ⟨j, m, d, at_, B, L, hj, rfl, rfl, hrec, hmj, hat, hS⟩ := hrel
    have Hrec := Lib.hid hrec
    have HS := Lib.hid hS
    have Hmj := Lib.hid hmj
    have hm60 : (m : Int) ≤ 255 := by omega
    have hsl := Hh.out.mod hS.old (fun _ _ _ => id)
    have c10 : wr.cell? ⟨b, o + 10, none⟩ = some (.int .u8 (N : Int)) := by
      rw [← HN.out, hdN_at (by have := Hxl.out; have := Hn.out; omega)]
      exact hsl.getc (by have := Hn.out; omega)
    have hn11 : (11 : Int) ≤ n := by have := Hn.out; omega
    have hat2 : (at_ : Int) ≤ n := by omega
    have hat3 : (at_ : Int) ≤ c := by omega
    have Hsl := Lib.hid hsl
    clear hrec hS hmj Hus hsl
    by_cases hlt : j < N
    · cases ht : takeM (xs.drop at_) with
      | none =>
        have Hu : Hid (unpackM xs = none) := by show _ = _; exact unpack_not (by rw [HN.out]; exact recsJ_no Hrec.out (recR_no ht) N hlt)
        have hno : ∃ A', Hid ((if c = at_ then some ⟨b, o, none⟩ else some ⟨b, o + at_, none⟩ : Option Addr) = A' ∧ Sl wr A' (n - at_) (c - at_) (xs.drop at_)) := ⟨_, rfl, (Hsl.out.tail at_ hat).1⟩
        obtain ⟨A', HA⟩ := hno
        have Hno := Lib.hid (refTake_short wr A' (n - at_) (c - at_) (xs.drop at_) HA.out.2 (by have := takeM_no ht; rw [List.length_drop, Hxl.out] at this; exact this))
        clear ht
        have hZ6 := HS.out.res
        have r0 := hZ6.c0
        have r1 := hZ6.c1
        have r2 := hZ6.c2
        have r3 := hZ6.c3
        have z0 := hZ6.fz 0
        have z1 := hZ6.fz 1
        have z2 := hZ6.fz 2
        have z3 := hZ6.fz 3
        clear hZ6
        by_cases hca : c = at_
        · have hA' : A' = some ⟨b, o, none⟩ := by have := HA.out.1; rw [if_pos hca] at this; exact this.symm
          subst hA'
          subst hca
          rw [Nat.sub_self] at Hno
          clear HA
          go_wp2_with fail
          refine Hno.out.mono ?_
          rintro e w5 ⟨rfl, rfl⟩
          clear Hno
          go_wp2
          change bodyPost _ _ _ _ _ (stBat wr w.heap.size BtD.zero)
          obtain ⟨V, hV, hzV, hoV⟩ := un_none HS.out.res HS.out.old
          rw [hV]
          clear hV
          have s0 := hzV.c0
          have s1 := hzV.c1
          have s2 := hzV.c2
          have s3 := hzV.c3
          have HoV := Lib.hid hoV
          clear hzV hoV r0 r1 r2 r3 z0 z1 z2 z3
          refine bodyPost_ret (v := .tuple #[.agg BtD.zero.cells, .int .i64 7]) (by simp [results, Tryz.results27, go_sem, s0, s1, s2, s3]) rfl ?_
          exact ⟨by rw [Hu.out]; rfl, HoV.out⟩
        · have hA' : A' = some ⟨b, o + at_, none⟩ := by have := HA.out.1; rw [if_neg hca] at this; exact this.symm
          subst hA'
          go_wp2_with fail
          refine Hno.out.mono ?_
          rintro e w5 ⟨rfl, rfl⟩
          clear Hno
          go_wp2
          change bodyPost _ _ _ _ _ (stBat wr w.heap.size BtD.zero)
          obtain ⟨V, hV, hzV, hoV⟩ := un_none HS.out.res HS.out.old
          rw [hV]
          clear hV
          have s0 := hzV.c0
          have s1 := hzV.c1
          have s2 := hzV.c2
          have s3 := hzV.c3
          have HoV := Lib.hid hoV
          clear hzV hoV r0 r1 r2 r3 z0 z1 z2 z3
          refine bodyPost_ret (v := .tuple #[.agg BtD.zero.cells, .int .i64 7]) (by simp [results, Tryz.results27, go_sem, s0, s1, s2, s3]) rfl ?_
          exact ⟨by rw [Hu.out]; rfl, HoV.out⟩
      | some p =>
        obtain ⟨bb, rest'⟩ := p
        obtain ⟨hr', hle, hbb, hx0⟩ := take_drop ht
        rw [Hxl.out] at hle
        have hca : ¬ c = at_ := by omega
        have hrR := recR_of ht
        have slT : Sl wr (some ⟨b, o + at_, none⟩) (n - at_) (c - at_) (xs.drop at_) := by have := (Hsl.out.tail at_ hat).1; rw [if_neg hca] at this; exact this
        have HTk := Lib.hid (refTake_ok wr _ (n - at_) (c - at_) (xs.drop at_) slT (by have := Hc.out; omega) (by omega) bb.length hx0 (by omega))
        rw [← hbb] at HTk
        have HrR := Lib.hid hrR
        have Hr' := Lib.hid hr'
        have Hle := Lib.hid hle
        have hbl : (bb.length : Int) ≤ 248 := by have := Hn.out; omega
        have hle2 : (at_ : Int) + 1 + bb.length ≤ n := by omega
        have hn248 : (n : Int) ≤ 248 := by have := Hn.out; omega
        clear ht hbb hx0 slT hrR hr' hle
        go_wp2_with fail
        refine HTk.out.mono ?_
        rintro e w5 ⟨A5, c5, A6, rfl, ⟨ho5, hm5⟩, _⟩
        have hS5 := HS.out.keep hm5
        have hdec := HD.out w5 A5 bb.length c5 bb ho5.sl (by omega) ho5.capM
        have Hdec := Lib.hid hdec
        have HS5 := Lib.hid hS5
        clear HTk ho5 hm5 hS5 hdec
        go_wp2_with fail
        refine Hdec.out.mono ?_
        rintro e w6 ⟨⟨y, rfl, hy, hyo, hyv⟩, hm6⟩
        have hS6 := HS5.out.keep hm6
        have hyo5 := Own.rebase hyo HS5.out.l3
        have hyv5 := Own.rebase hyv HS5.out.l3
        clear hyo hyv hm6 HS5 HS Hdec Hsl c10
        obtain ⟨w7, hw7⟩ : ∃ w7, w6.alloc (.cells y.cells 47) = w7 := ⟨_, rfl⟩
        have hma : Mod (fun _ => False) w6 w7 := by rw [← hw7]; exact (Mod.refl _ w6).alloc _
        have hI7 : y.In w7 w6.heap.size := by rw [← hw7]; exact RcD.In.new w6 y
        have hS7 := hS6.keep hma
        have hyo7 := OwV.mod hyo5 hma (fun _ _ => id)
        have hyv7 := OwV.mod hyv5 hma (fun _ _ => id)
        have Hw7 := Lib.hid hw7
        have HS7 := Lib.hid hS7
        by_cases h0 : (decode bb).1 = 0
        · obtain ⟨r, hr⟩ : ∃ r, (decode bb).2 = r := ⟨_, rfl⟩
          have Hrec2 := Lib.hid (recsJ_yes Hrec.out (show recR (xs.drop at_) = some (r, rest') by rw [HrR.out, if_pos h0, hr]))
          rw [h0]
          have Hy : Hid (y.p = r) := by rw [hr] at hy; exact hy
          have x3 := hS7.box.c3
          have hmb : Mod (fun _ => False) w7 (w7.alloc (.cells y.cells 47)) := (Mod.refl _ w7).alloc _
          have hS8 := hS7.keep hmb
          have HS8 := Lib.hid hS8
          have Hyo8 : Hid (y.o.Own (w7.alloc (.cells y.cells 47)) w4.heap.size) := OwV.mod hyo7 hmb (fun _ _ => id)
          have Hyv8 : Hid (y.v.Own (w7.alloc (.cells y.cells 47)) w4.heap.size) := OwV.mod hyv7 hmb (fun _ _ => id)
          have hown := hS8.row
          have hsrc := SrcN.rec1 w7 y 47
          have hl8 := hS8.l3
          have Hl2 := Lib.hid hS8.l2
          have p0 := hI7.kind
          have p1 := hI7.num (i := 1) (by omega) (by omega)
          have p2 := hI7.num (i := 2) (by omega) (by omega)
          have p3 := hI7.num (i := 3) (by omega) (by omega)
          have p4 := hI7.num (i := 4) (by omega) (by omega)
          have p5 := hI7.num (i := 5) (by omega) (by omega)
          have p6 := hI7.num (i := 6) (by omega) (by omega)
          have p7 := hI7.num (i := 7) (by omega) (by omega)
          have p8 := hI7.num (i := 8) (by omega) (by omega)
          have p9 := hI7.num (i := 9) (by omega) (by omega)
          have p10 := hI7.c10
          have p11 := hI7.c11
          have p12 := hI7.c12
          have p13 := hI7.c13
          clear hy hr h0 hyo5 hyv5 hma hI7 hS6 hS7 hyo7 hyv7 hmb hS8 HS7 Hw7
          go_wp2_with (at_builtin; refine wpList_appN (.tmp 85) (.tmp 87) recElem rfl rfl rfl rfl hown hsrc (by omega) (by unfold maxLen; omega) hl8 ?_)
          intro B8 d8 w8 hown8 hg8 hat8
          have h9 := HS8.out.push Hyo8.out Hyv8.out hown8 hg8
          have hB : ∀ k, blkOf B = some k → w4.heap.size ≤ k := fun k hk => (hown.lt k hk).1
          have hx8 : BtD.In w8 ⟨hdE xs, hdS xs, hdF xs, B, m, d, L⟩ w2.heap.size := (hg8.block _ HS8.out.box.lt (fun e => by have := hB _ e.symm; have := Hl2.out; omega)).trans HS8.out.box
          have y3 := hx8.c3
          have yz := hx8.fz 3
          have H9 := Lib.hid h9
          clear hw7 h9 hB hx8 hown8 hg8 hat8 hown hsrc hl8 x3 HS8 Hyo8 Hyv8 p0 p1 p2 p3 p4 p5 p6 p7 p8 p9 p10 p11 p12 p13
          go_wp2
          go_roundw
          case rel => exact ⟨j + 1, m + 1, d8, at_ + 1 + bb.length, B8, L ++ [y], by omega, by go_num, by go_num, by rw [Hrec2.out, List.map_append, ← Hy.out, ← Hr'.out]; rfl, by rw [Hmj.out], by omega, H9.out⟩
          case measure => simp [intOf]; omega
        · have Hu : Hid (unpackM xs = none) := by show _ = _; exact unpack_not (by rw [HN.out]; exact recsJ_no Hrec.out (by rw [HrR.out, if_neg h0]) N hlt)
          obtain ⟨er, her⟩ : ∃ er, (decode bb).1 = er := ⟨_, rfl⟩
          rw [her] at h0
          rw [her]
          have hb : (er != 0) = true := by simpa using h0
          have r0 := hS7.res.c0
          have r1 := hS7.res.c1
          have r2 := hS7.res.c2
          have r3 := hS7.res.c3
          have z0 := hS7.res.fz 0
          have z1 := hS7.res.fz 1
          have z2 := hS7.res.fz 2
          have z3 := hS7.res.fz 3
          clear hS6 hyo5 hyv5 hma hI7 hS7 hyo7 hyv7 h0 hy her Hw7
          go_wp2
          change bodyPost _ _ _ _ _ (stBat w7 w.heap.size BtD.zero)
          obtain ⟨V, hV, hzV, hoV⟩ := un_none HS7.out.res HS7.out.old
          rw [hV]
          clear hV
          have s0 := hzV.c0
          have s1 := hzV.c1
          have s2 := hzV.c2
          have s3 := hzV.c3
          have HoV := Lib.hid hoV
          clear hzV hoV r0 r1 r2 r3 z0 z1 z2 z3
          refine bodyPost_ret (v := .tuple #[.agg BtD.zero.cells, .int .i64 7]) (by simp [results, Tryz.results27, go_sem, s0, s1, s2, s3]) rfl ?_
          exact ⟨by rw [Hu.out]; rfl, HoV.out⟩
    · have Hj : Hid (j = N) := by show _ = _; omega
      have Hrec2 : Hid (recsJ (xs.drop 11) (hdN xs) = some (L.map RcD.p, xs.drop at_)) := by show _ = _; rw [HN.out, ← Hj.out]; exact Hrec.out
      clear Hrec
      have hn248 : (n : Int) ≤ 248 := by have := Hn.out; omega
      have HZ : Hid (BtD.zero.In wr w.heap.size) := HS.out.res
      go_wp2_with fail
      go_loopw [21] (fun i wv => ∃ k : Nat, i = .int .i64 k ∧ at_ ≤ k ∧ k ≤ n ∧ wv = wr ∧ ∀ q, at_ ≤ q → q < k → xs.getD q 0 = 0) (fun i _ => n - (intOf i).toNat)
      case atStart => exact ⟨at_, rfl, Nat.le_refl _, hat, rfl, fun q h1 h2 => by omega⟩
      case round =>
        obtain ⟨k, rfl, h1, h2, hwr, hz⟩ := hrel
        subst hwr
        have Hz0 := Lib.hid hz
        have hk2 : (k : Int) ≤ n := by omega
        clear hz
        by_cases hk : k < n
        · have ck : wr.cell? ⟨b, o + k, none⟩ = some (.int .u8 ((xs.getD k 0).toNat : Int)) := Hsl.out.getc hk
          by_cases hv : xs.getD k 0 = 0
          · rw [hv] at ck
            have ck0 : wr.cell? ⟨b, o + k, none⟩ = some (.int .u8 0) := ck
            have Hv := Lib.hid hv
            clear ck hv
            go_wp2
            go_roundw
            case rel => exact ⟨k + 1, by go_num, by omega, by omega, by trivial, fun q a1 a2 => by
              by_cases e : q = k
              · rw [e]; exact Hv.out
              · exact Hz0.out q a1 (by omega)⟩
            case measure => simp [intOf]; omega
          · have Hu : Hid (unpackM xs = none) := by show _ = _; exact unpack_tail Hrec2.out (zeros_not h1 (by rw [Hxl.out]; exact hk) hv)
            have hb : ((((xs.getD k 0).toNat : Nat) : Int) != 0) = true := by
              rw [bne_iff_ne]
              intro e
              exact hv (UInt8.toNat_inj.1 (by show _ = 0; omega))
            generalize (xs.getD k 0).toNat = v at *
            clear hv
            have r0 := HS.out.res.c0
            have r1 := HS.out.res.c1
            have r2 := HS.out.res.c2
            have r3 := HS.out.res.c3
            have z0 := HS.out.res.fz 0
            have z1 := HS.out.res.fz 1
            have z2 := HS.out.res.fz 2
            have z3 := HS.out.res.fz 3
            go_wp2
            change bodyPost _ _ _ _ _ (stBat wr w.heap.size BtD.zero)
            obtain ⟨V, hV, hzV, hoV⟩ := un_none HS.out.res HS.out.old
            rw [hV]
            clear hV
            have s0 := hzV.c0
            have s1 := hzV.c1
            have s2 := hzV.c2
            have s3 := hzV.c3
            have HoV := Lib.hid hoV
            clear hzV hoV r0 r1 r2 r3 z0 z1 z2 z3
            refine bodyPost_ret (v := .tuple #[.agg BtD.zero.cells, .int .i64 7]) (by simp [results, Tryz.results27, go_sem, s0, s1, s2, s3]) rfl ?_
            exact ⟨by rw [Hu.out]; rfl, HoV.out⟩
        · have Hzz : Hid ((xs.drop at_).all (· == 0) = true) := zeros_all (fun q a1 a2 => Hz0.out q a1 (by rw [Hxl.out] at a2; omega))
          obtain ⟨hall, hrecs, hLj⟩ := recs_back HS.out.ats Hrec2.out
          have hm118 : m ≤ 200 := by
            have a1 := recs_two HS.out.ats hall
            have a2 := congrArg List.length hrecs
            simp only [List.length_append, List.length_drop, Hxl.out] at a2
            have := Hn.out
            have := HS.out.len
            omega
          have Hun := Lib.hid (unpack_again (by rw [Hxl.out]; exact Hn.out.1) (by rw [Hxl.out]; exact Hn.out.2.1) HS.out.ats Hrec2.out Hzz.out)
          have hp := rpack_ok wr ⟨hdE xs, hdS xs, hdF xs, B, m, d, L⟩ HS.out.rs hm118
          have Hp : Hid (Calls Tryz.prog 48 #[.agg #[.int .i64 (hdE xs), .int .i64 (hdS xs), .int .i64 (hdF xs), .slice B m d]] wr (RPackAns wr (packE (hdE xs) (hdS xs) (hdF xs) L) (packR (hdE xs) (hdS xs) (hdF xs) L))) := hp
          have x0 := HS.out.box.c0
          have x1 := HS.out.box.c1
          have x2 := HS.out.box.c2
          have x3 := HS.out.box.c3
          clear hall hrecs hLj hm118 hp
          go_wp2_with fail
          refine Hp.out.mono ?_
          rintro e w5 ⟨⟨A5, m5, c5, rfl, _⟩, hm5⟩
          have HS5 := Lib.hid (HS.out.keep hm5)
          clear hm5 Hp x0 x1 x2 x3 c10
          by_cases h0 : packE (hdE xs) (hdS xs) (hdF xs) L = 0
          · have Hu : Hid (unpackM xs = some (L.map RcD.p)) := by show _ = _; rw [Hun.out, if_pos h0]
            have Hlo : Hid (w.heap.size < w4.heap.size) := by have := HS5.out.l1; have := HS5.out.l2; show _ < _; omega
            rw [h0]
            have x0 := HS5.out.box.c0
            have x1 := HS5.out.box.c1
            have x2 := HS5.out.box.c2
            have x3 := HS5.out.box.c3
            have r0 := HS5.out.res.c0
            have r1 := HS5.out.res.c1
            have r2 := HS5.out.res.c2
            have r3 := HS5.out.res.c3
            have z0 := HS5.out.res.fz 0
            have z1 := HS5.out.res.fz 1
            have z2 := HS5.out.res.fz 2
            have z3 := HS5.out.res.fz 3
            go_wp2
            change bodyPost _ _ _ _ _ (stBat w5 w.heap.size ⟨hdE xs, hdS xs, hdF xs, B, m, d, L⟩)
            have h6 := stBat_in HS5.out.res ⟨hdE xs, hdS xs, hdF xs, B, m, d, L⟩
            have hm6 := stBat_mod w5 w.heap.size ⟨hdE xs, hdS xs, hdF xs, B, m, d, L⟩
            have Hm6 : Hid (Mod (fun _ => False) w (stBat w5 w.heap.size ⟨hdE xs, hdS xs, hdF xs, B, m, d, L⟩)) := HS5.out.old.trans hm6 (fun k hk e => by omega)
            have Hrow6 := Lib.hid ((HS5.out.row.mod hm6 (fun k hk e => by have := (HS5.out.row.lt k hk).1; have := Hlo.out; omega)).rebase (Nat.le_of_lt Hlo.out))
            have Hown6 : Hid (∀ y ∈ L, y.o.Own (stBat w5 w.heap.size ⟨hdE xs, hdS xs, hdF xs, B, m, d, L⟩) w.heap.size ∧ y.v.Own (stBat w5 w.heap.size ⟨hdE xs, hdS xs, hdF xs, B, m, d, L⟩) w.heap.size) := fun y hy => by
              obtain ⟨a, b⟩ := HS5.out.own y hy
              exact ⟨Own.rebase (OwV.mod a hm6 (fun k hk e => by have := (OwV.lt a k hk).1; have := Hlo.out; omega)) (Nat.le_of_lt Hlo.out), Own.rebase (OwV.mod b hm6 (fun k hk e => by have := (OwV.lt b k hk).1; have := Hlo.out; omega)) (Nat.le_of_lt Hlo.out)⟩
            generalize stBat w5 w.heap.size ⟨hdE xs, hdS xs, hdF xs, B, m, d, L⟩ = w6 at *
            have s0 := h6.c0
            have s1 := h6.c1
            have s2 := h6.c2
            have s3 := h6.c3
            clear x0 x1 x2 x3 r0 r1 r2 r3 z0 z1 z2 z3 h6 hm6
            refine bodyPost_ret (v := .tuple #[.agg #[.int .i64 (hdE xs), .int .i64 (hdS xs), .int .i64 (hdF xs), .slice B m d], .int .i64 0]) (by simp [results, Tryz.results27, go_sem, s0, s1, s2, s3]) rfl ?_
            exact ⟨by rw [Hu.out]; exact ⟨B, m, d, L, rfl, Hrow6.out, Hown6.out, rfl⟩, Hm6.out⟩
          · have Hu : Hid (unpackM xs = none) := by show _ = _; rw [Hun.out, if_neg h0]
            generalize packE (hdE xs) (hdS xs) (hdF xs) L = er at *
            have hb : (er != 0) = true := by simpa using h0
            clear h0
            have r0 := HS5.out.res.c0
            have r1 := HS5.out.res.c1
            have r2 := HS5.out.res.c2
            have r3 := HS5.out.res.c3
            have z0 := HS5.out.res.fz 0
            have z1 := HS5.out.res.fz 1
            have z2 := HS5.out.res.fz 2
            have z3 := HS5.out.res.fz 3
            go_wp2
            change bodyPost _ _ _ _ _ (stBat w5 w.heap.size BtD.zero)
            obtain ⟨V, hV, hzV, hoV⟩ := un_none HS5.out.res HS5.out.old
            rw [hV]
            clear hV
            have s0 := hzV.c0
            have s1 := hzV.c1
            have s2 := hzV.c2
            have s3 := hzV.c3
            have HoV := Lib.hid hoV
            clear hzV hoV r0 r1 r2 r3 z0 z1 z2 z3
            refine bodyPost_ret (v := .tuple #[.agg BtD.zero.cells, .int .i64 7]) (by simp [results, Tryz.results27, go_sem, s0, s1, s2, s3]) rfl ?_
            exact ⟨by rw [Hu.out]; rfl, HoV.out⟩
end Go.Proofs.YtnbamljaiahmdaaGreat

namespace Go.Proofs.YtnbamljaiahmdaaGreat
open Go Go.RowKit Go.Shelf

theorem runpack_ok (w : World) (A : Option Addr) (n c : Nat) (xs : List UInt8) (h : Sl w A n c xs) (hc : c ≤ maxLen) :
    Calls Tryz.prog 27 #[.slice A n c] w fun e w' => UnAns w w' xs e (unpackM xs) ∧ Mod (fun _ => False) w w' := by
  by_cases hbad : n < 11 ∨ 248 < n
  · exact runpack_short w A n c xs h hbad
  · exact runpack_long (show DecOk from fun w A n c xs h hn hc => rdecode_ok w A n c xs h hn hc) w A n c xs h hc (by omega) (by omega)
end Go.Proofs.YtnbamljaiahmdaaGreat
