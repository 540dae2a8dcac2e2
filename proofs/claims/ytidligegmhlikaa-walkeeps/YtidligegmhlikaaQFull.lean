/-
  bobbinlaw08.WalFull walked.
-/
import Derived.Test.YtidligegmhlikaaQW3
import Derived.Test.YtidligegmhlikaaQRdE
import Derived.Test.YtidligegmhlikaaQKey
import Derived.Test.YtidligegmhlikaaQRe2
namespace Go.Proofs.Ytidligegmhlikaa
open Go Go.RowKit Go.Shelf

theorem outX_few : ∀ (cs : List Sc) (k : Nat), (∀ (i : Nat) (c : Sc), cs[i]? = some c → c.Ok ((k + i : Nat) : Int)) → cs.length ≤ (outX cs k).length ∧ (outX cs k).length ≤ 60 * cs.length
  | [], _, _ => by simp [outX]
  | c :: cs, k, hok => by
    obtain ⟨h1, h2⟩ := outX_few cs (k + 1) (fun i c hc => by rw [show k + 1 + i = k + (i + 1) by omega]; exact hok (i + 1) c hc)
    have hc := hok 0 c rfl
    have h3 := hc.few
    have h4 := List.length_pos_iff.2 hc.ne
    rw [outX_cons, List.length_append, secX_len, List.length_cons]
    omega
theorem Chn.few {b n fr du : Nat} {g : Lg} {d : Dk} {cs : List Sc} (h : Chn b n fr du g d cs) : cs.length ≤ (outX cs 0).length ∧ (outX cs 0).length ≤ 60 * cs.length := outX_few cs 0 (fun i c hc => by rw [Nat.zero_add]; exact h.ok i c hc)
theorem Chn.pendL {b n fr du : Nat} {g : Lg} {d : Dk} {cs : List Sc} (h : Chn b n fr du g d cs) : d.pend.length ≤ n := by
  have := h.ln
  rw [h.pend, pOf_len, List.length_drop]
  omega
theorem App.durL {g g' : Lg} {d d' : Dk} {r : RcD} {a er : Int} (k : App g d r a er g' d') (ok : g.Ok d.dur.length) (ha : d.armed = false) (hd : d.dead = false) : d'.dur = d.dur := by
  cases k with
  | arg _ => rfl
  | full _ _ => rfl
  | fit _ _ _ _ _ => rfl
  | next _ _ _ _ _ _ => rw [(Dk.write_good ha hd ok.place.1 ok.place.2 ok.secL).1]
/-- A log that takes no more. -/
structure FullS (n : Nat) (r : RcD) (g : Lg) (d : Dk) (cs : List Sc) (j : Nat) : Prop where
  ch : Chn 0 n 0 0 g d cs
  many : (outX cs 0).length + g.l.length = j
  first : g.l = [] → cs = []
theorem FullS.app {n N : Nat} {r : RcD} {g g' : Lg} {d d' : Dk} {cs : List Sc} {j : Nat} (h : FullS n r g d cs j) (ok : g.Ok N) (hN : d.dur.length = N) (ha : d.armed = false) (hd : d.dead = false) (hw : Was g.l) (hm : mayB r = true) (n12 : n ≤ 4096) {a er : Int} (k : App g d r a er g' d') :
    (er = 4 ∧ a = 0 ∧ g' = g ∧ d' = d ∧ g.l ≠ [] ∧ g.nx = n - 1 ∧ n ≤ j ∧ ∀ {a2 er2 : Int} {g2 : Lg} {d2 : Dk}, App g d r a2 er2 g2 d2 → er2 = 4 ∧ g2 = g ∧ d2 = d) ∨ (er = 0 ∧ ∃ cs', FullS n r g' d' cs' (j + 1)) := by
  have hst := h.ch.st
  have hgn := h.ch.gn
  have hnx := h.ch.gnx
  obtain ⟨cs', c1, _, c3⟩ := chn_app h.ch ok hN ha hd hw k
  have c4 := congrArg List.length c3
  have hmany := h.many
  have hfew := h.ch.few.1
  have n2 := ok.n2
  cases k with
  | arg h1 => rw [hm] at h1; cases h1
  | full h1 h2 =>
    left
    rcases h2 with ⟨e1, e2⟩ | ⟨e1, e2, e3⟩
    · have hcs := h.first e1
      have : growB g 1 = true := growB_iff.2 ⟨by rw [hnx, hcs, hst]; simp; omega, by rw [hnx, hcs]; simp⟩
      rw [this] at e2; cases e2
    · have hs := ok.some_ e1
      have hg : ¬ (2 ≤ g.n - (g.nx - g.st) ∧ g.nx + 2 ≤ 16777215) := fun hh => by rw [growB_iff.2 hh] at e3; cases e3
      have hln := h.ch.ln
      have hl := List.length_pos_iff.2 e1
      refine ⟨rfl, rfl, rfl, rfl, e1, by omega, by omega, fun k2 => ?_⟩
      cases k2 with
      | arg h3 => rw [hm] at h3; cases h3
      | full _ _ => exact ⟨rfl, rfl, rfl⟩
      | fit _ _ _ h3 _ => rw [e2] at h3; cases h3
      | next _ _ _ _ h3 _ => rw [e3] at h3; cases h3
  | fit y _ _ _ _ =>
    right
    refine ⟨rfl, cs', c1, ?_, fun e => absurd e (by simp)⟩
    simp only [List.length_map, List.length_append, bufX, secX_len, if_true, List.length_cons, List.length_nil] at c4 ⊢
    omega
  | next y _ _ _ _ _ =>
    right
    refine ⟨rfl, cs', c1, ?_, fun e => absurd e (by simp)⟩
    simp only [List.length_map, List.length_append, bufX, secX_len, if_true, List.length_cons, List.length_nil] at c4 ⊢
    omega
theorem FullS.few {n : Nat} {r : RcD} {g : Lg} {d : Dk} {cs : List Sc} {j N : Nat} (h : FullS n r g d cs j) (ok : g.Ok N) : j ≤ 60 * n + 60 := by
  have h1 := h.ch.few.2
  have h2 := h.ch.ln
  have h3 := (fits_may ok.fit).2
  have h4 := h.many
  have : 60 * cs.length ≤ 60 * n := Nat.mul_le_mul_left 60 h2
  omega

set_option maxRecDepth 100000 in
set_option maxHeartbeats 8000000 in
theorem full_walk0 (w : World) (n : Int) (r : RcD) (hr : r.At w) (n0 : -9223372036854775808 ≤ n) (n1 : n ≤ 9223372036854775807) : Calls Try.prog 7 #[.int .i64 n, .agg r.cells] w fun e w' => e = .returned (.bool true) ∧ Mod (fun _ => False) w w' := by
  obtain ⟨w1, hw1⟩ : ∃ w1, w.alloc (.cells r.cells 40) = w1 := ⟨_, rfl⟩
  have hm1 : Mod (fun _ => False) w w1 := by rw [← hw1]; exact (Mod.refl _ w).alloc _
  have hI1 : r.In w1 w.heap.size := by rw [← hw1]; exact RcD.In.new w r
  have Hr1 := Lib.hid (hr.keep hm1)
  have HI1 := Lib.hid hI1
  have Hm1 := Lib.hid hm1
  have Ha := Lib.hid (awake_ok w1)
  clear hm1 hI1 hr
  go_enter Try.func7, Try.ntmps7
  go_wp2_with fail
  refine Ha.out.mono ?_
  rintro e w2 ⟨rfl, hm2⟩
  have hI2 := HI1.out.mod hm2 id
  have Hl2 := Lib.hid (rlightN_ok w2 r 100)
  have p0 := hI2.kind
  have p1 := hI2.num (i := 1) (by omega) (by omega)
  have p2 := hI2.num (i := 2) (by omega) (by omega)
  have p3 := hI2.num (i := 3) (by omega) (by omega)
  have p4 := hI2.num (i := 4) (by omega) (by omega)
  have p5 := hI2.num (i := 5) (by omega) (by omega)
  have p6 := hI2.num (i := 6) (by omega) (by omega)
  have p7 := hI2.num (i := 7) (by omega) (by omega)
  have p8 := hI2.num (i := 8) (by omega) (by omega)
  have p9 := hI2.num (i := 9) (by omega) (by omega)
  have p10 := hI2.c10
  have p11 := hI2.c11
  have p12 := hI2.c12
  have p13 := hI2.c13
  have HI2 := Lib.hid hI2
  have Hm2 := Lib.hid hm2
  clear hm2 hI2 Ha
  go_wp2_with fail
  clear p0 p1 p2 p3 p4 p5 p6 p7 p8 p9 p10 p11 p12 p13
  refine Hl2.out.mono ?_
  rintro e w3 ⟨rfl, hm3⟩
  have hI3 := HI2.out.mod hm3 id
  have Hl3 := Lib.hid (rmay_ok w3 r)
  have p0 := hI3.kind
  have p1 := hI3.num (i := 1) (by omega) (by omega)
  have p2 := hI3.num (i := 2) (by omega) (by omega)
  have p3 := hI3.num (i := 3) (by omega) (by omega)
  have p4 := hI3.num (i := 4) (by omega) (by omega)
  have p5 := hI3.num (i := 5) (by omega) (by omega)
  have p6 := hI3.num (i := 6) (by omega) (by omega)
  have p7 := hI3.num (i := 7) (by omega) (by omega)
  have p8 := hI3.num (i := 8) (by omega) (by omega)
  have p9 := hI3.num (i := 9) (by omega) (by omega)
  have p10 := hI3.c10
  have p11 := hI3.c11
  have p12 := hI3.c12
  have p13 := hI3.c13
  have Hm3 := Lib.hid (Hm2.out.trans hm3 (fun _ _ h => h))
  clear hm3 hI3 Hl2 HI2 Hm2
  go_wp2_with fail
  clear p0 p1 p2 p3 p4 p5 p6 p7 p8 p9 p10 p11 p12 p13
  refine Hl3.out.mono ?_
  rintro e w4 ⟨rfl, hm4⟩
  have Hm4 := Lib.hid (Hm3.out.trans hm4 (fun _ _ h => h))
  clear hm4 Hl3 Hm3
  cases hlt : (decide ((r.o.m : Int) ≤ 100) && decide ((r.v.m : Int) ≤ 100)) with
  | false =>
    clear hlt
    go_wp2
    go_ret
    exact ⟨rfl, Hm1.out.trans Hm4.out (fun _ _ h => h)⟩
  | true =>
    clear hlt
    cases hmay : mayB r with
    | false =>
      clear hmay
      go_wp2
      go_ret
      exact ⟨rfl, Hm1.out.trans Hm4.out (fun _ _ h => h)⟩
    | true =>
      have Hmay := Lib.hid hmay
      clear hmay
      by_cases hn2 : n < 2
      · have q2 : decide (n < 2) = true := by simpa using hn2
        clear hn2
        go_wp2
        go_ret
        exact ⟨rfl, Hm1.out.trans Hm4.out (fun _ _ h => h)⟩
      · have q2 : decide (n < 2) = false := by simpa using hn2
        by_cases hn12 : 12 < n
        · have q3 : decide (12 < n) = true := by simpa using hn12
          clear hn2 hn12
          go_wp2
          go_ret
          exact ⟨rfl, Hm1.out.trans Hm4.out (fun _ _ h => h)⟩
        · have q3 : decide (12 < n) = false := by simpa using hn12
          obtain ⟨N, rfl⟩ : ∃ N : Nat, n = N := ⟨n.toNat, by omega⟩
          have h2 : 2 ≤ N := by omega
          have h12 : N ≤ 12 := by omega
          have H0 := Lib.hid (dev_new w1 w4 Hm4.out 12 (by omega) (by omega))
          clear hn2 hn12
          go_wp2_with fail
          refine H0.out.mono ?_
          rintro e w5 ⟨x, rfl, hx⟩
          have hlen : (Dk.fresh (List.replicate (12 : Int).toNat (fill 0))).dur.length = 12 := by show (List.replicate 12 (fill 0)).length = 12; simp
          have H1 := Lib.hid (lgs_new w5 w1 x _ hx 0 N 1 0 0 (by omega) (by omega) (by omega) (by rw [hlen]; constructor <;> omega) rfl rfl rfl)
          have Hc0 : Hid (FullS N r (newG 0 N 1 0 0) (Dk.fresh (List.replicate (12 : Int).toNat (fill 0))) [] 0) := ⟨chn_new (b := 0) (N := 12) (by omega), rfl, fun _ => rfl⟩
          have Hlen := Lib.hid hlen
          clear hx H0 hlen q2 q3
          generalize Dk.fresh (List.replicate (12 : Int).toNat (fill 0)) = d0 at *
          go_wp2_with fail
          refine H1.out.mono ?_
          rintro e w6 ⟨p, rfl, hlg, _⟩
          have Hlg := Lib.hid hlg
          clear hlg H1
          obtain ⟨px, hpx⟩ : ∃ px, x.p = px := ⟨_, rfl⟩
          rw [hpx] at Hlg ⊢
          clear hpx
          go_wp2
          go_loopw [12, 13] (fun many i wr => ∃ (j : Nat) (g : Lg) (d : Dk) (cs : List Sc), many = .int .i64 j ∧ i = .int .i64 j ∧ Lgs w1 wr p px g d ∧ FullS N r g d cs j ∧ d.dur.length = 12) (fun _ i _ => 2000 - (intOf i).toNat)
          case atStart => exact ⟨0, _, _, [], rfl, rfl, Hlg.out, Hc0.out, Hlen.out⟩
          case round =>
            obtain ⟨j, g, d, cs, rfl, rfl, hlg, hfs, hdl⟩ := hrel
            have hj : j ≤ 780 := by have := hfs.few hlg.ok; omega
            have q1 : decide ((j : Int) < 2000) = true := by rw [decide_eq_true_eq]; omega
            have hI := HI1.out.mod hlg.old id
            have hpend : d.pend.length ≤ 900 := by have := hfs.ch.pendL; omega
            have HAp := Lib.hid (lgs_app hlg r (Hr1.out.keep hlg.old) (by omega))
            have Hst : Hid (∀ {a er : Int} {g' : Lg} {d' : Dk}, App g d r a er g' d' → _) := fun k => hfs.app hlg.ok rfl hlg.arm hlg.dead ⟨wr, hlg.ats⟩ Hmay.out (by omega) k
            have Hdur : Hid (∀ {a er : Int} {g' : Lg} {d' : Dk}, App g d r a er g' d' → d'.dur = d.dur) := fun k => k.durL hlg.ok hlg.arm hlg.dead
            have Hlg0 := Lib.hid hlg
            have Hfs := Lib.hid hfs
            have Hdl := Lib.hid hdl
            have p0 := hI.kind
            have p1 := hI.num (i := 1) (by omega) (by omega)
            have p2 := hI.num (i := 2) (by omega) (by omega)
            have p3 := hI.num (i := 3) (by omega) (by omega)
            have p4 := hI.num (i := 4) (by omega) (by omega)
            have p5 := hI.num (i := 5) (by omega) (by omega)
            have p6 := hI.num (i := 6) (by omega) (by omega)
            have p7 := hI.num (i := 7) (by omega) (by omega)
            have p8 := hI.num (i := 8) (by omega) (by omega)
            have p9 := hI.num (i := 9) (by omega) (by omega)
            have p10 := hI.c10
            have p11 := hI.c11
            have p12 := hI.c12
            have p13 := hI.c13
            clear hlg hfs hdl hI Hc0 Hlen
            go_wp2_with fail
            clear p0 p1 p2 p3 p4 p5 p6 p7 p8 p9 p10 p11 p12 p13
            refine HAp.out.mono ?_
            rintro e w7 ⟨a, er, g', d', rfl, happ, hlg'⟩
            have hdu := Hdur.out happ
            rcases Hst.out happ with ⟨rfl, rfl, rfl, rfl, hne, hnx, hnj, hdet⟩ | ⟨rfl, cs', hfs'⟩
            · have Hne := Lib.hid hne
              have Hnx := Lib.hid hnx
              have Hnj := Lib.hid hnj
              have Hdet : Hid (∀ {a2 er2 : Int} {g2 : Lg} {d2 : Dk}, App g' d' r a2 er2 g2 d2 → er2 = 4 ∧ g2 = g' ∧ d2 = d') := hdet
              have Hun : Hid (g'.un = 1) := Lg.un_some hne
              have HN := Lib.hid (lgs_next_ok hlg')
              clear happ hlg' hdu hne hnx hnj hdet HAp Hst Hdur Hlg0
              obtain ⟨X1, hX1⟩ : ∃ X1, 256 * (g'.nx + g'.un) = X1 := ⟨_, rfl⟩
              rw [hX1] at HN
              have HX1 := Lib.hid hX1
              clear hX1
              go_wp2_with fail
              refine HN.out.mono ?_
              rintro e w8 ⟨rfl, hlg8, _⟩
              have hI8 := HI1.out.mod hlg8.old id
              have HA8 := Lib.hid (lgs_app hlg8 r (Hr1.out.keep hlg8.old) (by omega))
              have p0 := hI8.kind
              have p1 := hI8.num (i := 1) (by omega) (by omega)
              have p2 := hI8.num (i := 2) (by omega) (by omega)
              have p3 := hI8.num (i := 3) (by omega) (by omega)
              have p4 := hI8.num (i := 4) (by omega) (by omega)
              have p5 := hI8.num (i := 5) (by omega) (by omega)
              have p6 := hI8.num (i := 6) (by omega) (by omega)
              have p7 := hI8.num (i := 7) (by omega) (by omega)
              have p8 := hI8.num (i := 8) (by omega) (by omega)
              have p9 := hI8.num (i := 9) (by omega) (by omega)
              have p10 := hI8.c10
              have p11 := hI8.c11
              have p12 := hI8.c12
              have p13 := hI8.c13
              clear hI8 hlg8 HN
              go_wp2_with fail
              clear p0 p1 p2 p3 p4 p5 p6 p7 p8 p9 p10 p11 p12 p13
              refine HA8.out.mono ?_
              rintro e w9 ⟨a2, er2, g2, d2, rfl, happ2, hlg9⟩
              obtain ⟨rfl, rfl, rfl⟩ := Hdet.out happ2
              have HFo := Lib.hid (lgs_force hlg9 (by omega))
              obtain ⟨cs1, c1, _, c3, c4⟩ := chn_force Hfs.out.ch hlg9.ok rfl hlg9.arm hlg9.dead ⟨w9, hlg9.ats⟩
              have c5 := congrArg List.length c3
              rw [List.length_map, List.length_map, List.length_append, bufX, secX_len, Hfs.out.many] at c5
              have HC1 := Lib.hid c1
              have HC4 := Lib.hid c4
              have HC5 := Lib.hid c5
              clear happ2 hlg9 HA8 Hdet c1 c3 c4 c5
              go_wp2_with fail
              refine HFo.out.mono ?_
              rintro e w10 ⟨rfl, hlg10⟩
              obtain ⟨x', hx', hdev⟩ := hlg10.dev
              have hdl10 := HC1.out.dl
              have HRe := wread_ok w10 w1 x' _ hdev hlg10.dead 0 N 0 (by omega) (by omega) (by omega) (by constructor <;> omega)
              rw [hx', Int.toNat_natCast] at HRe
              have hcr := chn_read HC1.out HC4.out hlg10.dead
              rw [show ((0 : Nat) : Int) = 0 from rfl] at hcr
              rw [hcr] at HRe
              have HRe := Lib.hid HRe
              have Hlg10 := Lib.hid hlg10
              clear hlg10 hx' hdev hdl10 hcr HFo
              go_wp2_with fail
              refine HRe.out.mono ?_
              rintro e w11 ⟨⟨A, c, L, rfl, _, _, hL⟩, hm11⟩
              have hLj : L.length = j := by
                have h1 := congrArg List.length hL
                rw [List.length_map, out_ms, List.length_map, HC5.out] at h1
                exact h1
              rw [hLj]
              have hlg11 := Hlg10.out.keep hm11
              have HCu := Lib.hid (lgs_cut hlg11 1)
              have hnx1 := g2.forced_nx
              have hk1 := g2.forced_kin
              have hl1 := g2.forced_l
              have hst := Hfs.out.ch.st
              have hgn := Hfs.out.ch.gn
              have hcut : (1 : Int) = 1 ∧ g2.forced.st ≤ 1 ∧ 1 ≤ g2.forced.nx := ⟨rfl, by rw [hk1.st, hst]; omega, by rw [hnx1.1, Hnx.out, Hun.out]; omega⟩
              rw [show g2.forced.cutE 1 = 0 by unfold Lg.cutE; rw [if_pos hcut.2]] at HCu
              rw [show g2.forced.cut 1 = { g2.forced with st := 1 } by unfold Lg.cut; rw [if_pos hcut.2]] at HCu
              obtain ⟨g4, hg4⟩ : ∃ g4 : Lg, { g2.forced with st := 1 } = g4 := ⟨_, rfl⟩
              have h4n : g4.n = N := by rw [← hg4]; show g2.forced.n = _; rw [hk1.n, hgn]
              have h4x : g4.nx = N := by rw [← hg4]; show g2.forced.nx = _; rw [hnx1.1, Hnx.out, Hun.out]; omega
              have h4s : g4.st = 1 := by rw [← hg4]
              have h4l : g4.l = [] := by rw [← hg4]; exact hl1
              rw [hg4] at HCu
              have H4 : Hid (g4.n = N ∧ g4.nx = N ∧ g4.st = 1 ∧ g4.l = []) := ⟨h4n, h4x, h4s, h4l⟩
              have Hpd : Hid ((g2.forcedD d2).pend.length ≤ 1000) := by show _ ≤ _; rw [HC4.out]; exact Nat.zero_le _
              obtain ⟨d4, hd4⟩ : ∃ d4, g2.forcedD d2 = d4 := ⟨_, rfl⟩
              rw [hd4] at HCu Hpd
              clear hm11 hL hLj hlg11 hnx1 hk1 hl1 hst hgn hcut hg4 h4n h4x h4s h4l hd4 HRe Hlg10
              go_wp2_with fail
              refine HCu.out.mono ?_
              rintro e w12 ⟨rfl, hlg12⟩
              have hI12 := HI1.out.mod hlg12.old id
              have hr12 := Hr1.out.keep hlg12.old
              have HA12 := Lib.hid (lgs_app hlg12 r hr12 Hpd.out)
              have hfit : fitsB (g4.l ++ [r]) = true := by rw [H4.out.2.2.2]; exact fits_one hr12 Hmay.out
              have Hyes : Hid (∀ {a er : Int} {g' : Lg} {d' : Dk}, App g4 d4 r a er g' d' → ∃ y, Cp r y ∧ a = 256 * g4.nx + g4.l.length ∧ er = 0 ∧ g' = { g4 with l := g4.l ++ [y] } ∧ d' = d4) := fun k => k.yes Hmay.out (fun _ => growB_iff.2 (by obtain ⟨e1, e2, e3, _⟩ := H4.out; omega)) hfit
              have p0 := hI12.kind
              have p1 := hI12.num (i := 1) (by omega) (by omega)
              have p2 := hI12.num (i := 2) (by omega) (by omega)
              have p3 := hI12.num (i := 3) (by omega) (by omega)
              have p4 := hI12.num (i := 4) (by omega) (by omega)
              have p5 := hI12.num (i := 5) (by omega) (by omega)
              have p6 := hI12.num (i := 6) (by omega) (by omega)
              have p7 := hI12.num (i := 7) (by omega) (by omega)
              have p8 := hI12.num (i := 8) (by omega) (by omega)
              have p9 := hI12.num (i := 9) (by omega) (by omega)
              have p10 := hI12.c10
              have p11 := hI12.c11
              have p12 := hI12.c12
              have p13 := hI12.c13
              clear hI12 hr12 hlg12 hfit HCu
              go_wp2_with fail
              clear p0 p1 p2 p3 p4 p5 p6 p7 p8 p9 p10 p11 p12 p13
              refine HA12.out.mono ?_
              rintro e w13 ⟨a3, er3, g5, d5, rfl, happ5, hlg13⟩
              obtain ⟨y5, _, _, rfl, hg5, _⟩ := Hyes.out happ5
              have HN5 := Lib.hid (lgs_next_ok hlg13)
              obtain ⟨X5, hX5⟩ : ∃ X5, 256 * (g5.nx + g5.un) = X5 := ⟨_, rfl⟩
              rw [hX5] at HN5
              have hle : X1 ≤ X5 := by
                have e1 := HX1.out
                have e2 := g5.un_bd
                have e3 := Hnx.out
                have e4 := Hun.out
                have e5 : g5.nx = N := by rw [hg5]; exact H4.out.2.1
                omega
              have z1 : decide (X1 ≤ X5) = true := by simpa using hle
              have z2 : decide ((N : Int) ≤ (j : Int)) = true := by rw [decide_eq_true_eq]; have := Hnj.out; omega
              have z3 : decide (N ≤ j) = true := by rw [decide_eq_true_eq]; exact Hnj.out
              have z4 := Hnj.out
              clear happ5 hlg13 hg5 hX5 hle HA12 Hyes
              go_wp2_with fail
              refine HN5.out.mono ?_
              rintro e w14 ⟨rfl, hlg14, _⟩
              have Hold : Hid (Mod (fun _ => False) w w14) := Hm1.out.trans hlg14.old (fun _ _ h => h)
              clear hlg14 HN5
              go_wp2
              go_ret
              exact ⟨rfl, Hold.out⟩
            · have Hlg' := Lib.hid hlg'
              have Hfs' := Lib.hid hfs'
              have Hdl' : Hid (d'.dur.length = 12) := by show _ = _; rw [hdu]; exact Hdl.out
              clear happ hlg' hdu hfs' HAp Hst Hdur Hlg0 Hfs Hdl
              go_wp2
              go_roundw
              case rel => exact ⟨j + 1, g', d', cs', by go_num, by go_num, Hlg'.out, Hfs'.out, Hdl'.out⟩
              case measure => simp [intOf]; omega
theorem full_walk (w : World) (n : Int) (r : RcD) (hr : r.At w) (hb : -9223372036854775808 ≤ n ∧ n ≤ 9223372036854775807) : Calls Try.prog 7 #[.int .i64 n, .agg r.cells] w fun e w' => e = .returned (.bool true) ∧ Below w.heap.size w w' :=
  (full_walk0 w n r hr hb.1 hb.2).mono fun _ _ h => ⟨h.1, h.2.below (Nat.le_refl _) (fun _ _ => id)⟩
end Go.Proofs.Ytidligegmhlikaa
