/-
  bobbinlaw08.WalNext.
-/
import Derived.Test.YtidligegmhlikaaQW3
namespace Go.Proofs.Ytidligegmhlikaa
open Go Go.RowKit Go.Shelf

def Lg.next (g : Lg) : Int := 256 * (g.nx + g.un)
def Lg.free (g : Lg) : Int := g.n - (g.nx - g.st) - g.un
structure Kin (g g' : Lg) : Prop where
  b : g'.b = g.b
  n : g'.n = g.n
  ep : g'.ep = g.ep
  fr : g'.fr = g.fr
  st : g'.st = g.st
theorem Lg.un_cons {g : Lg} {l : List RcD} {y : RcD} (h : g.l = l ++ [y]) : g.un = 1 := by unfold Lg.un; rw [if_neg (by rw [h]; simp)]
theorem Lg.un_nil {g : Lg} (h : g.l = []) : g.un = 0 := by unfold Lg.un; rw [if_pos h]
theorem Lg.un_some {g : Lg} (h : g.l ≠ []) : g.un = 1 := by unfold Lg.un; rw [if_neg h]
section
variable {g g' : Lg} {d d' : Dk} {r : RcD} {a er : Int}
theorem App.kin (h : App g d r a er g' d') : Kin g g' := by cases h <;> exact ⟨rfl, rfl, rfl, rfl, rfl⟩
theorem App.du (h : App g d r a er g' d') : g'.du = g.du := by cases h <;> rfl
/-- What an answer tells. -/
theorem App.tells (h : App g d r a er g' d') {N : Nat} (ok : g.Ok N) : (er ≠ 0 ∧ a = 0 ∧ g' = g ∧ d' = d) ∨ (er = 0 ∧ 256 * g'.du ≤ a ∧ a < g'.next ∧ g'.free ≤ g.free ∧ g.free - 1 ≤ g'.free) := by
  have h1 := ok.dn
  have h2 := (fits_may ok.fit).2
  have h3 := g.un_bd
  cases h with
  | arg _ => exact .inl ⟨by omega, rfl, rfl, rfl⟩
  | full _ _ => exact .inl ⟨by omega, rfl, rfl, rfl⟩
  | fit y _ _ _ _ =>
    right
    have hu : ({ g with l := g.l ++ [y] } : Lg).un = 1 := Lg.un_cons rfl
    unfold Lg.next Lg.free
    rw [hu]
    refine ⟨rfl, ?_, ?_, ?_, ?_⟩ <;> simp only <;> omega
  | next y _ hl _ _ _ =>
    right
    have hu : ({ g.wrote with l := [y] } : Lg).un = 1 := Lg.un_cons (l := []) rfl
    have hu' := Lg.un_some hl
    unfold Lg.next Lg.free
    rw [hu, hu']
    refine ⟨rfl, ?_, ?_, ?_, ?_⟩ <;> simp only [Lg.wrote] <;> omega
end
theorem Lg.forced_kin (g : Lg) : Kin g g.forced := by
  unfold Lg.forced Lg.push
  split <;> exact ⟨rfl, rfl, rfl, rfl, rfl⟩
theorem Lg.forced_l (g : Lg) : g.forced.l = [] := by
  unfold Lg.forced Lg.push
  split
  · rename_i h; exact h
  · rfl
theorem Lg.forced_nx (g : Lg) : g.forced.nx = g.nx + g.un ∧ g.forced.du = g.forced.nx := by
  refine ⟨?_, rfl⟩
  unfold Lg.forced Lg.push Lg.un
  split
  · show g.nx = g.nx + 0; omega
  · rfl
theorem Lg.forced_free (g : Lg) : g.forced.free = g.free ∧ g.forced.next = 256 * g.forced.nx := by
  unfold Lg.free Lg.next
  rw [Lg.un_nil g.forced_l, g.forced_nx.1, g.forced_kin.n, g.forced_kin.st]
  omega
theorem pend_le {w0 w : World} {p px : Nat} {g : Lg} {d : Dk} (h : Lgs w0 w p px g d) {k : Nat} (hs : g.st = 0) (hn : g.n ≤ k) : d.pend.length ≤ k := by
  have h1 := h.wait
  have h2 := h.ok.room
  have h3 := h.ok.d0
  omega

set_option maxRecDepth 100000 in
set_option maxHeartbeats 4000000 in
theorem next_walk0 (w : World) (A : Option Addr) (n c : Nat) (l : List OpD) (h : OpsAt w A n c l) : Calls Try.prog 6 #[.slice A n c] w fun e w' => e = .returned (.bool true) ∧ Mod (fun _ => False) w w' := by
  have Ha := Lib.hid (awake_ok w)
  have H := Lib.hid h
  have hl := h.len
  clear h
  go_enter Try.func6, Try.ntmps6
  go_wp2_with fail
  refine Ha.out.mono ?_
  rintro e w1 ⟨rfl, hm1⟩
  have Hf := Lib.hid (few_ok w1 A n c l (H.out.keep hm1))
  have Hm1 := Lib.hid hm1
  clear hm1 Ha
  go_wp2_with fail
  cases hfw : fewB l with
  | false =>
    rw [hfw] at Hf
    clear hfw
    refine Hf.out.mono ?_
    rintro e w2 ⟨rfl, hm2⟩
    have Hm2 := Lib.hid (Hm1.out.trans hm2 (fun _ _ h => h))
    clear hm2 Hf
    go_wp2
    go_ret
    exact ⟨rfl, Hm2.out⟩
  | true =>
    rw [hfw] at Hf
    have hn60 : n ≤ 60 := by have := fewB_true hfw; omega
    clear hfw
    refine Hf.out.mono ?_
    rintro e w2 ⟨rfl, hm2⟩
    have Hm2 := Lib.hid (Hm1.out.trans hm2 (fun _ _ h => h))
    have H0 := Lib.hid (dev_new w w2 Hm2.out 32 (by omega) (by omega))
    clear hm2 Hf Hm1
    go_wp2_with fail
    refine H0.out.mono ?_
    rintro e w3 ⟨x, rfl, hx⟩
    have hlen : (Dk.fresh (List.replicate (32 : Int).toNat (fill 0))).dur.length = 32 := by show (List.replicate 32 (fill 0)).length = 32; simp
    have H1 := Lib.hid (lgs_new w3 w x _ hx 2 30 1 0 0 (by omega) (by omega) (by omega) (by rw [hlen]; constructor <;> omega) rfl rfl rfl)
    clear hx H0 hlen
    generalize Dk.fresh (List.replicate (32 : Int).toNat (fill 0)) = d0 at *
    go_wp2_with fail
    refine H1.out.mono ?_
    rintro e w4 ⟨p, rfl, hL4, _⟩
    obtain ⟨px, hpx⟩ : ∃ px, x.p = px := ⟨_, rfl⟩
    rw [hpx] at hL4 ⊢
    have HL4 := Lib.hid hL4
    clear hL4 H1 hpx
    go_wp2
    go_loopw [9] (fun i wr => ∃ (j : Nat) (g : Lg) (d : Dk), j ≤ n ∧ i = .int .i64 j ∧ Lgs w wr p px g d ∧ g.n = 30 ∧ g.st = 0) (fun i _ => n - (intOf i).toNat)
    case atStart => exact ⟨0, _, _, by omega, rfl, HL4.out, rfl, rfl⟩
    case round =>
      obtain ⟨j, g, d, hj, rfl, hL, hgn, hgs⟩ := hrel
      have HL := Lib.hid hL
      have HN : Hid (g.n = 30 ∧ g.st = 0) := ⟨hgn, hgs⟩
      have Hpd : Hid (d.pend.length ≤ 30) := pend_le hL hgs (by omega)
      have Hok := Lib.hid hL.ok
      have fb : 0 ≤ g.free ∧ g.free ≤ 30 := by have := hL.ok.next; have := hL.ok.sn; have := g.un_bd; unfold Lg.free; omega
      clear hL hgn hgs HL4
      by_cases hlt : j < n
      · obtain ⟨y, hy⟩ : ∃ y, l[j]? = some y := ⟨_, List.getElem?_eq_getElem (by omega)⟩
        have Hfr := Lib.hid (lgs_free_ok HL.out)
        have Hfr : Hid (Calls Try.prog 23 #[.pointer (some ⟨p, 0, none⟩)] wr fun e w' => e = .returned (.int .i64 g.free) ∧ Lgs w w' p px g d ∧ Mod (fun _ => False) wr w') := Hfr
        obtain ⟨fr, hfr⟩ : ∃ fr, g.free = fr := ⟨_, rfl⟩
        have Hfe := Lib.hid hfr
        rw [hfr] at Hfr fb
        obtain ⟨fb0, fb1⟩ := fb
        clear hfr
        go_wp2_with fail
        refine Hfr.out.mono ?_
        rintro e w5 ⟨rfl, hL5, _⟩
        obtain ⟨b, o, hA, hcs⟩ := (H.out.keep hL5.old).cells (by omega)
        subst hA
        obtain ⟨k, _, ⟨k0, k1, k2, k3, k4, k5, k6, k7, k8, k9, k10, k11, k12, k13⟩, _, _, _⟩ := hcs j y hy
        have Hat := Lib.hid ((H.out.keep hL5.old).ats y (List.mem_of_getElem? hy)).1
        have HL5 := Lib.hid hL5
        clear Hfr hL5 hcs HL
        by_cases hk1 : y.k = 1
        · rw [hk1] at k
          have Hfo := Lib.hid (lgs_force HL5.out (by have := Hpd.out; omega))
          clear hk1
          go_wp2_with fail
          refine Hfo.out.mono ?_
          rintro e w6 ⟨rfl, hL6⟩
          have hL6' : Hid (Lgs w w6 p px g.forced (g.forcedD d)) := hL6
          have hff := g.forced_free
          have hfn := g.forced_nx.2
          have HK : Hid (g.forced.n = 30 ∧ g.forced.st = 0) := ⟨g.forced_kin.n.trans HN.out.1, g.forced_kin.st.trans HN.out.2⟩
          rw [Hfe.out] at hff
          have Hl6 := Lib.hid g.forced_l
          obtain ⟨g6, hg6⟩ : ∃ g6, g.forced = g6 := ⟨_, rfl⟩
          obtain ⟨d6, hd6⟩ : ∃ d6, g.forcedD d = d6 := ⟨_, rfl⟩
          rw [hg6, hd6] at hL6'
          rw [hg6] at hff hfn HK Hl6
          have Hff := Lib.hid hff
          have Hfn := Lib.hid hfn
          have nxb : Hid (0 ≤ g6.nx ∧ g6.nx ≤ 30) := by have ok := hL6'.out.ok; have := ok.s0; have := ok.sn; have := ok.room; have := HK.out; exact ⟨by omega, by omega⟩
          clear hL6 hff hfn hg6 hd6 Hfo HL5 k0 k1 k2 k3 k4 k5 k6 k7 k8 k9 k10 k11 k12 k13 Hat Hok
          have h7 := lgs_next_ok hL6'.out
          rw [show 256 * (g6.nx + g6.un) = 256 * g6.nx from Hff.out.2] at h7
          have H7 := Lib.hid h7
          clear h7
          have nx0 := nxb.out.1
          have nx1 := nxb.out.2
          go_wp2_with fail
          refine H7.out.mono ?_
          rintro e w7 ⟨rfl, hL7, _⟩
          have h8 := lgs_durable_ok hL7
          rw [show 256 * g6.du = 256 * g6.nx by rw [Hfn.out]] at h8
          have H8 := Lib.hid h8
          clear h8 H7 hL7
          go_wp2_with fail
          refine H8.out.mono ?_
          rintro e w8 ⟨rfl, hL8, _⟩
          have h9 := lgs_waits hL8
          rw [show g6.nx - g6.du = 0 by rw [Hfn.out]; omega] at h9
          have H9 := Lib.hid h9
          clear h9 H8 hL8
          go_wp2_with fail
          refine H9.out.mono ?_
          rintro e w9 ⟨rfl, hL9, _⟩
          have h10 := lgs_free_ok hL9
          rw [show g6.n - (g6.nx - g6.st) - g6.un = fr from Hff.out.1] at h10
          have H10 := Lib.hid h10
          clear h10 H9 hL9
          go_wp2_with fail
          refine H10.out.mono ?_
          rintro e w10 ⟨rfl, hL10, _⟩
          have Hfo := Lib.hid (lgs_force hL10 (by have := pend_le hL10 HK.out.2 (k := 30) (by have := HK.out.1; omega); omega))
          clear H10 hL10
          go_wp2_with fail
          refine Hfo.out.mono ?_
          rintro e w11 ⟨rfl, hL11⟩
          have e1 : g6.forced = g6 := by
            unfold Lg.forced Lg.push
            rw [if_pos Hl6.out, ← Hfn.out]
          rw [e1] at hL11
          obtain ⟨d11, hd11⟩ : ∃ d11, g6.forcedD d6 = d11 := ⟨_, rfl⟩
          rw [hd11] at hL11
          have h12 := lgs_next_ok hL11
          rw [show 256 * (g6.nx + g6.un) = 256 * g6.nx from Hff.out.2] at h12
          have H12 := Lib.hid h12
          clear h12 Hfo hL11 e1 hd11
          go_wp2_with fail
          refine H12.out.mono ?_
          rintro e w12 ⟨rfl, hL12, _⟩
          have h13 := lgs_free_ok hL12
          rw [show g6.n - (g6.nx - g6.st) - g6.un = fr from Hff.out.1] at h13
          have H13 := Lib.hid h13
          clear h13 H12 hL12
          go_wp2_with fail
          refine H13.out.mono ?_
          rintro e w13 ⟨rfl, hL13, _⟩
          have HL13 := Lib.hid hL13
          clear hL13 H13
          go_wp2
          go_roundw
          case rel => exact ⟨j + 1, g6, d11, by omega, by go_num, HL13.out, HK.out.1, HK.out.2⟩
          case measure => simp [intOf]; omega
        · have hne : (y.k != 1) = true := by simpa using hk1
          have Hap := Lib.hid (lgs_app HL5.out y.r Hat.out (by have := Hpd.out; omega))
          clear hk1
          go_wp2_with fail
          refine Hap.out.mono ?_
          rintro e w6 ⟨a, er, g6, d6, rfl, happ, hL6⟩
          have htl := happ.tells Hok.out
          have HK : Hid (g6.n = 30 ∧ g6.st = 0) := ⟨happ.kin.n.trans HN.out.1, happ.kin.st.trans HN.out.2⟩
          have HL6 := Lib.hid hL6
          rw [Hfe.out] at htl
          clear Hap HL5 k0 k1 k2 k3 k4 k5 k6 k7 k8 k9 k10 k11 k12 k13 Hat hL6 happ
          rcases htl with ⟨e1, e2, e3, e4⟩ | ⟨e1, e2, e3, e4, e5⟩
          · subst e2
            have he1 : (er == 0) = false := by simpa using e1
            have he2 : (er != 0) = true := by simpa using e1
            have h7 := lgs_free_ok HL6.out
            rw [show g6.n - (g6.nx - g6.st) - g6.un = fr by rw [e3]; exact Hfe.out] at h7
            have HE6 : Hid (g6.free = fr) := by show _ = _; rw [e3]; exact Hfe.out
            have H7 := Lib.hid h7
            clear h7 e1 e3 e4
            go_wp2_with fail
            refine H7.out.mono ?_
            rintro e w7 ⟨rfl, hL7, _⟩
            have h8 := lgs_free_ok hL7
            rw [show g6.n - (g6.nx - g6.st) - g6.un = fr from HE6.out] at h8
            have H8 := Lib.hid h8
            clear h8 H7 hL7
            go_wp2_with fail
            refine H8.out.mono ?_
            rintro e w8 ⟨rfl, hL8, _⟩
            have HL8 := Lib.hid hL8
            clear hL8 H8
            go_wp2
            go_roundw
            case rel => exact ⟨j + 1, g6, d6, by omega, by go_num, HL8.out, HK.out.1, HK.out.2⟩
            case measure => simp [intOf]; omega
          · subst e1
            obtain ⟨f6, hf6⟩ : ∃ f6, g6.free = f6 := ⟨_, rfl⟩
            obtain ⟨n6, hn6⟩ : ∃ n6, g6.next = n6 := ⟨_, rfl⟩
            obtain ⟨u6, hu6⟩ : ∃ u6, 256 * g6.du = u6 := ⟨_, rfl⟩
            rw [hf6] at e4 e5
            rw [hn6] at e3
            rw [hu6] at e2
            have q1 : decide (a < u6) = false := by simpa using e2
            have q2 : decide (n6 ≤ a) = false := by simpa using e3
            have q3 : decide (fr < f6) = false := by simpa using e4
            have q4 : decide (f6 < fr - 1) = false := by simpa using e5
            have Hf6 := Lib.hid hf6
            have Hn6 := Lib.hid hn6
            have h7 := lgs_durable_ok HL6.out
            rw [hu6] at h7
            have H7 := Lib.hid h7
            clear h7 e2 e3 e4 e5 hf6 hn6 hu6
            go_wp2_with fail
            refine H7.out.mono ?_
            rintro e w7 ⟨rfl, hL7, _⟩
            have h8 := lgs_next_ok hL7
            rw [show 256 * (g6.nx + g6.un) = n6 from Hn6.out] at h8
            have H8 := Lib.hid h8
            clear h8 H7 hL7
            go_wp2_with fail
            refine H8.out.mono ?_
            rintro e w8 ⟨rfl, hL8, _⟩
            have h9 := lgs_free_ok hL8
            rw [show g6.n - (g6.nx - g6.st) - g6.un = f6 from Hf6.out] at h9
            have H9 := Lib.hid h9
            clear h9 H8 hL8
            go_wp2_with fail
            refine H9.out.mono ?_
            rintro e w9 ⟨rfl, hL9, _⟩
            have h10 := lgs_free_ok hL9
            rw [show g6.n - (g6.nx - g6.st) - g6.un = f6 from Hf6.out] at h10
            have H10 := Lib.hid h10
            clear h10 H9 hL9
            go_wp2_with fail
            refine H10.out.mono ?_
            rintro e w10 ⟨rfl, hL10, _⟩
            have HL10 := Lib.hid hL10
            clear hL10 H10
            go_wp2
            go_roundw
            case rel => exact ⟨j + 1, g6, d6, by omega, by go_num, HL10.out, HK.out.1, HK.out.2⟩
            case measure => simp [intOf]; omega
      · obtain rfl : j = n := by omega
        have Hm := Lib.hid HL.out.old
        go_wp2
        go_ret
        exact ⟨rfl, Hm.out⟩
theorem next_walk (w : World) (A : Option Addr) (n c : Nat) (l : List OpD) (h : OpsAt w A n c l) : Calls Try.prog 6 #[.slice A n c] w fun e w' => e = .returned (.bool true) ∧ Below w.heap.size w w' :=
  (next_walk0 w A n c l h).mono fun _ _ h => ⟨h.1, h.2.below (Nat.le_refl _) (fun _ _ => id)⟩
end Go.Proofs.Ytidligegmhlikaa
