/-
  The laws' own helpers run and alike.
-/
import Derived.Test.YtfgngmoeedegiaaAwake3
import Derived.Test.YtfgngmoeedegiaaDOps
import Derived.Deep.RegionHeld3
namespace Go.Proofs.Ytfgngmoeedegiaa
open Go Go.RowKit

def opRun (d : Dk) (x : OpD) : Dk := if x.kind = 0 then d.write x.at_ (fill x.b) else if x.kind = 1 then d.sync else d
def runD (n : Nat) (l : List OpD) : Dk := l.foldl opRun (Dk.fresh (List.replicate n (fill 0)))
theorem runD_snoc (n : Nat) (l : List OpD) (x : OpD) : runD n (l ++ [x]) = opRun (runD n l) x := by simp [runD]
theorem runD_take (n : Nat) (l : List OpD) (j : Nat) (x : OpD) (h : l[j]? = some x) : runD n (l.take (j + 1)) = opRun (runD n (l.take j)) x := by
  obtain ⟨hj, e⟩ := List.getElem?_eq_some_iff.1 h
  rw [List.take_succ_eq_append_getElem hj, e, runD_snoc]

theorem Dk.write_pend (d : Dk) (i : Int) (ys : List UInt8) : (d.write i ys).pend.length ≤ d.pend.length + 1 := by
  unfold Dk.write
  split
  · split
    · simp
    · rw [Dk.stepD_pend]; omega
  · omega
theorem Dk.sync_pend (d : Dk) : d.sync.pend.length ≤ d.pend.length := by
  unfold Dk.sync
  split
  · omega
  · split
    · simp
    · rw [Dk.stepD_pend]; omega
theorem opRun_pend (d : Dk) (x : OpD) : (opRun d x).pend.length ≤ d.pend.length + 1 := by
  unfold opRun
  split
  · exact Dk.write_pend _ _ _
  · split
    · have := Dk.sync_pend d; omega
    · omega
theorem runD_pend (n : Nat) (l : List OpD) (j : Nat) : (runD n (l.take j)).pend.length ≤ j := by
  induction j with
  | zero => simp [runD, Dk.fresh]
  | succ j ih =>
    cases h : l[j]? with
    | none =>
      have : l.length ≤ j := by simpa using h
      rw [List.take_of_length_le (by omega)]
      rw [List.take_of_length_le (by omega)] at ih
      omega
    | some x => rw [runD_take n l j x h]; have := opRun_pend (runD n (l.take j)) x; omega

set_option maxRecDepth 100000 in
set_option maxHeartbeats 4000000 in
theorem run_ok (w0 w : World) (hm : Mod (fun _ => False) w0 w) (A : Option Addr) (n c : Nat) (l : List OpD) (hl : OpsAt w0 A n c l) (hn : n ≤ 60) :
    Calls Try.prog 27 #[.int .i64 20, .slice A n c] w fun e w' => ∃ x, e = .returned (.pointer (some ⟨x.p, 0, none⟩)) ∧ Dev w0 w' x (runD 20 l) := by
  go_enter Try.func27, Try.ntmps27
  go_wp2_with fail
  refine (dev_new w0 w hm 20 (by omega) (by omega)).mono ?_
  rintro e w1 ⟨x0, rfl, h0⟩
  have H0 := Lib.hid h0
  have HL := Lib.hid hl
  clear h0 hl hm
  go_wp2_with fail
  go_loopw [7] (fun i wr => ∃ (j : Nat) (x : DV), j ≤ n ∧ i = .int .i64 j ∧ x.p = x0.p ∧ Dev w0 wr x (runD 20 (l.take j))) (fun i _ => n - (intOf i).toNat)
  case atStart => exact ⟨0, x0, by omega, rfl, rfl, H0.out⟩
  case round =>
    obtain ⟨j, x, hj, rfl, hxp, hd⟩ := hrel
    have Hd := Lib.hid hd
    have hpl := runD_pend 20 l j
    clear hd
    by_cases hlt : j < n
    · obtain ⟨y, hy⟩ : ∃ y, l[j]? = some y := ⟨_, List.getElem?_eq_getElem (by rw [HL.out.len]; exact hlt)⟩
      have Hk : Hid (∃ b o, A = some ⟨b, o, none⟩ ∧ ∀ w', Mod (fun _ => False) w0 w' → y.Cells w' b (o + j * 8)) := by
        obtain ⟨b, o, hA, hc⟩ := HL.out.cells (by omega)
        refine ⟨b, o, hA, fun w' hm' => ?_⟩
        obtain ⟨b', o', hA', hc'⟩ := (HL.out.keep hm').cells (by omega)
        rw [hA] at hA'
        injection hA' with hA'
        injection hA' with e1 e2
        subst e1; subst e2
        exact hc' j y hy
      obtain ⟨b, o, hA, hcs⟩ := Hk.out
      subst hA
      have Hcs := Lib.hid hcs
      obtain ⟨c0, c1, c2, c3, c4, c5, c6, c7⟩ := hcs wr Hd.out.old
      have Htk := Lib.hid (runD_take 20 l j y hy)
      generalize hdd : runD 20 (l.take j) = d at *
      clear hcs Hk hy c2 c4 c5 c6 c7 hdd
      by_cases hk0 : y.kind = 0
      · have e1 : Hid (opRun d y = d.write y.at_ (fill y.b)) := by show _ = _; unfold opRun; rw [if_pos hk0]
        rw [hk0] at c0
        have Hw : Hid (∀ (w2 : World) (g : Nat), FreshR wr.drew w2 (some ⟨g, 0, none⟩) 256 256 (fill y.b) → Calls Try.prog 13 #[.pointer (some ⟨x0.p, 0, none⟩), .int .i64 y.at_, .slice (some ⟨g, 0, none⟩) 256 256] w2 fun e w' =>
            e = .returned (.int .i64 (d.writeE y.at_ 256)) ∧ ∃ x', x'.p = x0.p ∧ Dev w0 w' x' (d.write y.at_ (fill y.b))) := by
          intro w2 g hf
          have := dev_writeS w0 wr.drew w2 x d (Hd.out.keep (Mod.refl _ wr).drew) y.at_ g y.b hf (by omega)
          rw [hxp] at this
          refine this.mono ?_
          rintro e w' ⟨he, x', h1, h2, _⟩
          exact ⟨he, x', h1, h2⟩
        have HS : Hid (∀ w', Mod (fun _ => False) w0 w' → w'.cell? ⟨b, o + j * 8 + 1, none⟩ = some (.int .i64 y.at_) ∧ w'.cell? ⟨b, o + j * 8 + 3, none⟩ = some (bv y.b)) := fun w' hm' => ⟨(Hcs.out w' hm').2.1, (Hcs.out w' hm').2.2.2.1⟩
        have Hold := Lib.hid Hd.out.old.drew
        clear Hd hxp
        go_wp2_with fail
        go_region_held3 (fun w' => w'.cell? ⟨b, o + j * 8 + 1, none⟩ = some (.int .i64 y.at_) ∧ w'.cell? ⟨b, o + j * 8 + 3, none⟩ = some (bv y.b)) (first | exact HS.out _ hd2.old | exact HS.out _ (Hold.out.trans hf.2 (fun _ _ h => h)) | exact HS.out _ Hold.out) (first | (go_at_call 12; refine (sector_ok _ y.b).mono ?_; rintro e w2 ⟨g, rfl, hf⟩) | (go_at_call 13; refine (Hw.out _ _ hf).mono ?_; rintro e w3 ⟨rfl, x2, hp2, hd2⟩))
        all_goals
          have H2 : Hid (Dev w0 w3 x2 (runD 20 (l.take (j + 1)))) := by rw [Htk.out, e1.out]; exact hd2
          clear hf hd2
          go_wp2
          go_roundw
          case rel => exact ⟨j + 1, x2, by omega, by go_num, hp2, H2.out⟩
          case measure => simp [intOf]; omega
      · have hb0 : (y.kind == 0) = false := by simpa using hk0
        by_cases hk1 : y.kind = 1
        · have e1 : Hid (opRun d y = d.sync) := by show _ = _; unfold opRun; rw [if_neg hk0, if_pos hk1]
          rw [hk1] at c0
          have hs := dev_sync w0 wr x d Hd.out (by omega)
          rw [hxp] at hs
          have Hs := Lib.hid hs
          clear Hd hxp hs
          go_wp2_with fail
          refine Hs.out.mono ?_
          rintro e w3 ⟨rfl, x2, hp2, hd2, _⟩
          have H2 : Hid (Dev w0 w3 x2 (runD 20 (l.take (j + 1)))) := by rw [Htk.out, e1.out]; exact hd2
          clear hd2
          go_wp2
          go_roundw
          case rel => exact ⟨j + 1, x2, by omega, by go_num, hp2, H2.out⟩
          case measure => simp [intOf]; omega
        · have e1 : Hid (opRun d y = d) := by show _ = _; unfold opRun; rw [if_neg hk0, if_neg hk1]
          have hb1 : (y.kind == 1) = false := by simpa using hk1
          have H2 : Hid (Dev w0 wr x (runD 20 (l.take (j + 1)))) := by rw [Htk.out, e1.out]; exact Hd.out
          clear Hd
          go_wp2
          go_roundw
          case rel => exact ⟨j + 1, x, by omega, by go_num, hxp, H2.out⟩
          case measure => simp [intOf]; omega
    · obtain rfl : j = n := by omega
      rw [List.take_of_length_le (by rw [HL.out.len]; omega)] at Hd
      rw [← hxp]
      go_wp2
      go_ret
      exact ⟨x, rfl, Hd.out⟩

theorem Dk.reach_live {d : Dk} (h : d.dead = false) {i : Nat} (hi : i < d.dur.length) : d.reach i = 0 := by
  unfold Dk.reach
  rw [if_neg (by simp [h]), if_pos (by omega)]
theorem Dk.read_live {d : Dk} (h : d.dead = false) {i : Nat} (hi : i < d.dur.length) : d.read i = d.now.getD i [] := by
  unfold Dk.read
  rw [if_pos (Dk.reach_live h hi), Int.toNat_natCast]
theorem Dk.now_len (d : Dk) : d.now.length = d.dur.length := lay_len _ _
theorem Dk.Good.nowAll {d : Dk} (h : d.Good) : ∀ s ∈ d.now, s.length = 256 := by
  intro s hs
  rcases mem_lay d.pend d.dur s hs with h1 | ⟨y, hy, e⟩
  · exact h.dur s h1
  · rw [← e]; exact (h.pend y hy).2
theorem Dk.Good.nowAt {d : Dk} (h : d.Good) {i : Nat} (hi : i < d.dur.length) : (d.now.getD i []).length = 256 := by
  have hl : i < d.now.length := by rw [d.now_len]; exact hi
  rw [List.getD_eq_getElem?_getD, List.getElem?_eq_getElem hl]
  exact h.nowAll _ (List.getElem_mem hl)

set_option maxRecDepth 100000 in
set_option maxHeartbeats 4000000 in
/-- Two devices whose sectors read alike. -/
theorem alike_ok (w0 w : World) (xa xb : DV) (da db : Dk) (ha : Dev w0 w xa da) (hb : Dev w0 w xb db) (hl : da.dur.length = db.dur.length) (hda : da.dead = false) (hdb : db.dead = false) (hn : da.now = db.now) (hf : da.dur.length ≤ 4096) :
    Calls Try.prog 28 #[.pointer (some ⟨xa.p, 0, none⟩), .pointer (some ⟨xb.p, 0, none⟩)] w fun e w' => e = .returned (.bool true) ∧ Mod (fun _ => False) w w' := by
  have Ha := Lib.hid ha
  have Hb := Lib.hid hb
  have hlb := dev_len w0 w xb db hb
  rw [← hl] at hlb
  have Hlb := Lib.hid hlb
  clear ha hb hlb
  go_enter Try.func28, Try.ntmps28
  go_wp2_with fail
  refine (dev_len w0 w xa da Ha.out).mono ?_
  rintro e w' ⟨rfl, rfl⟩
  go_wp2_with fail
  refine Hlb.out.mono ?_
  rintro e w'' ⟨rfl, hw''⟩
  subst hw''
  clear Hlb
  go_wp2_with fail
  go_loopw [5] (fun i wr => ∃ j : Nat, j ≤ da.dur.length ∧ i = .int .i64 j ∧ Mod (fun _ => False) w'' wr) (fun i _ => da.dur.length - (intOf i).toNat)
  case atStart => exact ⟨0, by omega, rfl, Mod.refl _ _⟩
  case round =>
    obtain ⟨j, hj, rfl, hm⟩ := hrel
    have Har := Lib.hid (Ha.out.keep hm)
    have Hbr := Lib.hid (Hb.out.keep hm)
    have Hm := Lib.hid hm
    clear hm
    go_wp2_with fail
    refine (dev_len w0 wr xa da Har.out).mono ?_
    rintro e w1 ⟨rfl, hw1⟩
    subst hw1
    by_cases hlt : j < da.dur.length
    · have hra := dev_read w0 w1 xa da Har.out j
      rw [Dk.reach_live hda hlt, Dk.read_live hda hlt] at hra
      have Hra := Lib.hid hra
      have H256 := Lib.hid (Har.out.good.nowAt hlt)
      clear hra
      go_wp2_with fail
      refine Hra.out.mono ?_
      rintro e w2 ⟨A, n2, c2, rfl, hf2⟩
      have hrb := dev_read w0 w2 xb db (Hbr.out.keep hf2.2) j
      rw [Dk.reach_live hdb (by omega), Dk.read_live hdb (by omega), ← hn] at hrb
      have Hrb := Lib.hid hrb
      have Hs2 := Lib.hid hf2.sl
      have Hm2 := Lib.hid (Hm.out.trans hf2.2 (fun _ _ h => h))
      clear hrb hf2 Hra
      go_wp2_with fail
      refine Hrb.out.mono ?_
      rintro e w3 ⟨B, n3, c3, rfl, hf3⟩
      have Hs3 := Lib.hid (Hs2.out.mod hf3.2 (fun _ _ _ => id))
      have Ht3 := Lib.hid hf3.sl
      have Hm3 := Lib.hid (Hm2.out.trans hf3.2 (fun _ _ h => h))
      have hn2 : n2 = 256 := by rw [← Hs3.out.len]; exact H256.out
      have hn3 : n3 = 256 := by rw [← Ht3.out.len]; exact H256.out
      subst hn2; subst hn3
      clear hf3 Hrb Hs2 Hm2
      go_wp2_with fail
      refine (same_ok _ _ _ _ _ _ _ _ _ Hs3.out Ht3.out (by omega) (by omega)).mono ?_
      rintro e w4 ⟨rfl, q, rfl⟩
      rw [eqB_self]
      have Hm4 := Lib.hid (Hm3.out.drewN q)
      generalize w3.drewN q = w4 at *
      clear Hs3 Ht3 Hm3
      go_wp2
      go_roundw
      case rel => exact ⟨j + 1, by omega, by go_num, Hm4.out⟩
      case measure => simp [intOf]; omega
    · obtain rfl : j = da.dur.length := by omega
      go_wp2
      go_ret
      exact ⟨rfl, Hm.out⟩
end Go.Proofs.Ytfgngmoeedegiaa
