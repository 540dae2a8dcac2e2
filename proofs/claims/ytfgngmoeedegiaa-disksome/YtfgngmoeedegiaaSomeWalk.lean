/-
  DiskSome: behind a crash that tears nothing each sector is one that was written there, or zeros.
-/
import Derived.Test.YtfgngmoeedegiaaEndsWalk
namespace Go.Proofs.Ytfgngmoeedegiaa
open Go Go.RowKit

/-- A sector of one byte, that was written there, or of zeros. -/
def Prov (l : List OpD) (i : Nat) (s : List UInt8) : Prop := ∃ b, s = fill b ∧ (b = 0 ∨ ∃ y ∈ l, y.kind = 0 ∧ y.at_ = i ∧ y.b = b)
structure Dk.Prov (l : List OpD) (d : Dk) : Prop where
  dur : ∀ i s, d.dur[i]? = some s → Go.Proofs.Ytfgngmoeedegiaa.Prov l i s
  pend : ∀ y ∈ d.pend, Go.Proofs.Ytfgngmoeedegiaa.Prov l y.1 y.2
theorem lay_prov (l : List OpD) (W : List (Nat × List UInt8)) : ∀ D : List (List UInt8), (∀ i s, D[i]? = some s → Prov l i s) → (∀ y ∈ W, Prov l y.1 y.2) → ∀ i s, (lay D W)[i]? = some s → Prov l i s := by
  induction W with
  | nil => intro D hD _; exact hD
  | cons y W ih =>
    intro D hD hW
    refine ih (D.set y.1 y.2) (fun i s hs => ?_) (fun z hz => hW z (List.mem_cons_of_mem _ hz))
    rw [List.getElem?_set] at hs
    split at hs
    · rename_i e
      split at hs
      · injection hs with hs; subst hs; subst e; exact hW y (List.mem_cons_self ..)
      · cases hs
    · exact hD i s hs
theorem opRun_prov {l : List OpD} {d : Dk} {n : Nat} (hc : d.Calm n) (h : d.Prov l) (x : OpD) (hx : x ∈ l) : (opRun d x).Prov l := by
  unfold opRun
  split
  · rename_i hk
    unfold Dk.write
    rw [hc.stepE, hc.stepD]
    split
    · rename_i hr
      refine ⟨h.dur, fun y hy => ?_⟩
      rcases List.mem_append.1 hy with hy | hy
      · exact h.pend y hy
      · simp at hy
        subst hy
        have := Dk.reach_zero hr.1
        exact ⟨x.b, rfl, .inr ⟨x, hx, hk, by simp only; omega, rfl⟩⟩
    · exact h
  · split
    · rw [hc.sync_eq]
      exact ⟨lay_prov l d.pend d.dur h.dur h.pend, by simp⟩
    · exact h
theorem foldl_prov {l : List OpD} {n : Nat} (r : List OpD) : ∀ d : Dk, d.Calm n → d.Prov l → (∀ x ∈ r, x ∈ l) → (r.foldl opRun d).Prov l := by
  induction r with
  | nil => intro d _ h _; exact h
  | cons x r ih => intro d hc h hr; exact ih _ (hc.opRun x) (opRun_prov hc h x (hr x (List.mem_cons_self ..))) (fun y hy => hr y (List.mem_cons_of_mem _ hy))
theorem runD_prov (n : Nat) (l : List OpD) : (runD n l).Prov l := by
  refine foldl_prov l _ ⟨rfl, rfl, List.length_replicate⟩ ⟨fun i s hs => ?_, by simp [Dk.fresh]⟩ (fun _ h => h)
  have : s = fill 0 := List.eq_of_mem_replicate (List.mem_of_getElem? hs)
  exact ⟨0, this, .inl rfl⟩
theorem crashGo_prov (l : List OpD) (f : Nat → Nat) (hf : ∀ i, f i = 0 ∨ f i = 256) (W : List (Nat × List UInt8)) : ∀ (j : Nat) (D : List (List UInt8)), (∀ s ∈ D, s.length = 256) → (∀ y ∈ W, y.1 < D.length ∧ y.2.length = 256) →
    (∀ i s, D[i]? = some s → Prov l i s) → (∀ y ∈ W, Prov l y.1 y.2) → ∀ i s, (crashGo f j W D)[i]? = some s → Prov l i s := by
  induction W with
  | nil => intro j D _ _ hD _; exact hD
  | cons y W ih =>
    intro j D h256 hW hD hP
    have hy := hW y (List.mem_cons_self ..)
    have tailP := fun z (hz : z ∈ W) => hP z (List.mem_cons_of_mem _ hz)
    have tailW := fun z (hz : z ∈ W) => hW z (List.mem_cons_of_mem _ hz)
    show ∀ i s, (crashGo f (j + 1) W (D.set y.1 (partOf (D.getD y.1 []) y.2 (f j))))[i]? = some s → Prov l i s
    rcases hf j with h0 | h1
    · rw [h0, part_zero, set_getD]
      exact ih _ D h256 tailW hD tailP
    · rw [h1, part_all _ _ (getD_len h256 hy.1) hy.2]
      refine ih _ _ (fun s hs => ?_) (fun z hz => by rw [List.length_set]; exact tailW z hz) (fun i s hs => ?_) tailP
      · rcases List.mem_or_eq_of_mem_set hs with q | q
        · exact h256 s q
        · rw [q]; exact hy.2
      · rw [List.getElem?_set] at hs
        split at hs
        · rename_i e
          split at hs
          · injection hs with hs; subst hs; subst e; exact hP y (List.mem_cons_self ..)
          · cases hs
        · exact hD i s hs
theorem keptN_or (ks : List Bool) (i : Nat) : keptN ks (-1) 0 i = 0 ∨ keptN ks (-1) 0 i = 256 := by
  unfold keptN
  rw [if_neg (by omega)]
  split
  · exact .inr rfl
  · exact .inl rfl
/-- What Read finds there. -/
theorem some_read (l : List OpD) (ks : List Bool) (hg : (runD 20 l).Good) (at_ : Nat) (h : at_ < 20) :
    ∃ b, ((runD 20 l).crash (keptN ks (-1) 0)).read at_ = fill b ∧ ((runD 20 l).crash (keptN ks (-1) 0)).reach at_ = 0 ∧ (b = 0 ∨ ∃ y ∈ l, y.kind = 0 ∧ y.at_ = at_ ∧ y.b = b) := by
  have hc := crash_calm (d := runD 20 l) (keptN ks (-1) 0)
  have hlen : ((runD 20 l).crash (keptN ks (-1) 0)).dur.length = 20 := by rw [hc.len, (runD_calm 20 l).len]
  have hp := runD_prov 20 l
  have hpr := crashGo_prov l (keptN ks (-1) 0) (keptN_or ks) (runD 20 l).pend 0 (runD 20 l).dur hg.dur hg.pend hp.dur hp.pend
  have hl : at_ < (crashGo (keptN ks (-1) 0) 0 (runD 20 l).pend (runD 20 l).dur).length := by have : _ = _ := hlen; rw [← crash_now, Dk.now_len, hlen]; exact h
  obtain ⟨b, e, hb⟩ := hpr at_ _ (List.getElem?_eq_getElem hl)
  refine ⟨b, ?_, Dk.reach_live hc.dead (by rw [hlen]; exact h), hb⟩
  rw [Dk.read_live hc.dead (by rw [hlen]; exact h), crash_now, List.getD_eq_getElem?_getD, List.getElem?_eq_getElem hl]
  exact e

def hit (at_ : Nat) (b : UInt8) (y : OpD) : Bool := decide (y.kind = 0) && decide (y.at_ = at_) && decide (y.b = b)
def seen (at_ : Nat) (b : UInt8) (l : List OpD) : Bool := decide (b = 0) || l.any (hit at_ b)
theorem seen_take (at_ : Nat) (b : UInt8) (l : List OpD) (j : Nat) (y : OpD) (h : l[j]? = some y) : seen at_ b (l.take (j + 1)) = (seen at_ b (l.take j) || hit at_ b y) := by
  obtain ⟨hj, e⟩ := List.getElem?_eq_some_iff.1 h
  unfold seen
  rw [List.take_succ_eq_append_getElem hj, e, List.any_append, List.any_cons, List.any_nil, Bool.or_false, Bool.or_assoc]
theorem seen_all (at_ : Nat) (b : UInt8) (l : List OpD) (h : b = 0 ∨ ∃ y ∈ l, y.kind = 0 ∧ y.at_ = at_ ∧ y.b = b) : seen at_ b l = true := by
  unfold seen
  rcases h with h | ⟨y, hy, h1, h2, h3⟩
  · simp [h]
  · rw [Bool.or_eq_true]
    right
    rw [List.any_eq_true]
    exact ⟨y, hy, by simp [hit, h1, h2, h3]⟩
theorem byte_eq (a b : UInt8) : ((a.toNat : Int) == (b.toNat : Int)) = decide (a = b) := by
  by_cases h : a = b
  · subst h; simp
  · have : ¬ (a.toNat : Int) = b.toNat := fun e => h (UInt8.toNat_inj.1 (by omega))
    simp [h, this]

set_option maxRecDepth 100000 in
set_option maxHeartbeats 4000000 in
theorem some_long (A B : Option Addr) (n c m d : Nat) (w : World) (v1 v2 : Bool) (e1 : decide ((60 : Int) < n) = v1) (e2 : decide ((60 : Int) < m) = v2) (h : (v1 || v2) = true) :
    Calls Try.prog 8 #[.slice A n c, .slice B m d] w fun e w' => e = .returned (.bool true) ∧ Below w.heap.size w w' := by
  go_enter Try.func8, Try.ntmps8
  go_wp2_with fail
  refine (awake_ok _).mono ?_
  rintro e w1 ⟨rfl, hm1⟩
  cases v1 <;> cases v2 <;> first | (exact absurd h (by decide)) | skip
  all_goals
    clear h
    go_wp2
    go_ret
    exact ⟨rfl, hm1.below (Nat.le_refl _) (fun _ _ => id)⟩

set_option maxRecDepth 100000 in
set_option maxHeartbeats 8000000 in
theorem some_walk (A B : Option Addr) (n c m d : Nat) (l : List OpD) (ks : List Bool) (w : World) (hl : OpsAt w A n c l) (hk : Bl w B m d ks) (hkm : m ≤ 9223372036854775807) :
    Calls Try.prog 8 #[.slice A n c, .slice B m d] w fun e w' => e = .returned (.bool true) ∧ Below w.heap.size w w' := by
  by_cases hnm : 60 < n ∨ 60 < m
  · refine some_long A B n c m d w _ _ rfl rfl ?_
    rw [Bool.or_eq_true, decide_eq_true_eq, decide_eq_true_eq]
    omega
  have hn1 : decide ((60 : Int) < n) = false := by simp; omega
  have hn2 : decide ((60 : Int) < m) = false := by simp; omega
  have hn60 : n ≤ 60 := by omega
  have Hl := Lib.hid hl
  have Hk := Lib.hid hk
  have hpl : (runD 20 l).pend.length ≤ 60 := by
    have := runD_pend 20 l n
    rw [List.take_of_length_le (by rw [hl.len]; omega)] at this
    omega
  have Hpl := Lib.hid hpl
  clear hl hk hnm hpl
  go_enter Try.func8, Try.ntmps8
  go_wp2_with fail
  refine (awake_ok _).mono ?_
  rintro e w1 ⟨rfl, hm1⟩
  have Hm1 := Lib.hid hm1
  clear hm1
  go_wp2_with fail
  refine (run_ok w w1 Hm1.out A n c l Hl.out hn60).mono ?_
  rintro e w2 ⟨xa, rfl, ha⟩
  have Ha := Lib.hid ha
  have Hread := Lib.hid (some_read l ks ha.good)
  have Hc := Lib.hid (dev_crash w w2 xa _ ha (by have := Hpl.out; omega) B m d ks (-1) 0 (Hk.out.keep ha.old) hkm)
  clear ha Hm1
  go_wp2_with fail
  refine Hc.out.mono ?_
  rintro e w3 ⟨x, rfl, hx, _⟩
  obtain ⟨dc, hdc⟩ : ∃ dc, dc = (runD 20 l).crash (keptN ks (-1) 0) := ⟨_, rfl⟩
  rw [← hdc] at hx Hread
  have Hx := Lib.hid hx
  clear hx Hc Ha hdc Hpl
  go_wp2_with fail
  go_loopw [7] (fun i wr => ∃ j : Nat, j ≤ 20 ∧ i = .int .i64 j ∧ Dev w wr x dc) (fun i _ => 20 - (intOf i).toNat)
  case atStart => exact ⟨0, by omega, rfl, Hx.out⟩
  case round =>
    obtain ⟨j, hj, rfl, hd⟩ := hrel
    have Hd := Lib.hid hd
    clear hd
    by_cases hlt : j < 20
    · obtain ⟨b, hrd, hrc, hb⟩ := Hread.out j hlt
      have Hb := Lib.hid (seen_all j b l hb)
      have hr := dev_read w wr x dc Hd.out j
      rw [hrd, hrc] at hr
      have Hr := Lib.hid hr
      clear hr hrd hrc hb
      go_wp2_with fail
      refine Hr.out.mono ?_
      rintro e w4 ⟨A4, n4, c4, rfl, hf4⟩
      obtain rfl := fill_n hf4.sl
      obtain ⟨g4, o4, hA4, q4⟩ := hf4.sl.fillAt 0 (by omega)
      subst hA4
      rw [Nat.add_zero] at q4
      have Hs4 := Lib.hid hf4.sl
      have H4 := Lib.hid (Hd.out.keep hf4.2)
      have hz : ((b.toNat : Int) == 0) = decide (b = 0) := byte_eq b 0
      clear hf4 Hr Hd
      go_wp2_with fail
      have Hst : Hid (seen j b (l.take 0) = decide (b = 0)) := by show _ = _; simp [seen]
      have Hlen := Lib.hid Hl.out.len
      go_loopw [10, 11] (fun q i wr => ∃ k : Nat, k ≤ n ∧ i = .int .i64 k ∧ q = .bool (seen j b (l.take k)) ∧ Mod (fun _ => False) w4 wr) (fun _ i _ => n - (intOf i).toNat)
      case atStart => exact ⟨0, by omega, rfl, by rw [Hst.out], Mod.refl _ _⟩
      case round =>
        obtain ⟨k, hk, rfl, rfl, hm⟩ := hrel
        have Hm := Lib.hid hm
        have qr : wr.cell? ⟨g4, o4, none⟩ = some (bv b) := (World.cell?_of_block (hm.block g4 (World.block_lt_of_cell? w4 _ q4) id)).trans q4
        clear hm
        by_cases hkn : k < n
        · obtain ⟨y, hy⟩ : ∃ y, l[k]? = some y := ⟨_, List.getElem?_eq_getElem (by rw [Hlen.out]; exact hkn)⟩
          obtain ⟨gb, go, hA, hcs⟩ := (Hl.out.keep (H4.out.old.trans Hm.out (fun _ _ h => h))).cells (by omega)
          subst hA
          obtain ⟨c0, c1, c2, c3, c4', c5, c6, c7⟩ := hcs k y hy
          have Hsn := Lib.hid (seen_take j b l k y hy)
          clear hcs hy c2 c4' c5 c6 c7
          generalize hsn0 : seen j b (l.take k) = sn at *
          clear hsn0
          have k1 : decide (y.kind = 0) = (y.kind == 0) := by rw [Bool.eq_iff_iff]; simp
          have k2 : decide (y.at_ = (j : Int)) = (y.at_ == (j : Int)) := by rw [Bool.eq_iff_iff]; simp
          have k3 := byte_eq y.b b
          have Hhit : Hid (hit j b y = ((y.kind == 0) && (y.at_ == (j : Int)) && ((y.b.toNat : Int) == (b.toNat : Int)))) := by show _ = _; unfold hit; rw [k1, k2, k3]
          clear k1 k2 k3
          generalize hv0 : (y.kind == 0) = v0 at *
          generalize hv1 : (y.at_ == (j : Int)) = v1 at *
          generalize hv2 : ((y.b.toNat : Int) == (b.toNat : Int)) = v2 at *
          cases sn with
          | true =>
            have Hs : Hid (seen j b (l.take (k + 1)) = true) := by show _ = _; rw [Hsn.out, Hhit.out]; rfl
            clear Hsn Hhit
            go_wp2_with fail
            go_quiet (fail)
            go_wp2
            go_roundw
            case rel => exact ⟨k + 1, by omega, by go_num, by rw [Hs.out], Hm.out.drewN _⟩
            case measure => simp [intOf]; omega
          | false =>
            cases v0 with
            | false =>
              have Hs : Hid (seen j b (l.take (k + 1)) = false) := by show _ = _; rw [Hsn.out, Hhit.out]; rfl
              clear Hsn Hhit
              go_wp2_with fail
              go_quiet (fail)
              go_wp2
              go_roundw
              case rel => exact ⟨k + 1, by omega, by go_num, by rw [Hs.out], Hm.out.drewN _⟩
              case measure => simp [intOf]; omega
            | true =>
              cases v1 with
              | false =>
                have Hs : Hid (seen j b (l.take (k + 1)) = false) := by show _ = _; rw [Hsn.out, Hhit.out]; rfl
                clear Hsn Hhit
                go_wp2_with fail
                go_quiet (fail)
                go_wp2
                go_roundw
                case rel => exact ⟨k + 1, by omega, by go_num, by rw [Hs.out], Hm.out.drewN _⟩
                case measure => simp [intOf]; omega
              | true =>
                cases v2 with
                | false =>
                  have Hs : Hid (seen j b (l.take (k + 1)) = false) := by show _ = _; rw [Hsn.out, Hhit.out]; rfl
                  clear Hsn Hhit
                  go_wp2_with fail
                  go_quiet (fail)
                  go_wp2
                  go_roundw
                  case rel => exact ⟨k + 1, by omega, by go_num, by rw [Hs.out], Hm.out.drewN _⟩
                  case measure => simp [intOf]; omega
                | true =>
                  have Hs : Hid (seen j b (l.take (k + 1)) = true) := by show _ = _; rw [Hsn.out, Hhit.out]; rfl
                  clear Hsn Hhit
                  go_wp2_with fail
                  go_quiet (fail)
                  go_wp2
                  go_roundw
                  case rel => exact ⟨k + 1, by omega, by go_num, by rw [Hs.out], Hm.out.drewN _⟩
                  case measure => simp [intOf]; omega
        · obtain rfl : k = n := by omega
          rw [List.take_of_length_le (by rw [Hlen.out]; omega), Hb.out]
          have Hs5 := Lib.hid (Hs4.out.mod Hm.out (fun _ _ _ => id))
          have H5 := Lib.hid (H4.out.keep Hm.out)
          clear Hs4 H4 Hm q4 Hst
          go_wp2_with fail
          refine (sector_ok _ b).mono ?_
          rintro e w6 ⟨g6, rfl, hf6⟩
          have Hs6 := Lib.hid (Hs5.out.mod hf6.2 (fun _ _ _ => id))
          have Ht6 := Lib.hid hf6.sl
          have H6 := Lib.hid (H5.out.keep hf6.2)
          clear hf6 Hs5 H5 qr
          go_wp2_with fail
          refine (same_ok _ _ _ _ _ _ _ _ _ Hs6.out Ht6.out (by omega) (by omega)).mono ?_
          rintro e w7 ⟨rfl, q, rfl⟩
          rw [eqB_self]
          have H7 := Lib.hid (H6.out.keep ((Mod.refl _ w6).drewN q))
          generalize w6.drewN q = w7 at *
          clear Hs6 Ht6 H6
          go_wp2
          go_roundw
          case rel => exact ⟨j + 1, by omega, by go_num, H7.out⟩
          case measure => simp [intOf]; omega
    · obtain rfl : j = 20 := by omega
      go_wp2
      go_ret
      exact ⟨rfl, Hd.out.old.below (Nat.le_refl _) (fun _ _ => id)⟩
end Go.Proofs.Ytfgngmoeedegiaa
