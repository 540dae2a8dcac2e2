/-
  The law TxnAdds: its walk.
-/
import Derived.Test.YtidcmolkolcliaaXTxs
namespace Go.Proofs.Ytidcmolkolcliaa
open Go Go.RowKit

set_option maxRecDepth 100000 in
set_option maxHeartbeats 12800000 in
theorem adds_walk (w : World) (A : Option Addr) (n c : Nat) (la : List TxD) (hla : Xs w A n c la) (B : Option Addr) (m cb : Nat) (lb : List TxD) (hlb : Xs w B m cb lb) (page : Int) (y : ChD) (hy : y.At w) :
    Calls Try.prog 8 #[.slice A n c, .slice B m cb, .int .i64 page, .agg #[.int .i64 y.lsn, .int .i64 y.page, .int .i64 y.key, .bool y.o.is, .slice y.o.B y.o.m y.o.d, .bool y.v.is, .slice y.v.B y.v.m y.v.d]] w fun e w' => e = .returned (.bool true) ∧ Below w.heap.size w w' := by
  have HXa := Lib.hid hla
  have HXb := Lib.hid hlb
  have Hla := Lib.hid hla.len
  have Hlb := Lib.hid hlb.len
  have hca := hla.cap
  have hcb := hlb.cap
  have HY := Lib.hid hy
  obtain ⟨w1, hw1⟩ : ∃ w1, w.alloc (.cells #[.int .i64 y.lsn, .int .i64 y.page, .int .i64 y.key, .bool y.o.is, .slice y.o.B y.o.m y.o.d, .bool y.v.is, .slice y.v.B y.v.m y.v.d] 30) = w1 := ⟨_, rfl⟩
  have HM1 : Hid (Mod (fun _ => False) w w1) := by rw [← hw1]; exact (Mod.refl _ w).alloc _
  have hi1 : y.In w1 w.heap.size := by rw [← hw1]; exact ChD.In.new w y
  have HB : Hid (∀ V, Mod (fun _ => False) w1 V → V.cell? ⟨w.heap.size, 0, none⟩ = some (.int .i64 y.lsn) ∧ V.cell? ⟨w.heap.size, 1, none⟩ = some (.int .i64 y.page) ∧ V.cell? ⟨w.heap.size, 2, none⟩ = some (.int .i64 y.key) ∧ V.cell? ⟨w.heap.size, 3, none⟩ = some (.bool y.o.is) ∧ V.cell? ⟨w.heap.size, 4, none⟩ = some (.slice y.o.B y.o.m y.o.d) ∧ V.cell? ⟨w.heap.size, 5, none⟩ = some (.bool y.v.is) ∧ V.cell? ⟨w.heap.size, 6, none⟩ = some (.slice y.v.B y.v.m y.v.d)) := fun V hV => (hi1.keep hV).cells
  have HAw := Lib.hid (awake_ok w1)
  have HEnd : Hid (∀ V, Mod (fun _ => False) w1 V → Below w.heap.size w V) := fun V hV => (HM1.out.trans hV (fun _ _ h => h)).below (Nat.le_refl _) (fun _ _ h => h)
  clear hla hlb hy hi1
  by_cases k0 : (20 : Int) < (n : Int)
  · have e0 : decide ((20 : Int) < (n : Int)) = true := decide_eq_true k0
    have e0' : decide (20 < n) = true := decide_eq_true (by omega)
    clear k0
    go_enter Try.func8, Try.ntmps8
    go_wp2_with fail
    refine HAw.out.mono ?_
    rintro e w2 ⟨rfl, hm⟩
    have HM2 := Lib.hid hm
    have c := HB.out _ hm
    obtain ⟨c0, c1, c2, c3, c4, c5, c6⟩ := c
    clear hm hw1
    go_wp2
    go_ret
    exact ⟨rfl, HEnd.out _ HM2.out⟩
  have e0 : decide ((20 : Int) < (n : Int)) = false := decide_eq_false k0
  have e0' : decide (20 < n) = false := decide_eq_false (by omega)
  have hb0 : n ≤ 20 := by omega
  clear k0
  by_cases k1 : (20 : Int) < (m : Int)
  · have e1 : decide ((20 : Int) < (m : Int)) = true := decide_eq_true k1
    have e1' : decide (20 < m) = true := decide_eq_true (by omega)
    clear k1
    go_enter Try.func8, Try.ntmps8
    go_wp2_with fail
    refine HAw.out.mono ?_
    rintro e w2 ⟨rfl, hm⟩
    have HM2 := Lib.hid hm
    have c := HB.out _ hm
    obtain ⟨c0, c1, c2, c3, c4, c5, c6⟩ := c
    clear hm hw1
    go_wp2
    go_ret
    exact ⟨rfl, HEnd.out _ HM2.out⟩
  have e1 : decide ((20 : Int) < (m : Int)) = false := decide_eq_false k1
  have e1' : decide (20 < m) = false := decide_eq_false (by omega)
  have hb1 : m ≤ 20 := by omega
  clear k1
  by_cases k2 : (100 : Int) < (y.o.m : Int)
  · have e2 : decide ((100 : Int) < (y.o.m : Int)) = true := decide_eq_true k2
    have e2' : decide (100 < y.o.m) = true := decide_eq_true (by omega)
    clear k2
    go_enter Try.func8, Try.ntmps8
    go_wp2_with fail
    refine HAw.out.mono ?_
    rintro e w2 ⟨rfl, hm⟩
    have HM2 := Lib.hid hm
    have c := HB.out _ hm
    obtain ⟨c0, c1, c2, c3, c4, c5, c6⟩ := c
    clear hm hw1
    go_wp2
    go_ret
    exact ⟨rfl, HEnd.out _ HM2.out⟩
  have e2 : decide ((100 : Int) < (y.o.m : Int)) = false := decide_eq_false k2
  have e2' : decide (100 < y.o.m) = false := decide_eq_false (by omega)
  have hb2 : y.o.m ≤ 100 := by omega
  clear k2
  by_cases k3 : (100 : Int) < (y.v.m : Int)
  · have e3 : decide ((100 : Int) < (y.v.m : Int)) = true := decide_eq_true k3
    have e3' : decide (100 < y.v.m) = true := decide_eq_true (by omega)
    clear k3
    go_enter Try.func8, Try.ntmps8
    go_wp2_with fail
    refine HAw.out.mono ?_
    rintro e w2 ⟨rfl, hm⟩
    have HM2 := Lib.hid hm
    have c := HB.out _ hm
    obtain ⟨c0, c1, c2, c3, c4, c5, c6⟩ := c
    clear hm hw1
    go_wp2
    go_ret
    exact ⟨rfl, HEnd.out _ HM2.out⟩
  have e3 : decide ((100 : Int) < (y.v.m : Int)) = false := decide_eq_false k3
  have e3' : decide (100 < y.v.m) = false := decide_eq_false (by omega)
  have hb3 : y.v.m ≤ 100 := by omega
  clear k3
  go_enter Try.func8, Try.ntmps8
  go_wp2_with fail
  refine HAw.out.mono ?_
  rintro e w2 ⟨rfl, hm⟩
  have HM2 := Lib.hid hm
  have c := HB.out _ hm
  obtain ⟨c0, c1, c2, c3, c4, c5, c6⟩ := c
  clear hm hw1
  go_wp2_with fail
  clear e0 e1 e2 e3 e0' e1' e2' e3' c0 c1 c2 c3 c4 c5 c6
  go_loopw [10] (fun k wr => ∃ p : Nat, k = .int .i64 p ∧ p ≤ n ∧ (∀ (j : Nat) (x : TxD), j < p → la[j]? = some x → smallT x.p) ∧ Mod (fun _ => False) w1 wr) (fun k _ => n - (intOf k).toNat)
  case atStart => exact ⟨0, rfl, by omega, fun j _ hj => by omega, HM2.out⟩
  case round =>
    obtain ⟨p, rfl, hip, hs, hm⟩ := hrel
    rename World => wrp
    have HSp := Lib.hid hs
    have HMp := Lib.hid hm
    clear hs hm
    by_cases hlt : p < n
    · obtain ⟨x, hx⟩ : ∃ x, la[p]? = some x := ⟨_, List.getElem?_eq_getElem (by rw [Hla.out]; exact hlt)⟩
      have hxr := HXa.out.keep (HM1.out.trans HMp.out (fun _ _ h => h))
      obtain ⟨b, o, hA, hcs⟩ := hxr.cells (by omega)
      obtain ⟨s0, s1, s2, s3, s4, s5⟩ := hcs p x hx
      have HL := Lib.hid (rlight_ok wrp x (hxr.ats x (List.mem_of_getElem? hx)))
      have HS2 : Hid (ltB x.p = true → ∀ (j : Nat) (y : TxD), j < p + 1 → la[j]? = some y → smallT y.p) := fun hlx j y hj hy => by
        rcases Nat.lt_or_ge j p with h | h
        · exact HSp.out j y h hy
        · obtain rfl : j = p := by omega
          rw [hx] at hy
          have e := Option.some.inj hy
          rw [← e]
          exact ltB_small hlx
      have l1 : p < c := by omega
      rw [hA]
      clear hcs hA hxr hx
      generalize ltB x.p = b1 at *
      cases b1 with
      | false =>
        go_wp2_with fail
        refine HL.out.mono ?_
        rintro e w3 ⟨rfl, hm⟩
        have HM3 := Lib.hid (HMp.out.trans hm (fun _ _ h => h))
        clear hm s0 s1 s2 s3 s4 s5
        go_wp2
        go_ret
        exact ⟨rfl, HEnd.out _ HM3.out⟩
      | true =>
        go_wp2_with fail
        refine HL.out.mono ?_
        rintro e w3 ⟨rfl, hm⟩
        have HM3 := Lib.hid (HMp.out.trans hm (fun _ _ h => h))
        clear hm s0 s1 s2 s3 s4 s5
        go_wp2
        go_roundw
        case rel => exact ⟨p + 1, by go_num, by omega, HS2.out trivial, HM3.out⟩
        case measure => simp [intOf]; omega
    · obtain rfl : p = n := by omega
      go_wp2_with fail
      go_loopw [12] (fun k wr => ∃ q : Nat, k = .int .i64 q ∧ q ≤ m ∧ (∀ (j : Nat) (x : TxD), j < q → lb[j]? = some x → smallT x.p) ∧ Mod (fun _ => False) w1 wr) (fun k _ => m - (intOf k).toNat)
      case atStart => exact ⟨0, rfl, by omega, fun j _ hj => by omega, HMp.out⟩
      case round =>
        obtain ⟨q, rfl, hiq, hs, hm⟩ := hrel
        rename World => wrq
        have HSq := Lib.hid hs
        have HMq := Lib.hid hm
        clear hs hm
        by_cases hlt : q < m
        · obtain ⟨x, hx⟩ : ∃ x, lb[q]? = some x := ⟨_, List.getElem?_eq_getElem (by rw [Hlb.out]; exact hlt)⟩
          have hxr := HXb.out.keep (HM1.out.trans HMq.out (fun _ _ h => h))
          obtain ⟨b, o, hA, hcs⟩ := hxr.cells (by omega)
          obtain ⟨s0, s1, s2, s3, s4, s5⟩ := hcs q x hx
          have HL := Lib.hid (rlight_ok wrq x (hxr.ats x (List.mem_of_getElem? hx)))
          have HS2 : Hid (ltB x.p = true → ∀ (j : Nat) (y : TxD), j < q + 1 → lb[j]? = some y → smallT y.p) := fun hlx j y hj hy => by
            rcases Nat.lt_or_ge j q with h | h
            · exact HSq.out j y h hy
            · obtain rfl : j = q := by omega
              rw [hx] at hy
              have e := Option.some.inj hy
              rw [← e]
              exact ltB_small hlx
          have l1 : q < cb := by omega
          rw [hA]
          clear hcs hA hxr hx
          generalize ltB x.p = b1 at *
          cases b1 with
          | false =>
            go_wp2_with fail
            refine HL.out.mono ?_
            rintro e w3 ⟨rfl, hm⟩
            have HM3 := Lib.hid (HMq.out.trans hm (fun _ _ h => h))
            clear hm s0 s1 s2 s3 s4 s5
            go_wp2
            go_ret
            exact ⟨rfl, HEnd.out _ HM3.out⟩
          | true =>
            go_wp2_with fail
            refine HL.out.mono ?_
            rintro e w3 ⟨rfl, hm⟩
            have HM3 := Lib.hid (HMq.out.trans hm (fun _ _ h => h))
            clear hm s0 s1 s2 s3 s4 s5
            go_wp2
            go_roundw
            case rel => exact ⟨q + 1, by go_num, by omega, HS2.out trivial, HM3.out⟩
            case measure => simp [intOf]; omega
        · obtain rfl : q = m := by omega
          have hsa := small_upto Hla.out HSp.out
          have hsb := small_upto Hlb.out HSq.out
          have HMw := Lib.hid (HM1.out.trans HMq.out (fun _ _ h => h))
          have Hsb := Lib.hid (HXb.out.keep HMw.out).src
          have Hsa := Lib.hid (HXa.out.keep HMw.out).src
          have Hn0 : Hid (OwN wrq wrq.heap.size 25 6 none 0 0 []) := OwN.nil _ _ _ _
          have H0 : Hid (wrq.heap.size ≤ wrq.heap.size) := Nat.le_refl _
          go_wp2_with (first | (at_builtin; refine wpList_appN (.const (.slice none 0 0)) (.tmp 71) txElem rfl rfl rfl rfl Hn0.out Hsa.out (by omega) (by unfold maxLen; omega) H0.out ?_; intro A1 c1 v1 h1 h2 h3; rw [Nat.zero_add] at h1 ⊢; rw [List.nil_append] at h1; have H1 := Lib.hid h1; have H2 := Lib.hid h2; clear h1 h2 h3; have hm1 : Mod (fun _ => False) wrq v1 := (Mod.refl _ wrq).grown H2.out (fun k e _ => by simp [blkOf] at e); have Hm1 := Lib.hid hm1; have Hsb1 := Lib.hid ((HXb.out.keep (HMw.out.trans hm1 (fun _ _ h => h))).src); have H01 : Hid (wrq.heap.size ≤ v1.heap.size) := hm1.size; clear hm1) | (at_builtin; refine Hid.out ?_) | fail)
          refine Lib.hid ?_
          refine wpList_appN (.tmp 72) (.tmp 73) txElem rfl rfl rfl rfl H1.out Hsb1.out (by omega) (by unfold maxLen; omega) H01.out ?_
          intro A2 c2 v2 h1 h2 h3
          rw [← txs_append] at h1
          have H3 := Lib.hid h1
          have H4 := Lib.hid h2
          clear h1 h2 h3
          have hm2 : Mod (fun _ => False) wrq v2 := Hm1.out.trans ((Mod.refl (fun k => blkOf A1 = some k) v1).grown H4.out (fun k e _ => e)) (fun k hk e => by have := (OwN.lt H1.out k e).1; omega)
          have hmw2 : Mod (fun _ => False) w v2 := HMw.out.trans hm2 (fun _ _ h => h)
          have Hm2w := Lib.hid (HMq.out.trans hm2 (fun _ _ h => h))
          have HAll : Hid (Xs v2 A2 (p + q) c2 (la ++ lb)) := OwT.xs H3.out (fun t ht => by
            rcases List.mem_append.1 ht with h | h
            · exact (HXa.out.ats t h).keep hmw2
            · exact (HXb.out.ats t h).keep hmw2)
          have Hmw2 := Lib.hid hmw2
          clear hm2 hmw2 H1 H2 H3 H4 Hm1 Hsa Hsb Hsb1
          obtain ⟨v3, hv3⟩ : ∃ v3, v2.alloc (.cells #[.int .i64 y.lsn, .int .i64 y.page, .int .i64 y.key, .bool y.o.is, .slice y.o.B y.o.m y.o.d, .bool y.v.is, .slice y.v.B y.v.m y.v.d] 30) = v3 := ⟨_, rfl⟩
          have hm3 : Mod (fun _ => False) v2 v3 := by rw [← hv3]; exact (Mod.refl _ v2).alloc _
          have hc3 : y.In v3 v2.heap.size := by rw [← hv3]; exact ChD.In.new v2 y
          obtain ⟨z, hz⟩ : ∃ z : TxD, z = ⟨0, 0, 0, 0, some ⟨v2.heap.size, 0, none⟩, 1, 1, [y], none, 0, 0, []⟩ := ⟨_, rfl⟩
          have hza : z.At v3 := by rw [hz]; exact ⟨Cs.one hc3 (HY.out.keep (Hmw2.out.trans hm3 (fun _ _ h => h))), Il.nil _ _ _⟩
          have hzc : v3.alloc (.cells #[.int .i64 0, .int .i64 0, .int .i64 0, .int .i64 0, .slice (some ⟨v2.heap.size, 0, none⟩) 1 1, .slice none 0 0] 25) = v3.alloc (.cells z.cells 25) := by rw [hz]
          obtain ⟨v4, hv4⟩ : ∃ v4, v3.alloc (.cells #[.int .i64 0, .int .i64 0, .int .i64 0, .int .i64 0, .slice (some ⟨v2.heap.size, 0, none⟩) 1 1, .slice none 0 0] 25) = v4 := ⟨_, rfl⟩
          have hm4 : Mod (fun _ => False) v3 v4 := by rw [← hv4]; exact (Mod.refl _ v3).alloc _
          have hz4 : z.In v4 v3.heap.size := by rw [← hv4, hzc]; exact TxD.In.new v3 z
          have hm24 : Mod (fun _ => False) v2 v4 := hm3.trans hm4 (fun _ _ h => h)
          have hso : smallC y.p := ⟨(by have := HY.out.o.len; show y.o.vs.length ≤ 100; omega), (by have := HY.out.v.len; show y.v.vs.length ≤ 100; omega)⟩
          have hk0 := kept_ok v4 (some ⟨v3.heap.size, 0, none⟩) 1 1 [z] (Xs.one hz4 (hza.keep hm4)) (by omega) (fun t ht => by
            simp at ht
            rw [ht, hz]
            refine ⟨by simp [TxD.p, pc], fun c hc => ?_⟩
            have : c = y.p := by simpa [TxD.p, pc] using hc
            rw [this]
            exact hso) page
          have hkv : kept page (pt [z]) = gain page y.p := by rw [hz]; simp [pt, TxD.p, pc, kept, keptL]
          rw [hkv] at hk0
          have HK0 := Lib.hid hk0
          have Hg0 : Hid (0 ≤ gain page y.p) := gain_ge page y.p
          have Hg1 : Hid (¬ y.page = page → gain page y.p = 0) := fun h => by exact if_neg h
          have Hm24 := Lib.hid hm24
          have hc2 := HB.out _ Hm2w.out
          obtain ⟨c0, c1, c2', c3, c4, c5, c6⟩ := hc2
          clear hm3 hc3 hza hzc hm4 hz4 hm24 hso hk0 hkv hz
          generalize gain page y.p = G at *
          go_wp2_with fail
          refine HK0.out.mono ?_
          rintro e v5 ⟨rfl, hm⟩
          have hm25 := Hm24.out.trans hm (fun _ _ h => h)
          have Hm5w := Lib.hid (Hm2w.out.trans hm25 (fun _ _ h => h))
          have HAll5 := Lib.hid (HAll.out.keep hm25)
          have hc5 := HB.out _ Hm5w.out
          clear hm hm25 hv3 hv4 c0 c1 c2' c3 c4 c5 c6
          obtain ⟨c0, c1, c2', c3, c4, c5, c6⟩ := hc5
          have hsall : ∀ t ∈ la ++ lb, smallT t.p := fun t ht => by
            rcases List.mem_append.1 ht with h | h
            · exact hsa t h
            · exact hsb t h
          have hka := kept_pt (page := page) hsa
          have hkb := kept_pt (page := page) hsb
          rw [Hla.out] at hka
          rw [Hlb.out] at hkb
          have hkc := kept_ge page (pt la)
          have hkd := kept_ge page (pt lb)
          have hkall : kept page (pt (la ++ lb)) = kept page (pt la) + kept page (pt lb) := by rw [pt_append, kept_append]
          have HKall := Lib.hid (fun V (hV : Mod (fun _ => False) v5 V) => kept_ok V A2 (p + q) c2 (la ++ lb) (HAll5.out.keep hV) (by omega) hsall page)
          rw [hkall] at HKall
          have HKa := Lib.hid (fun V (hV : Mod (fun _ => False) w V) => kept_ok V A p c la (HXa.out.keep hV) (by omega) hsa page)
          have HKb := Lib.hid (fun V (hV : Mod (fun _ => False) w V) => kept_ok V B q cb lb (HXb.out.keep hV) (by omega) hsb page)
          clear hsall hsa hsb hkall
          generalize kept page (pt la) = Ka at *
          generalize kept page (pt lb) = Kb at *
          have ew : IntKind.i64.wrap (Ka + Kb) = Ka + Kb := by rw [IntKind.wrap_i64]; omega
          have hg0 : decide (0 ≤ G) = true := decide_eq_true Hg0.out
          clear hka hkb hkc hkd
          by_cases hp : y.page = page
          · have hpd : (y.page == page) = true := by simp [hp]
            clear hp
            go_wp2_with fail
            refine (HKall.out _ (Mod.refl _ _)).mono ?_
            rintro e v6 ⟨rfl, hm⟩
            have Hm6 := Lib.hid (Hm5w.out.trans hm (fun _ _ h => h))
            have Hm6w := Lib.hid (HM1.out.trans Hm6.out (fun _ _ h => h))
            clear hm c0 c1 c2' c3 c4 c5 c6
            go_wp2_with fail
            refine (HKa.out _ Hm6w.out).mono ?_
            rintro e v7 ⟨rfl, hm⟩
            have Hm7 := Lib.hid (Hm6.out.trans hm (fun _ _ h => h))
            have Hm7w := Lib.hid (HM1.out.trans Hm7.out (fun _ _ h => h))
            clear hm
            go_wp2_with fail
            refine (HKb.out _ Hm7w.out).mono ?_
            rintro e v8 ⟨rfl, hm⟩
            have Hm8 := Lib.hid (Hm7.out.trans hm (fun _ _ h => h))
            clear hm
            go_wp2
            go_ret
            exact ⟨rfl, HEnd.out _ Hm8.out⟩
          · have hpd : (y.page == page) = false := by simpa using hp
            obtain rfl : G = 0 := Hg1.out hp
            clear hp
            go_wp2_with fail
            refine (HKall.out _ (Mod.refl _ _)).mono ?_
            rintro e v6 ⟨rfl, hm⟩
            have Hm6 := Lib.hid (Hm5w.out.trans hm (fun _ _ h => h))
            have Hm6w := Lib.hid (HM1.out.trans Hm6.out (fun _ _ h => h))
            clear hm c0 c1 c2' c3 c4 c5 c6
            go_wp2_with fail
            refine (HKa.out _ Hm6w.out).mono ?_
            rintro e v7 ⟨rfl, hm⟩
            have Hm7 := Lib.hid (Hm6.out.trans hm (fun _ _ h => h))
            have Hm7w := Lib.hid (HM1.out.trans Hm7.out (fun _ _ h => h))
            clear hm
            go_wp2_with fail
            refine (HKb.out _ Hm7w.out).mono ?_
            rintro e v8 ⟨rfl, hm⟩
            have Hm8 := Lib.hid (Hm7.out.trans hm (fun _ _ h => h))
            clear hm
            go_wp2
            go_ret
            exact ⟨rfl, HEnd.out _ Hm8.out⟩
end Go.Proofs.Ytidcmolkolcliaa
