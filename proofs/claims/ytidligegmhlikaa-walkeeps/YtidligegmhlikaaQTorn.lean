/-
  bobbinlaw08.WalTorn walked.
-/
import Derived.Test.YtidligegmhlikaaQAl
import Derived.Test.YtidligegmhlikaaQSr
import Derived.Test.YtidligegmhlikaaQFull
namespace Go.Proofs.Ytidligegmhlikaa
open Go Go.RowKit Go.Shelf

/-- What a law has appended. -/
structure Kept8 (b n fr du : Nat) (g : Lg) (d : Dk) (cs : List Sc) (L : List LgD) : Prop where
  ch : Chn b n fr du g d cs
  key : L.map LgD.key = (outX cs 0 ++ bufX g).map keyX
  may : ∀ y ∈ L, mayB y.r = true
theorem App.may {g g' : Lg} {d d' : Dk} {r : RcD} {a er : Int} (k : App g d r a er g' d') : (er = 0 ∧ mayB r = true) ∨ (er ≠ 0 ∧ (er == 0) = false) := by
  cases k with
  | arg _ => exact .inr ⟨by omega, rfl⟩
  | full _ _ => exact .inr ⟨by omega, rfl⟩
  | fit _ h _ _ _ => exact .inl ⟨rfl, h⟩
  | next _ h _ _ _ _ => exact .inl ⟨rfl, h⟩
theorem Kept8.app {b n fr du N : Nat} {g g' : Lg} {d d' : Dk} {cs : List Sc} {L : List LgD} (h : Kept8 b n fr du g d cs L) (ok : g.Ok N) (hN : d.dur.length = N) (ha : d.armed = false) (hd : d.dead = false) (hw : Was g.l) {r : RcD} {a er : Int} (k : App g d r a er g' d') :
    (er = 0 ∧ ∃ cs', cs <+: cs' ∧ Kept8 b n fr du g' d' cs' (L ++ [⟨a, r⟩])) ∨ (er ≠ 0 ∧ (er == 0) = false ∧ ∃ cs', cs <+: cs' ∧ Kept8 b n fr du g' d' cs' L) := by
  obtain ⟨cs', c1, c2, c3⟩ := chn_app h.ch ok hN ha hd hw k
  rcases k.may with ⟨e, hm⟩ | ⟨e, e2⟩
  · refine .inl ⟨e, cs', c2, c1, ?_, fun y hy => ?_⟩
    · rw [c3, if_pos e, List.map_append, h.key]
      rfl
    · rcases List.mem_append.1 hy with hy | hy
      · exact h.may y hy
      · rw [List.mem_singleton.1 hy]; exact hm
  · refine .inr ⟨e, e2, cs', c2, c1, ?_, h.may⟩
    rw [c3, if_neg e, List.append_nil]
    exact h.key
theorem begin_of {x y : List LgD} (h : x.map LgD.key <+: y.map LgD.key) (mx : ∀ a ∈ x, mayB a.r = true) (my : ∀ a ∈ y, mayB a.r = true) : Begin x y := by
  have hl : x.length ≤ y.length := by have := h.length_le; simpa using this
  refine ⟨hl, ?_, mx, my⟩
  have := List.prefix_iff_eq_take.1 h
  rw [List.length_map] at this
  rw [this, List.map_take]

set_option maxRecDepth 100000 in
set_option maxHeartbeats 16000000 in
theorem torn_walk0 (w : World) (A0 : Option Addr) (n0 c0 : Nat) (l0 : List RcD) (h0 : Rs w A0 n0 c0 l0) (A1 : Option Addr) (n1 c1 : Nat) (l1 : List RcD) (h1 : Rs w A1 n1 c1 l1) (k : Int) :
    Calls Try.prog 5 #[.slice A0 n0 c0, .slice A1 n1 c1, .int .i64 k] w fun e w' => e = .returned (.bool true) ∧ Mod (fun _ => False) w w' := by
  have Ha := Lib.hid (awake_ok w)
  have H0 := Lib.hid h0
  have H1 := Lib.hid h1
  have Hl0 := Lib.hid h0.len
  have Hl1 := Lib.hid h1.len
  clear h0 h1
  go_enter Try.func5, Try.ntmps5
  go_wp2_with fail
  refine Ha.out.mono ?_
  rintro e w1 ⟨rfl, hm1⟩
  have HL0 := Lib.hid (light_ok w1 A0 n0 c0 l0 (H0.out.keep hm1) 20 (by omega))
  have Hm1 := Lib.hid hm1
  clear hm1 Ha
  go_wp2_with fail
  refine HL0.out.mono ?_
  rintro e w2 ⟨rfl, hm2⟩
  have Hm2 := Lib.hid (Hm1.out.trans hm2 (fun _ _ h => h))
  have HL1 := Lib.hid (light_ok w2 A1 n1 c1 l1 (H1.out.keep Hm2.out) 20 (by omega))
  clear hm2 HL0 Hm1
  go_wp2_with fail
  refine HL1.out.mono ?_
  rintro e w3 ⟨rfl, hm3⟩
  have Hm3 := Lib.hid (Hm2.out.trans hm3 (fun _ _ h => h))
  clear hm3 HL1 Hm2
  cases hf0 : lightB l0 20 with
  | false =>
    clear hf0
    go_wp2
    go_ret
    exact ⟨rfl, Hm3.out⟩
  | true =>
    have hn0 : n0 ≤ 20 := by have := (lightB_len hf0).1; have := Hl0.out; omega
    clear hf0
    cases hf1 : lightB l1 20 with
    | false =>
      clear hf1
      go_wp2
      go_ret
      exact ⟨rfl, Hm3.out⟩
    | true =>
      have hn1 : n1 ≤ 20 := by have := (lightB_len hf1).1; have := Hl1.out; omega
      clear hf1
      have HD := Lib.hid (dev_new w w3 Hm3.out 32 (by omega) (by omega))
      clear Hm3
      go_wp2_with fail
      refine HD.out.mono ?_
      rintro e w4 ⟨x, rfl, hx⟩
      have hlen : (Dk.fresh (List.replicate (32 : Int).toNat (fill 0))).dur.length = 32 := by show (List.replicate 32 (fill 0)).length = 32; simp
      have HW := Lib.hid (lgn_new w4 w x _ hx 2 30 1 0 0 (by omega) (by omega) (by omega) (by rw [hlen]; constructor <;> omega) rfl rfl rfl (fun k => blkOf none = some k) (DV.Avoid.none_ x))
      have Hc0 : Hid (Kept8 2 30 0 0 (newG 2 30 1 0 0) (Dk.fresh (List.replicate (32 : Int).toNat (fill 0))) [] []) := ⟨chn_new (b := 2) (n := 30) (N := 32) (by omega), rfl, fun y hy => absurd hy (by simp)⟩
      have Hlen := Lib.hid hlen
      clear hx HD hlen
      generalize Dk.fresh (List.replicate (32 : Int).toNat (fill 0)) = d0 at *
      go_wp2_with fail
      refine HW.out.mono ?_
      rintro e w5 ⟨p, rfl, hlg, _⟩
      have Hlg := Lib.hid hlg
      clear hlg HW
      obtain ⟨px, hpx⟩ : ∃ px, x.p = px := ⟨_, rfl⟩
      rw [hpx] at Hlg ⊢
      clear hpx
      go_wp2
      go_loopw [14, 15] (fun all i wr => ∃ (j : Nat) (A : Option Addr) (c : Nat) (L : List LgD) (g : Lg) (d : Dk) (cs : List Sc), j ≤ n0 ∧ L.length ≤ j ∧ all = .slice A L.length c ∧ i = .int .i64 j ∧ LgN w wr p px g d (fun k => blkOf A = some k) ∧ Al w wr A c L ∧ Kept8 2 30 0 0 g d cs L ∧ d.dur.length = 32) (fun _ i _ => n0 - (intOf i).toNat)
      case atStart => exact ⟨0, none, 0, [], _, d0, [], by omega, Nat.le_refl _, rfl, rfl, Hlg.out, al_nil w _, Hc0.out, Hlen.out⟩
      case round =>
        obtain ⟨j, A, c, L, g, d, cs, hj, hLj, rfl, rfl, hlg, hal, hke, hdl⟩ := hrel
        have Hlgr := Lib.hid hlg
        have Hal := Lib.hid hal
        have Hke := Lib.hid hke
        have Hdl := Lib.hid hdl
        clear hlg hal hke hdl Hlg Hc0 Hlen
        by_cases hlt : j < n0
        · obtain ⟨b, o, hA, hc⟩ := Rs.cells H0.out (by omega)
          subst hA
          obtain ⟨y, hy⟩ : ∃ y, l0[j]? = some y := ⟨_, List.getElem?_eq_getElem (by rw [Hl0.out]; exact hlt)⟩
          have hC := hc j y hy
          have HC : Hid (∀ W, Mod (fun _ => False) w W → y.Cells W b (o + j * 14)) := fun W hW => hC.keep (hW.block b hC.lt id)
          have Hyw := Lib.hid (H0.out.ats y (List.mem_of_getElem? hy))
          have hCr := HC.out wr Hlgr.out.old
          have hpend := Hke.out.ch.pendL
          have HAp := Lib.hid (lgn_app Hlgr.out (fun k hk => Hal.out.lt k hk) y (Hyw.out.keep Hlgr.out.old) (by omega))
          have p0 := hCr.k
          have p1 := hCr.f1
          have p2 := hCr.f2
          have p3 := hCr.f3
          have p4 := hCr.f4
          have p5 := hCr.f5
          have p6 := hCr.f6
          have p7 := hCr.f7
          have p8 := hCr.f8
          have p9 := hCr.f9
          have p10 := hCr.c10
          have p11 := hCr.c11
          have p12 := hCr.c12
          have p13 := hCr.c13
          clear hC hCr hc hy hpend
          go_wp2_with fail
          clear p0 p1 p2 p3 p4 p5 p6 p7 p8 p9 p10 p11 p12 p13
          refine HAp.out.mono ?_
          rintro e w7 ⟨a, er, g', d', rfl, happ, hlg7, hmt⟩
          have hst := Hke.out.app Hlgr.out.lgs.ok rfl Hlgr.out.lgs.arm Hlgr.out.lgs.dead ⟨wr, Hlgr.out.lgs.ats⟩ happ
          have Hdl7 : Hid (d'.dur.length = 32) := by show _ = _; rw [happ.durL Hlgr.out.lgs.ok Hlgr.out.lgs.arm Hlgr.out.lgs.dead]; exact Hdl.out
          have hal7 := Hal.out.mod hmt (fun _ h => h)
          have Hlg7 := Lib.hid hlg7
          have Hal7 := Lib.hid hal7
          rcases hst with ⟨rfl, cs', _, hke'⟩ | ⟨_, he0, cs', _, hke'⟩
          · have Hke' := Lib.hid hke'
            obtain ⟨w8, hw8⟩ : ∃ w8, w7.alloc (.cells (⟨a, y⟩ : LgD).cells 59) = w8 := ⟨_, rfl⟩
            have hm8 : Mod (fun _ => False) w7 w8 := by rw [← hw8]; exact (Mod.refl _ w7).alloc _
            have hown8 : OwN w8 w.heap.size 59 15 A L.length c (lgC L) := Hal7.out.row.mod hm8 (fun _ _ => id)
            have hsrc8 : SrcN w8 (some ⟨w7.heap.size, 0, none⟩) 1 15 (⟨a, y⟩ : LgD).cells.toList := by rw [← hw8]; exact SrcN.lit w7 (⟨a, y⟩ : LgD).cells.toList 59 (lg_one _)
            have hsz8 : w.heap.size ≤ w8.heap.size := Nat.le_trans hlg7.old.size hm8.size
            have hw8' : w7.alloc (.cells #[.int .i64 a, .int .i64 y.k, .int .i64 (y.f 1), .int .i64 (y.f 2), .int .i64 (y.f 3), .int .i64 (y.f 4), .int .i64 (y.f 5), .int .i64 (y.f 6), .int .i64 (y.f 7), .int .i64 (y.f 8), .int .i64 (y.f 9), .bool y.o.is, .slice y.o.B y.o.m y.o.d, .bool y.v.is, .slice y.v.B y.v.m y.v.d] 59) = w8 := hw8
            have hC7 := HC.out w7 hlg7.old
            have hLI : (L.length : Int) ≤ 20 := by omega
            have p0 := hC7.k
            have p1 := hC7.f1
            have p2 := hC7.f2
            have p3 := hC7.f3
            have p4 := hC7.f4
            have p5 := hC7.f5
            have p6 := hC7.f6
            have p7 := hC7.f7
            have p8 := hC7.f8
            have p9 := hC7.f9
            have p10 := hC7.c10
            have p11 := hC7.c11
            have p12 := hC7.c12
            have p13 := hC7.c13
            clear happ hlg7 hmt hal7 hke' HAp Hke Hdl hm8 hC7
            go_wp2_with (at_builtin; refine wpList_appN (.tmp 67) (.tmp 74) lgElem rfl rfl rfl rfl hown8 hsrc8 (by omega) (by unfold maxLen; omega) hsz8 ?_)
            intro A9 c9 w9 hown9 hg9 hat9
            clear p0 p1 p2 p3 p4 p5 p6 p7 p8 p9 p10 p11 p12 p13
            have hg9' : (w7.alloc (.cells (⟨a, y⟩ : LgD).cells 59)).grownBy w9 (blkOf A) := by rw [hw8]; exact hg9
            have Hal9 := Lib.hid (Hal7.out.push ⟨a, y⟩ Hyw.out hown9 hg9')
            have Hlg9 := Lib.hid (Hlg7.out.pushed Hal7.out ⟨a, y⟩ (A' := A9) hg9' (by rw [hw8]; exact hat9))
            have HlL : Hid (((L ++ [(⟨a, y⟩ : LgD)]).length : Nat) = L.length + 1) := by show _ = _; rw [List.length_append]; rfl
            clear hw8' hown8 hsrc8 hsz8 hown9 hg9 hat9 hg9' Hal7 Hlg7 hw8
            go_wp2
            go_roundw
            case rel => exact ⟨j + 1, A9, c9, L ++ [⟨a, y⟩], g', d', cs', by omega, by rw [HlL.out]; omega, by rw [HlL.out], by go_num, Hlg9.out, Hal9.out, Hke'.out, Hdl7.out⟩
            case measure => simp [intOf]; omega
          · have Hke' := Lib.hid hke'
            clear happ hlg7 hmt hal7 hke' HAp Hke Hdl HC
            go_wp2
            go_roundw
            case rel => exact ⟨j + 1, A, c, L, g', d', cs', by omega, by omega, rfl, by go_num, Hlg7.out, Hal7.out, Hke'.out, Hdl7.out⟩
            case measure => simp [intOf]; omega
        · have HFo := Lib.hid (lgn_force Hlgr.out (fun k hk => Hal.out.lt k hk) (by have := Hke.out.ch.pendL; omega))
          obtain ⟨cs1, f1, _, f3, f4⟩ := chn_force Hke.out.ch Hlgr.out.lgs.ok rfl Hlgr.out.lgs.arm Hlgr.out.lgs.dead ⟨wr, Hlgr.out.lgs.ats⟩
          have HF1 := Lib.hid f1
          have HF3 : Hid (L.map LgD.key = (outX cs1 0).map keyX) := Hke.out.key.trans f3.symm
          have Hmy := Lib.hid Hke.out.may
          have hdl1 := f1.dl
          clear f1 f3 f4 Hke Hdl
          obtain ⟨g1, hg1⟩ : ∃ g1, g.forced = g1 := ⟨_, rfl⟩
          obtain ⟨d1, hd1⟩ : ∃ d1, g.forcedD d = d1 := ⟨_, rfl⟩
          rw [hg1, hd1] at HFo HF1
          clear hg1 hd1 hdl1
          go_wp2_with fail
          refine HFo.out.mono ?_
          rintro e w7 ⟨rfl, hlg7, hmt⟩
          have Hlg7 := Lib.hid hlg7
          have Hal7 := Lib.hid (Hal.out.mod hmt (fun _ h => h))
          clear hlg7 hmt HFo Hlgr Hal
          go_wp2
          go_loopw [18] (fun i wr => ∃ (j : Nat) (g : Lg) (d : Dk) (cs : List Sc), j ≤ n1 ∧ i = .int .i64 j ∧ LgN w wr p px g d (fun k => blkOf A = some k) ∧ Al w wr A c L ∧ Chn 2 30 0 cs1.length g d cs ∧ cs1 <+: cs) (fun i _ => n1 - (intOf i).toNat)
          case atStart => exact ⟨0, g1, d1, cs1, by omega, rfl, Hlg7.out, Hal7.out, HF1.out, List.prefix_refl _⟩
          case round =>
            obtain ⟨j, g, d, cs, hj, rfl, hlg, hal, hch, hpre⟩ := hrel
            have Hlgr := Lib.hid hlg
            have Hal := Lib.hid hal
            have Hch := Lib.hid hch
            have Hpre := Lib.hid hpre
            clear hlg hal hch hpre Hlg7 Hal7 HF1
            by_cases hlt : j < n1
            · obtain ⟨b, o, hA, hc⟩ := Rs.cells H1.out (by omega)
              subst hA
              obtain ⟨y, hy⟩ : ∃ y, l1[j]? = some y := ⟨_, List.getElem?_eq_getElem (by rw [Hl1.out]; exact hlt)⟩
              have hC := hc j y hy
              have hCr := hC.keep (Hlgr.out.old.block b hC.lt id)
              have hpend := Hch.out.pendL
              have HAp := Lib.hid (lgn_app Hlgr.out (fun k hk => Hal.out.lt k hk) y ((H1.out.ats y (List.mem_of_getElem? hy)).keep Hlgr.out.old) (by omega))
              have p0 := hCr.k
              have p1 := hCr.f1
              have p2 := hCr.f2
              have p3 := hCr.f3
              have p4 := hCr.f4
              have p5 := hCr.f5
              have p6 := hCr.f6
              have p7 := hCr.f7
              have p8 := hCr.f8
              have p9 := hCr.f9
              have p10 := hCr.c10
              have p11 := hCr.c11
              have p12 := hCr.c12
              have p13 := hCr.c13
              clear hC hCr hc hy hpend
              go_wp2_with fail
              clear p0 p1 p2 p3 p4 p5 p6 p7 p8 p9 p10 p11 p12 p13
              refine HAp.out.mono ?_
              rintro e w8 ⟨a, er, g', d', rfl, happ, hlg8, hmt⟩
              obtain ⟨cs', q1, q2, _⟩ := chn_app Hch.out Hlgr.out.lgs.ok rfl Hlgr.out.lgs.arm Hlgr.out.lgs.dead ⟨wr, Hlgr.out.lgs.ats⟩ happ
              have Hlg8 := Lib.hid hlg8
              have Hal8 := Lib.hid (Hal.out.mod hmt (fun _ h => h))
              have Hch8 := Lib.hid q1
              have Hpre8 := Lib.hid (Hpre.out.trans q2)
              clear happ hlg8 hmt q1 q2 HAp Hlgr Hal Hch Hpre
              go_wp2
              go_roundw
              case rel => exact ⟨j + 1, g', d', cs', by omega, by go_num, Hlg8.out, Hal8.out, Hch8.out, Hpre8.out⟩
              case measure => simp [intOf]; omega
            · have HWa := Lib.hid (lgs_waits Hlgr.out.lgs)
              obtain ⟨X, hX⟩ : ∃ X, g.nx - g.du = X := ⟨_, rfl⟩
              rw [hX] at HWa
              clear hX
              go_wp2_with fail
              refine HWa.out.mono ?_
              rintro e w8 ⟨rfl, hlg8, hm8⟩
              obtain ⟨x8, hx8, hdev8⟩ := hlg8.dev
              have hmA : Mod (fun _ => False) w8 (w8.alloc (.cells #[.bool true] 4)) := (Mod.refl _ w8).alloc _
              have HCr := Lib.hid (dev_crash w _ x8 d (hdev8.keep hmA) (by have := Hch.out.pendL; omega) _ 1 1 [true] 0 k (Bl.lit w8 true 4) (by omega))
              rw [hx8] at HCr
              obtain ⟨t, t1, t2, t3, t4, t5⟩ := chn_crash Hch.out (keptN [true] 0 k) (keptN_le _ _ _)
              have ht5 := t5.dl
              have hok := t5.ok
              have HAlA := Lib.hid ((Hal.out.keep hm8).keep hmA)
              have Ht : Hid (cs1.length ≤ t ∧ t ≤ cs.length) := ⟨t1, t2⟩
              have Hf0 : Hid (cs1.length < t → keptN [true] 0 k 0 = 256) := fun h => by
                have := t4 cs1.length (Nat.le_refl _) h
                rw [Nat.sub_self] at this
                exact this
              obtain ⟨dc, hdc⟩ : ∃ dc, d.crash (keptN [true] 0 k) = dc := ⟨_, rfl⟩
              have hdead : dc.dead = false := by rw [← hdc]; rfl
              rw [hdc] at HCr t3 ht5
              have Ht3 := Lib.hid t3
              have Hok := Lib.hid hok
              have Hdead := Lib.hid hdead
              clear hlg8 hx8 hdev8 t1 t2 t3 t4 t5 hdc hok hdead hm8 hmA HWa
              go_wp2_with fail
              refine HCr.out.mono ?_
              rintro e w9 ⟨x9, rfl, hdev9, hm9⟩
              have hRe := wread_ok w9 w x9 dc hdev9 Hdead.out 2 30 0 (by omega) (by omega) (by omega) (by constructor <;> omega)
              have ht3 := Ht3.out
              rw [show ((2 : Nat) : Int) = 2 from rfl, show ((30 : Nat) : Int) = 30 from rfl] at ht3
              rw [show (30 : Int).toNat = 30 from rfl, ht3] at hRe
              have HRe := Lib.hid hRe
              have HAl9 := Lib.hid (HAlA.out.keep hm9)
              have Hold9 := Lib.hid hdev9.old
              clear hdev9 hm9 hRe ht3 HCr HAlA ht5
              go_wp2_with fail
              refine HRe.out.mono ?_
              rintro e w10 ⟨⟨A', c', L', rfl, hrow, hown, hL⟩, hm10⟩
              have hat : ∀ y ∈ L', y.r.At w10 := fun y hy => ⟨(hown y hy).1.at_, (hown y hy).2.at_⟩
              obtain ⟨k1, k2⟩ := keys_of L' _ (hL.trans (out_ms _ _)) (outX_good _ 0 (fun i c hc => by rw [Nat.zero_add]; exact Hok.out i c hc)) hat
              have hal10 := HAl9.out.keep hm10
              have hold10 := Hold9.out.trans hm10 (fun _ _ h => h)
              have hcs : cs1 = (cs.take t).take cs1.length := by
                rw [List.take_take, Nat.min_eq_left Ht.out.1]
                exact List.prefix_iff_eq_take.1 Hpre.out
              have hpre : L.map LgD.key <+: L'.map LgD.key := by
                rw [HF3.out, k1, hcs]
                exact (outX_take _ _ _).map keyX
              have hsml : L'.length ≤ 1000000 := by
                have e1 := congrArg List.length k1
                rw [List.length_map, List.length_map] at e1
                have e2 := (outX_few (cs.take t) 0 (fun i c hc => by rw [Nat.zero_add]; exact Hok.out i c hc)).2
                have e3 := Hch.out.ln
                rw [List.length_take] at e2
                have e4 : 60 * min t cs.length ≤ 60 * 30 := Nat.mul_le_mul_left 60 (by omega)
                omega
              have HB := Lib.hid (begins_ok w10 A A' L.length L'.length c c' L L' (hal10.ls hold10) (hrow.logs hat) (by omega) (begin_of hpre Hmy.out k2))
              have Hlen : Hid (X > 0 ∧ k ≤ 3 → L'.length = L.length) := fun hh => by
                have ht : t = cs1.length := by
                  rcases Nat.lt_or_ge cs1.length t with h | h
                  · have e1 := Hf0.out h
                    unfold keptN at e1
                    rw [if_pos (by omega)] at e1
                    omega
                  · have := Ht.out.1; omega
                have e1 := congrArg List.length k1
                have e2 := congrArg List.length HF3.out
                rw [List.length_map, List.length_map] at e1 e2
                rw [e1, e2, hcs, ht, List.take_take, Nat.min_self]
              have Hold10 := Lib.hid hold10
              clear hrow hown hL hm10 hat k1 k2 hal10 hold10 hcs hpre hsml HRe HAl9 Hold9 Hal Hlgr Hch Hpre
              go_wp2_with fail
              refine HB.out.mono ?_
              rintro e w11 ⟨rfl, hm11⟩
              have Hold := Lib.hid (Hold10.out.trans hm11 (fun _ _ h => h))
              clear hm11 HB
              by_cases hX : 0 < X
              · have z1 : decide (0 < X) = true := by simpa using hX
                by_cases hk : k ≤ 3
                · have z2 : decide (k ≤ 3) = true := by simpa using hk
                  have hl := Hlen.out ⟨hX, hk⟩
                  rw [hl]
                  clear hX hk hl
                  go_wp2
                  go_ret
                  exact ⟨rfl, Hold.out⟩
                · have z2 : decide (k ≤ 3) = false := by simpa using hk
                  clear hX hk
                  go_wp2
                  go_ret
                  exact ⟨rfl, Hold.out⟩
              · have z1 : decide (0 < X) = false := by simpa using hX
                clear hX
                go_wp2
                go_ret
                exact ⟨rfl, Hold.out⟩
theorem torn_walk (w : World) (A0 : Option Addr) (n0 c0 : Nat) (l0 : List RcD) (h0 : Rs w A0 n0 c0 l0) (A1 : Option Addr) (n1 c1 : Nat) (l1 : List RcD) (h1 : Rs w A1 n1 c1 l1) (k : Int) :
    Calls Try.prog 5 #[.slice A0 n0 c0, .slice A1 n1 c1, .int .i64 k] w fun e w' => e = .returned (.bool true) ∧ Below w.heap.size w w' :=
  (torn_walk0 w A0 n0 c0 l0 h0 A1 n1 c1 l1 h1 k).mono fun _ _ h => ⟨h.1, h.2.below (Nat.le_refl _) (fun _ _ => id)⟩
end Go.Proofs.Ytidligegmhlikaa
