/-
  bobbinref12: Grant.
-/
import Derived.Test.YtpkjafadhnecfaaKRefB
import Derived.Test.YtpkjafadhnecfaaKRefH
import Derived.Test.YtpkjafadhnecfaaKGrant
namespace Go.Proofs.Ytpkjafadhnecfaa
open Go Go.RowKit

/-- The locks behind some of them have been gone through. -/
def gp (own : Tr → Bool) (g : Tr) (l : List Tr) : List Tr := if l.any own then gr own g l else l
section
variable {own : Tr → Bool} {g : Tr} {l : List Tr} {j : Nat}
theorem any_take_succ (hj : j < l.length) : (l.take (j + 1)).any own = ((l.take j).any own || own (atS l j)) := by
  rw [← List.take_append_getElem hj, List.any_append, ← atS_at hj]; simp
theorem gp_other (hj : j < l.length) (ho : own (atS l j) = false) : gp own g (l.take (j + 1)) = gp own g (l.take j) ++ [atS l j] := by
  unfold gp
  rw [any_take_succ hj, ho, Bool.or_false]
  rw [← List.take_append_getElem hj, ← atS_at hj]
  cases ha : (l.take j).any own with
  | true => rw [if_pos rfl, if_pos rfl, gr_append _ ha]; simp [ho]
  | false => rw [if_neg (by simp), if_neg (by simp)]
theorem gp_again (hj : j < l.length) (ho : own (atS l j) = true) (ha : (l.take j).any own = true) : gp own g (l.take (j + 1)) = gp own g (l.take j) := by
  unfold gp
  rw [any_take_succ hj, ha, Bool.true_or, if_pos rfl, if_pos rfl, ← List.take_append_getElem hj, ← atS_at hj, gr_append _ ha]
  simp [ho]
theorem gr_none_append : ∀ {a : List Tr} (b : List Tr), a.any own = false → gr own g (a ++ b) = a ++ gr own g b
  | [], _, _ => rfl
  | x :: a, b, h => by
    rw [List.any_cons, Bool.or_eq_false_iff] at h
    rw [List.cons_append, gr, h.1, gr_none_append b h.2]
    rfl
theorem gp_own (hj : j < l.length) (ho : own (atS l j) = true) (ha : (l.take j).any own = false) : gp own g (l.take (j + 1)) = gp own g (l.take j) ++ [g] := by
  unfold gp
  rw [any_take_succ hj, ha, ho, Bool.false_or, if_pos rfl, if_neg (by simp), ← List.take_append_getElem hj, ← atS_at hj, gr_none_append _ ha]
  simp [gr, ho]
theorem gp_end_any (ha : l.any own = true) : gp own g l = gr own g l := by unfold gp; rw [if_pos ha]
theorem gp_end_none (ha : l.any own = false) : gr own g l = gp own g l ++ [g] := by unfold gp; rw [ha, gr_none ha]; rfl
theorem gp_zero : gp own g (l.take 0) = [] := by unfold gp; simp
end
/-- What lies ahead of a round of the last loop. -/
structure Grs (w wr : World) (l : List Tr) (A : Option Addr) (q c : Nat) : Prop where
  own : Ow3 wr w.heap.size 37 A q c l
  old : Mod (fun _ => False) w wr
theorem Grs.app {w wr w3 : World} {l : List Tr} {A A' : Option Addr} {q c c' : Nat} {x : Tr} {o : Obj} (h : Grs w wr l A q c) (h1 : OwN w3 w.heap.size 37 3 A' (q + 1) c' (trs l ++ [.int .i64 x.a, .int .i64 x.b, .int .i64 x.c])) (h2 : (wr.alloc o).grownBy w3 (blkOf A)) : Grs w w3 (l ++ [x]) A' (q + 1) c' := by
  refine ⟨?_, (h.old.alloc o).grown h2 (fun k e hk => by have := (h.own.lt k e).1; omega)⟩
  show OwN w3 _ _ 3 A' _ c' (trs _)
  rw [trs_append]
  exact h1
theorem Grs.old_le {w wr : World} {l : List Tr} {A : Option Addr} {q c : Nat} (h : Grs w wr l A q c) (o : Obj) : w.heap.size ≤ (wr.alloc o).heap.size := by
  rw [World.size_alloc]; have := h.old.size; omega

set_option maxRecDepth 100000 in
set_option maxHeartbeats 1600000 in
theorem rgrant_arg (w : World) (A0 : Option Addr) (n c0 : Nat) (tx res mode : Int) (ho : okA tx res mode = false) :
    Calls Try.prog 15 #[.slice A0 n c0, .int .i64 tx, .int .i64 res, .int .i64 mode] w fun e w' => GrAns w w' [] 1 e := by
  have HO : Hid (GrAns w w [] 1 (.returned (.tuple #[.slice none 0 0, .int .i64 1]))) := ⟨none, 0, rfl, OwN.nil _ _ _ _, Mod.refl _ _⟩
  have ho' : ¬ ((1 ≤ tx ∧ tx ≤ 255) ∧ (-1 ≤ res ∧ res ≤ 65535) ∧ 1 ≤ mode ∧ mode ≤ 15) := fun h => by rw [okA_iff.2 h] at ho; cases ho
  clear ho
  by_cases h0 : tx < 1
  · have d0 : decide (tx < 1) = true := decide_eq_true h0
    clear h0 ho'
    go_enter Try.func15, Try.ntmps15
    go_wp2
    go_ret2
    exact HO.out
  have d0 : decide (tx < 1) = false := decide_eq_false h0
  by_cases h1 : 255 < tx
  · have d1 : decide (255 < tx) = true := decide_eq_true h1
    clear h1 ho'
    go_enter Try.func15, Try.ntmps15
    go_wp2
    go_ret2
    exact HO.out
  have d1 : decide (255 < tx) = false := decide_eq_false h1
  by_cases h2 : res < -1
  · have d2 : decide (res < -1) = true := decide_eq_true h2
    clear h2 ho'
    go_enter Try.func15, Try.ntmps15
    go_wp2
    go_ret2
    exact HO.out
  have d2 : decide (res < -1) = false := decide_eq_false h2
  by_cases h3 : 65535 < res
  · have d3 : decide (65535 < res) = true := decide_eq_true h3
    clear h3 ho'
    go_enter Try.func15, Try.ntmps15
    go_wp2
    go_ret2
    exact HO.out
  have d3 : decide (65535 < res) = false := decide_eq_false h3
  by_cases h4 : mode < 1
  · have d4 : decide (mode < 1) = true := decide_eq_true h4
    clear h4 ho'
    go_enter Try.func15, Try.ntmps15
    go_wp2
    go_ret2
    exact HO.out
  have d4 : decide (mode < 1) = false := decide_eq_false h4
  by_cases h5 : 15 < mode
  · have d5 : decide (15 < mode) = true := decide_eq_true h5
    clear h5 ho'
    go_enter Try.func15, Try.ntmps15
    go_wp2
    go_ret2
    exact HO.out
  have d5 : decide (15 < mode) = false := decide_eq_false h5
  omega

set_option maxRecDepth 100000 in
set_option maxHeartbeats 1600000 in
theorem rgrant_state (w : World) (A0 : Option Addr) (n c0 : Nat) (l : List Tr) (h : Tl w A0 n c0 l) (hn : n ≤ 1000) (ht : ∀ x ∈ l, T64 x) (tx res mode : Int) (hmode : I64 mode) (ho : okA tx res mode = true) (hb : blks l tx res mode ≠ []) :
    Calls Try.prog 15 #[.slice A0 n c0, .int .i64 tx, .int .i64 res, .int .i64 mode] w fun e w' => GrAns w w' [] 5 e := by
  have d0 : decide (tx < 1) = false := decide_eq_false (by have := okA_iff.1 ho; omega)
  have d1 : decide (255 < tx) = false := decide_eq_false (by have := okA_iff.1 ho; omega)
  have d2 : decide (res < -1) = false := decide_eq_false (by have := okA_iff.1 ho; omega)
  have d3 : decide (65535 < res) = false := decide_eq_false (by have := okA_iff.1 ho; omega)
  have d4 : decide (mode < 1) = false := decide_eq_false (by have := okA_iff.1 ho; omega)
  have d5 : decide (15 < mode) = false := decide_eq_false (by have := okA_iff.1 ho; omega)
  have HB := Lib.hid (rblockers_ok w A0 n c0 l h hn ht tx res mode hmode)
  unfold BkAns at HB
  have hbl : 0 < (blks l tx res mode).length := List.length_pos_iff.2 hb
  clear h hb ho ht hmode
  generalize blks l tx res mode = bs at *
  obtain ⟨k, hk⟩ : ∃ k, bs.length = k := ⟨_, rfl⟩
  rw [hk] at HB hbl
  clear hk
  go_enter Try.func15, Try.ntmps15
  go_wp2_with fail
  refine HB.out.mono ?_
  rintro e w2 ⟨B, cB, rfl, _, hm2⟩
  have HM2 := Lib.hid hm2
  clear hm2
  have hd : decide ((0 : Int) < (k : Int)) = true := by simpa using hbl
  go_wp2
  go_ret2
  exact ⟨none, 0, rfl, OwN.nil _ _ _ _, HM2.out⟩

set_option maxRecDepth 100000 in
set_option maxHeartbeats 6400000 in
theorem rgrant_yes (w : World) (A0 : Option Addr) (n c0 : Nat) (l : List Tr) (h : Tl w A0 n c0 l) (hn : n ≤ 1000) (ht : ∀ x ∈ l, T64 x) (tx res mode : Int) (hmode : I64 mode) (ho : okA tx res mode = true) (hb : blks l tx res mode = []) :
    Calls Try.prog 15 #[.slice A0 n c0, .int .i64 tx, .int .i64 res, .int .i64 mode] w fun e w' => GrAns w w' (grt l tx res mode) 0 e := by
  have d0 : decide (tx < 1) = false := decide_eq_false (by have := okA_iff.1 ho; omega)
  have d1 : decide (255 < tx) = false := decide_eq_false (by have := okA_iff.1 ho; omega)
  have d2 : decide (res < -1) = false := decide_eq_false (by have := okA_iff.1 ho; omega)
  have d3 : decide (65535 < res) = false := decide_eq_false (by have := okA_iff.1 ho; omega)
  have d4 : decide (mode < 1) = false := decide_eq_false (by have := okA_iff.1 ho; omega)
  have d5 : decide (15 < mode) = false := decide_eq_false (by have := okA_iff.1 ho; omega)
  have HX := Lib.hid h
  have Hl : Hid (l.length = n) := h.len
  have HB := Lib.hid (rblockers_ok w A0 n c0 l h hn ht tx res mode hmode)
  unfold BkAns at HB
  rw [hb] at HB
  have HH := Lib.hid (fun V (hV : Tl V A0 n c0 l) => rholds_ok V A0 n c0 l hV hn ht tx res)
  have Hh := Lib.hid (hld_lt l tx res)
  obtain ⟨b, hbs⟩ : ∃ b, (hld l tx res ||| m4 mode) = b := ⟨_, rfl⟩
  have Hb16 : Hid (b < 16) := by show _ < _; rw [← hbs]; exact or_lt16 (hld_lt l tx res) (m4_lt mode)
  have Hbit : Hid (∀ t, b.testBit t = ((hld l tx res).testBit t || (m4 mode).testBit t)) := fun t => by rw [← hbs]; exact tb_or _ _ _
  have Hg : Hid (grt l tx res mode = gr (owF tx res) ⟨tx, res, ((b : Nat) : Int)⟩ l) := by show _ = _; rw [← hbs]; rfl
  have H1 := Lib.hid (fun V t ht md hm => has_bit V mode hmode t ht md hm)
  clear h hb ho ht hmode hbs
  generalize grt l tx res mode = gl at *
  have H2 : Hid (∀ V t (_ : t < 4) (md : Int) (_ : md = ((2 ^ t : Nat) : Int)), Calls Try.prog 34 #[.int .i64 ((hld l tx res : Nat) : Int), .int .i64 md] V fun e w' => e = .returned (.bool ((hld l tx res).testBit t)) ∧ w' = V) := fun V t ht md hm => by
    have := has_bit V ((hld l tx res : Nat) : Int) (by have := Hh.out; unfold I64; omega) t ht md hm
    rw [m4_nat _ Hh.out] at this
    exact this
  generalize hld l tx res = hh at *
  generalize m4 mode = mm at *
  obtain ⟨q, hq⟩ : ∃ q : Int, ((b : Nat) : Int) = q := ⟨_, rfl⟩
  rw [hq] at Hg
  have Hq := Lib.hid hq
  clear hq
  go_enter Try.func15, Try.ntmps15
  go_wp2_with fail
  refine HB.out.mono ?_
  rintro e w2 ⟨B, cB, rfl, _, hm2⟩
  have HX2 := Lib.hid (HX.out.keep hm2)
  have HM2 := Lib.hid hm2
  clear hm2 HB HX
  go_wp2_with fail
  refine (HH.out _ HX2.out).mono ?_
  rintro e w3 ⟨rfl, hm3⟩
  have HX3 := Lib.hid (HX2.out.keep hm3)
  have HM3 := Lib.hid (HM2.out.trans hm3 (fun _ _ h => h))
  clear hm3 HH HX2 HM2
  go_wp2
  go_loopw [11, 12] (fun s m wr => ∃ (t : Nat) (md out : Int), t ≤ 4 ∧ md = ((2 ^ t : Nat) : Int) ∧ out = ((pS b t : Nat) : Int) ∧ m = .int .i64 md ∧ s = .int .i64 out ∧ Mod (fun _ => False) w3 wr) (fun _ m _ => 32 - (intOf m).toNat)
  case atStart => exact ⟨0, 1, 0, by omega, rfl, rfl, rfl, rfl, Mod.refl _ _⟩
  case round =>
    obtain ⟨t, md, out, ht4, hmd, hout, rfl, rfl, hr⟩ := hrel
    have Hr := Lib.hid hr
    have hob : 0 ≤ out ∧ out ≤ 15 := by have := pS_le b ht4; omega
    obtain ⟨ho0, ho15⟩ := hob
    have Hout := Lib.hid hout
    clear hr hout
    rcases Nat.lt_or_ge t 4 with hlt4 | hge4
    · obtain ⟨hm1, hm8, hm2⟩ := pow_in hlt4 hmd
      have Hm2 := Lib.hid hm2
      have Hmd := Lib.hid hmd
      have C1 := Lib.hid (fun V => H2.out V t hlt4 md hmd)
      have C2 := Lib.hid (fun V => H1.out V t hlt4 md hmd)
      have Hps : Hid (pS b (t + 1) = pS b t + (if b.testBit t then 2 ^ t else 0)) := rfl
      rw [Hbit.out t] at Hps
      clear hm2 hmd ht4
      generalize hh.testBit t = p1 at *
      generalize mm.testBit t = p2 at *
      cases p1 with
      | true =>
        have Hfin : Hid (out + md = ((pS b (t + 1) : Nat) : Int)) := by
          show _ = _
          rw [Hps.out, Bool.true_or, if_pos rfl, Hout.out, Hmd.out]
          omega
        go_wp2_with fail
        refine (C1.out _).mono ?_
        rintro e w5 ⟨rfl, h'⟩; subst w5
        go_wp2
        go_roundw
        case rel => exact ⟨t + 1, _, _, by omega, Hm2.out, Hfin.out, rfl, rfl, Hr.out⟩
        case measure => simp [intOf]; omega
      | false =>
        cases p2 with
        | true =>
          have Hfin : Hid (out + md = ((pS b (t + 1) : Nat) : Int)) := by
            show _ = _
            rw [Hps.out, Bool.or_true, if_pos rfl, Hout.out, Hmd.out]
            omega
          go_wp2_with fail
          refine (C1.out _).mono ?_
          rintro e w5 ⟨rfl, h'⟩; subst w5
          go_wp2_with fail
          refine (C2.out _).mono ?_
          rintro e w5 ⟨rfl, h'⟩; subst w5
          go_wp2
          go_roundw
          case rel => exact ⟨t + 1, _, _, by omega, Hm2.out, Hfin.out, rfl, rfl, Hr.out⟩
          case measure => simp [intOf]; omega
        | false =>
          have Hfin : Hid (out = ((pS b (t + 1) : Nat) : Int)) := by
            show _ = _
            rw [Hps.out, Hout.out]
            simp
          go_wp2_with fail
          refine (C1.out _).mono ?_
          rintro e w5 ⟨rfl, h'⟩; subst w5
          go_wp2_with fail
          refine (C2.out _).mono ?_
          rintro e w5 ⟨rfl, h'⟩; subst w5
          go_wp2
          go_roundw
          case rel => exact ⟨t + 1, _, _, by omega, Hm2.out, Hfin.out, rfl, rfl, Hr.out⟩
          case measure => simp [intOf]; omega
    · obtain rfl : t = 4 := by omega
      have hd : decide (md ≤ 8) = false := by rw [hmd]; decide
      have Hf : Hid (out = q) := by show _ = _; rw [Hout.out, pS_four Hb16.out, Hq.out]
      have hfo := Hf.out
      subst hfo
      have HM4 := Lib.hid (HM3.out.trans Hr.out (fun _ _ h => h))
      have HX4 := Lib.hid (HX3.out.keep Hr.out)
      obtain ⟨q, hqq⟩ : ∃ q : Int, q = out := ⟨_, rfl⟩
      subst hqq
      clear hmd ho0 ho15 HM3 HX3 Hr Hf Hout H1 H2
      obtain ⟨w4, hw4⟩ : ∃ w4, w4 = wr := ⟨_, rfl⟩
      subst hw4
      have HG0 : Hid (Grs w4 w4 (gp (owF tx res) (⟨tx, res, q⟩ : Tr) (l.take 0)) none 0 0) := ⟨by rw [gp_zero]; exact OwN.nil _ _ _ _, Mod.refl _ _⟩
      go_wp2
      go_loopw [13, 14, 15] (fun u d s wr => ∃ (j k : Nat) (A : Option Addr) (c : Nat), j ≤ n ∧ k ≤ j ∧ s = .int .i64 j ∧ u = .slice A k c ∧ d = .bool ((l.take j).any (owF tx res)) ∧ Grs w4 wr (gp (owF tx res) (⟨tx, res, q⟩ : Tr) (l.take j)) A k c) (fun _ _ s _ => n - (intOf s).toNat)
      case atStart => exact ⟨0, 0, none, 0, Nat.zero_le _, Nat.le_refl _, rfl, rfl, by simp, HG0.out⟩
      case round =>
        obtain ⟨j, k, A, c, hj, hkj, rfl, rfl, rfl, hg⟩ := hrel
        have Hgr := Lib.hid hg
        clear hg HG0
        by_cases hlt : j < n
        · have hjl : j < l.length := by rw [Hl.out]; exact hlt
          obtain ⟨bb, oo, hS, hc⟩ := (HX4.out.keep Hgr.out.old).cells (by omega)
          rw [hS]
          obtain ⟨s0, s1, s2⟩ := hc j hlt
          have Hany := Lib.hid (any_take_succ (own := (owF tx res)) hjl)
          have Hoth := Lib.hid (fun h => gp_other (own := (owF tx res)) (g := (⟨tx, res, q⟩ : Tr)) hjl h)
          have Hagn := Lib.hid (fun h h2 => gp_again (own := (owF tx res)) (g := (⟨tx, res, q⟩ : Tr)) hjl h h2)
          have Hown := Lib.hid (fun h h2 => gp_own (own := (owF tx res)) (g := (⟨tx, res, q⟩ : Tr)) hjl h h2)
          generalize atS l j = x at *
          have How : Hid (owF tx res x = (!((x.a != tx) || (x.b != res)))) := by show owF tx res x = _; rw [Bool.eq_iff_iff, owF_iff]; simp
          clear hc hS hjl
          by_cases ha : x.a = tx
          · have hda : (x.a != tx) = false := by simpa using ha
            clear ha
            by_cases hb : x.b = res
            · have hdb : (x.b != res) = false := by simpa using hb
              clear hb
              have Ho : Hid (owF tx res x = true) := by show _ = _; rw [How.out]; simp [hda, hdb]
              cases hv : (l.take j).any (owF tx res) with
              | true =>
                have Hn := Lib.hid (Hagn.out Ho.out hv)
                have Ha : Hid ((l.take (j + 1)).any (owF tx res) = true) := by show _ = _; rw [Hany.out, hv]; rfl
                clear hv
                rw [← Hn.out] at Hgr
                go_wp2
                go_roundw
                case rel => exact ⟨j + 1, k, A, c, by omega, by omega, by go_num, rfl, by rw [Ha.out], Hgr.out⟩
                case measure => simp [intOf]; omega
              | false =>
                have Hn := Lib.hid (Hown.out Ho.out hv)
                have Ha : Hid ((l.take (j + 1)).any (owF tx res) = true) := by show _ = _; rw [Hany.out, Ho.out, Bool.or_true]
                clear hv
                have Hrow := Lib.hid (OwN.alloc Hgr.out.own (.cells #[.int .i64 tx, .int .i64 res, .int .i64 q] 37))
                have Hsrc := Lib.hid (SrcN.lit wr [.int .i64 tx, .int .i64 res, .int .i64 q] 37 (by simp [Value.oneCell']))
                have Hbase := Lib.hid (Hgr.out.old_le (.cells #[.int .i64 tx, .int .i64 res, .int .i64 q] 37))
                go_wp2_with (at_builtin; refine wpList_appN (.tmp 95) (.tmp 100) hdElem rfl rfl rfl rfl Hrow.out Hsrc.out (by omega) (by unfold maxLen; omega) Hbase.out ?_; intro A' c' w6 h1 h2 h3; have H1 := Lib.hid h1; have H2 := Lib.hid h2; clear h1 h2 h3)
                have Hg5 := Lib.hid (Hgr.out.app (x := ⟨tx, res, q⟩) H1.out H2.out)
                rw [← Hn.out] at Hg5
                clear H1 H2 s0 s1 s2
                go_roundw
                case rel => exact ⟨j + 1, k + 1, A', c', by omega, by omega, by go_num, rfl, by rw [Ha.out], Hg5.out⟩
                case measure => simp [intOf]; omega
            · have hdb : (x.b != res) = true := by simpa using hb
              clear hb
              have Ho : Hid (owF tx res x = false) := by show _ = _; rw [How.out]; simp [hda, hdb]
              have Hn := Lib.hid (Hoth.out Ho.out)
              have Ha : Hid ((l.take (j + 1)).any (owF tx res) = (l.take j).any (owF tx res)) := by show _ = _; rw [Hany.out, Ho.out, Bool.or_false]
              have Hrow := Lib.hid (OwN.alloc Hgr.out.own (.cells #[.int .i64 x.a, .int .i64 x.b, .int .i64 x.c] 37))
              have Hsrc := Lib.hid (SrcN.lit wr [.int .i64 x.a, .int .i64 x.b, .int .i64 x.c] 37 (by simp [Value.oneCell']))
              have Hbase := Lib.hid (Hgr.out.old_le (.cells #[.int .i64 x.a, .int .i64 x.b, .int .i64 x.c] 37))
              go_wp2_with (at_builtin; refine wpList_appN (.tmp 86) (.tmp 91) hdElem rfl rfl rfl rfl Hrow.out Hsrc.out (by omega) (by unfold maxLen; omega) Hbase.out ?_; intro A' c' w6 h1 h2 h3; have H1 := Lib.hid h1; have H2 := Lib.hid h2; clear h1 h2 h3)
              have Hg5 := Lib.hid (Hgr.out.app (x := x) H1.out H2.out)
              rw [← Hn.out] at Hg5
              clear H1 H2 s0 s1 s2
              go_roundw
              case rel => exact ⟨j + 1, k + 1, A', c', by omega, by omega, by go_num, rfl, by rw [Ha.out], Hg5.out⟩
              case measure => simp [intOf]; omega
          · have hda : (x.a != tx) = true := by simpa using ha
            clear ha
            have Ho : Hid (owF tx res x = false) := by show _ = _; rw [How.out]; simp [hda]
            have Hn := Lib.hid (Hoth.out Ho.out)
            have Ha : Hid ((l.take (j + 1)).any (owF tx res) = (l.take j).any (owF tx res)) := by show _ = _; rw [Hany.out, Ho.out, Bool.or_false]
            have Hrow := Lib.hid (OwN.alloc Hgr.out.own (.cells #[.int .i64 x.a, .int .i64 x.b, .int .i64 x.c] 37))
            have Hsrc := Lib.hid (SrcN.lit wr [.int .i64 x.a, .int .i64 x.b, .int .i64 x.c] 37 (by simp [Value.oneCell']))
            have Hbase := Lib.hid (Hgr.out.old_le (.cells #[.int .i64 x.a, .int .i64 x.b, .int .i64 x.c] 37))
            go_wp2_with (at_builtin; refine wpList_appN (.tmp 86) (.tmp 91) hdElem rfl rfl rfl rfl Hrow.out Hsrc.out (by omega) (by unfold maxLen; omega) Hbase.out ?_; intro A' c' w6 h1 h2 h3; have H1 := Lib.hid h1; have H2 := Lib.hid h2; clear h1 h2 h3)
            have Hg5 := Lib.hid (Hgr.out.app (x := x) H1.out H2.out)
            rw [← Hn.out] at Hg5
            clear H1 H2 s0 s1 s2
            go_roundw
            case rel => exact ⟨j + 1, k + 1, A', c', by omega, by omega, by go_num, rfl, by rw [Ha.out], Hg5.out⟩
            case measure => simp [intOf]; omega
        · obtain rfl : j = n := by omega
          have Hlt0 : Hid (l.take j = l) := by show _ = _; rw [← Hl.out, List.take_length]
          rw [Hlt0.out] at Hgr ⊢
          cases hv : l.any (owF tx res) with
          | true =>
            have Hfin : Hid (gp (owF tx res) (⟨tx, res, q⟩ : Tr) l = gl) := by show _ = _; rw [Hg.out, gp_end_any hv]
            rw [Hfin.out] at Hgr
            have Hln : Hid (gl.length = k) := Hgr.out.own.len
            clear hv
            go_wp2
            go_ret2
            refine ⟨A, c, by rw [Hln.out]; rfl, ?_, HM4.out.trans Hgr.out.old (fun _ _ h => h)⟩
            rw [Hln.out]
            exact Ow3.rebase3 Hgr.out.own (fun i hi => by have := (Hgr.out.own.lt i hi).1; have := HM4.out.size; omega)
          | false =>
            have Hfin : Hid (gp (owF tx res) (⟨tx, res, q⟩ : Tr) l ++ [(⟨tx, res, q⟩ : Tr)] = gl) := by show _ = _; rw [Hg.out, gp_end_none hv]
            clear hv
            have Hrow := Lib.hid (OwN.alloc Hgr.out.own (.cells #[.int .i64 tx, .int .i64 res, .int .i64 q] 37))
            have Hsrc := Lib.hid (SrcN.lit wr [.int .i64 tx, .int .i64 res, .int .i64 q] 37 (by simp [Value.oneCell']))
            have Hbase := Lib.hid (Hgr.out.old_le (.cells #[.int .i64 tx, .int .i64 res, .int .i64 q] 37))
            go_wp2_with (at_builtin; refine wpList_appN (.tmp 104) (.tmp 109) hdElem rfl rfl rfl rfl Hrow.out Hsrc.out (by omega) (by unfold maxLen; omega) Hbase.out ?_; intro A' c' w6 h1 h2 h3; have H1 := Lib.hid h1; have H2 := Lib.hid h2; clear h1 h2 h3)
            have Hg5 := Lib.hid (Hgr.out.app (x := (⟨tx, res, q⟩ : Tr)) H1.out H2.out)
            rw [Hfin.out] at Hg5
            have Hln : Hid (gl.length = k + 1) := Hg5.out.own.len
            clear H1 H2
            go_ret2
            refine ⟨A', c', by rw [Hln.out]; rfl, ?_, HM4.out.trans Hg5.out.old (fun _ _ h => h)⟩
            rw [Hln.out]
            exact Ow3.rebase3 Hg5.out.own (fun i hi => by have := (Hg5.out.own.lt i hi).1; have := HM4.out.size; omega)

end Go.Proofs.Ytpkjafadhnecfaa
