/-
  LockOrder: in which order locks stand does not tell who blocks, what one holds, and whether they are safe.
-/
import Derived.Test.YtpkjafadhnecfaaKAw
namespace Go.Proofs.Ytpkjafadhnecfaa
open Go Go.RowKit

/-- The list from a place on, the other way round. -/
def rv (l : List Tr) (j : Nat) : List Tr := (l.drop j).reverse
theorem rv_all (l : List Tr) : rv l l.length = [] := by simp [rv]
theorem rv_succ {l : List Tr} {k : Nat} (h : k < l.length) : rv l k = rv l (k + 1) ++ [atS l k] := by
  unfold rv
  rw [List.drop_eq_getElem_cons h, List.reverse_cons, atS_at h]
theorem mem_rv0 (l : List Tr) (x : Tr) : x ∈ rv l 0 ↔ x ∈ l := by simp [rv]
/-- What lies ahead of a round. -/
structure Rvs (w wr : World) (l : List Tr) (A : Option Addr) (q c : Nat) : Prop where
  own : Ow3 wr w.heap.size 37 A q c l
  old : Mod (fun _ => False) w wr

set_option maxRecDepth 100000 in
set_option maxHeartbeats 6400000 in
theorem order_walk (W : World) (A0 : Option Addr) (n c0 : Nat) (l : List Tr) (h : Tl W A0 n c0 l) (tx res mode : Int) :
    Calls Try.prog 7 #[.slice A0 n c0, .int .i64 tx, .int .i64 res, .int .i64 mode] W fun e w' => e = .returned (.bool true) ∧ Below W.heap.size W w' := by
  by_cases hbig : 100 < n
  · have hgt : decide ((100 : Int) < (n : Int)) = true := by rw [decide_eq_true_eq]; omega
    clear hbig
    go_enter Try.func7, Try.ntmps7
    go_wp2_with fail
    refine (awake_ok _).mono ?_
    rintro e w1 ⟨rfl, hm1⟩
    have HM1 := Lib.hid hm1
    clear hm1
    go_wp2
    go_ret
    exact ⟨rfl, HM1.out.below (Nat.le_refl _) (fun _ _ => id)⟩
  have hn : n ≤ 1000 := by omega
  have hgt : decide ((100 : Int) < (n : Int)) = false := by rw [decide_eq_false_iff_not]; omega
  have hn100 : n ≤ 100 := by omega
  clear hbig
  have HX := Lib.hid h
  have Hll : Hid (l.length = n) := h.len
  have BL := Lib.hid (fun V (hV : Tl V A0 n c0 l) => blockers_ok V A0 n c0 l hV hn tx res mode)
  have BM := Lib.hid (fun V A c (hV : Tl V A n c (rv l 0)) => blockers_ok V A n c (rv l 0) hV hn tx res mode)
  have HL := Lib.hid (fun V (hV : Tl V A0 n c0 l) => holds_ok V A0 n c0 l hV hn tx res)
  have HM := Lib.hid (fun V A c (hV : Tl V A n c (rv l 0)) => holds_ok V A n c (rv l 0) hV hn tx res)
  have SL := Lib.hid (fun V (hV : Tl V A0 n c0 l) => safe_ok V A0 n c0 l hV hn)
  have SM := Lib.hid (fun V A c (hV : Tl V A n c (rv l 0)) => safe_ok V A n c (rv l 0) hV hn)
  rw [blks_ext (l := rv l 0) (l' := l) (fun x _ => mem_rv0 l x)] at BM
  rw [hld_ext (l := rv l 0) (l' := l) (fun x _ => mem_rv0 l x)] at HM
  rw [sfB_ext (mem_rv0 l)] at SM
  have Hbl : Hid ((blks l tx res mode).length ≤ 1000) := by
    show _ ≤ _
    have := blks_len l tx res mode
    have := Hll.out
    omega
  unfold BkAns at BL BM
  clear h
  generalize blks l tx res mode = bs at *
  generalize hld l tx res = hh at *
  generalize sfB l = sf at *
  have hh' : (((hh : Nat) : Int) == ((hh : Nat) : Int)) = true := by simp
  have hsf : (sf == sf) = true := by simp
  go_enter Try.func7, Try.ntmps7
  go_wp2_with fail
  refine (awake_ok _).mono ?_
  rintro e w1 ⟨rfl, hm1⟩
  have HM1 := Lib.hid hm1
  clear hm1
  have HR : Hid (Rvs w1 w1 (rv l n) none 0 0) := ⟨by rw [← Hll.out, rv_all]; exact OwN.nil _ _ _ _, Mod.refl _ _⟩
  go_wp2
  go_loopw [10, 11] (fun m i wr => ∃ (j q : Nat) (A : Option Addr) (c : Nat), j + q = n ∧ i = .int .i64 ((j : Int) - 1) ∧ m = .slice A q c ∧ Rvs w1 wr (rv l j) A q c) (fun _ i _ => (intOf i + 1).toNat)
  case atStart => exact ⟨n, 0, none, 0, rfl, rfl, rfl, HR.out⟩
  case round =>
    obtain ⟨j, q, A, c, hjq, rfl, rfl, hr⟩ := hrel
    have Hr := Lib.hid hr
    clear hr HR
    rcases Nat.eq_zero_or_pos j with h0 | h0
    · subst h0
      obtain rfl : q = n := by omega
      rw [show ((0 : Nat) : Int) - 1 = -1 by omega]
      have HXr := Lib.hid (HX.out.keep (HM1.out.trans Hr.out.old (fun _ _ h => h)))
      have HMr := Lib.hid Hr.out.own.tl
      have HMd := Lib.hid (HM1.out.trans Hr.out.old (fun _ _ h => h))
      clear Hr HX HM1
      go_wp2_with fail
      refine (BL.out _ HXr.out).mono ?_
      rintro e w2 ⟨B, cB, rfl, hB, hm2⟩
      have HB2 := Lib.hid hB.il
      have HX2 := Lib.hid (HXr.out.keep hm2)
      have HM2 := Lib.hid (HMr.out.keep hm2)
      have HD2 := Lib.hid (HMd.out.trans hm2 (fun _ _ h => h))
      clear hB hm2 BL HXr HMr HMd
      go_wp2_with fail
      refine (BM.out _ _ _ HM2.out).mono ?_
      rintro e w3 ⟨C, cC, rfl, hC, hm3⟩
      have HC3 := Lib.hid hC.il
      have HB3 := Lib.hid (HB2.out.keep hm3)
      have HX3 := Lib.hid (HX2.out.keep hm3)
      have HM3 := Lib.hid (HM2.out.keep hm3)
      have HD3 := Lib.hid (HD2.out.trans hm3 (fun _ _ h => h))
      clear hC hm3 BM HB2 HX2 HM2 HD2
      go_wp2_with fail
      refine (ints_ok _ _ _ _ _ _ _ HB3.out HC3.out Hbl.out).mono ?_
      rintro e w4 ⟨rfl, hm4⟩
      have HX4 := Lib.hid (HX3.out.keep hm4)
      have HM4 := Lib.hid (HM3.out.keep hm4)
      have HD4 := Lib.hid (HD3.out.trans hm4 (fun _ _ h => h))
      clear hm4 HX3 HM3 HD3 HB3 HC3
      go_wp2_with fail
      refine (HL.out _ HX4.out).mono ?_
      rintro e w5 ⟨rfl, hm5⟩
      have HX5 := Lib.hid (HX4.out.keep hm5)
      have HM5 := Lib.hid (HM4.out.keep hm5)
      have HD5 := Lib.hid (HD4.out.trans hm5 (fun _ _ h => h))
      clear hm5 HX4 HM4 HD4 HL
      go_wp2_with fail
      refine (HM.out _ _ _ HM5.out).mono ?_
      rintro e w6 ⟨rfl, hm6⟩
      have HX6 := Lib.hid (HX5.out.keep hm6)
      have HM6 := Lib.hid (HM5.out.keep hm6)
      have HD6 := Lib.hid (HD5.out.trans hm6 (fun _ _ h => h))
      clear hm6 HX5 HM5 HD5 HM
      go_wp2_with fail
      refine (SL.out _ HX6.out).mono ?_
      rintro e w7 ⟨rfl, hm7⟩
      have HM7 := Lib.hid (HM6.out.keep hm7)
      have HD7 := Lib.hid (HD6.out.trans hm7 (fun _ _ h => h))
      clear hm7 HX6 HM6 HD6 SL
      go_wp2_with fail
      refine (SM.out _ _ _ HM7.out).mono ?_
      rintro e w8 ⟨rfl, hm8⟩
      have HD8 := Lib.hid (HD7.out.trans hm8 (fun _ _ h => h))
      clear hm8 HM7 HD7 SM
      go_wp2
      go_ret
      exact ⟨rfl, HD8.out.below (Nat.le_refl _) (fun _ _ => id)⟩
    · obtain ⟨k, rfl⟩ : ∃ k, j = k + 1 := ⟨j - 1, by omega⟩
      rw [show ((k + 1 : Nat) : Int) - 1 = (k : Int) by omega]
      have hkn : k < n := by omega
      obtain ⟨b, o, hS, hc⟩ := (HX.out.keep (HM1.out.trans Hr.out.old (fun _ _ h => h))).cells (by omega)
      rw [hS]
      obtain ⟨s0, s1, s2⟩ := hc k hkn
      have Hsc : Hid (rv l k = rv l (k + 1) ++ [atS l k]) := rv_succ (by rw [Hll.out]; exact hkn)
      have hq : q ≤ 100 := by omega
      generalize hT : atS l k = s at *
      have Hown := Lib.hid (OwN.alloc Hr.out.own (.cells #[.int .i64 s.a, .int .i64 s.b, .int .i64 s.c] 37))
      have Hsrc := Lib.hid (SrcN.lit wr [.int .i64 s.a, .int .i64 s.b, .int .i64 s.c] 37 (by simp [Value.oneCell']))
      have Hbase : Hid (w1.heap.size ≤ (wr.alloc (.cells #[.int .i64 s.a, .int .i64 s.b, .int .i64 s.c] 37)).heap.size) := by
        show _ ≤ _
        rw [World.size_alloc]
        have := Hr.out.old.size
        omega
      have Hk := Lib.hid hjq
      clear hT hc hS hjq h0
      go_wp2_with (at_builtin; refine wpList_appN (.tmp 29) (.tmp 34) hdElem rfl rfl rfl rfl Hown.out Hsrc.out (by omega) (by unfold maxLen; omega) Hbase.out ?_; intro A' c' w3 h1 h2 h3; have H1 := Lib.hid h1; have H2 := Lib.hid h2; clear h1 h2 h3)
      have Hr4 : Hid (Rvs w1 w3 (rv l k) A' (q + 1) c') := by
        refine ⟨?_, ?_⟩
        · rw [Hsc.out]
          have h1 := H1.out
          show OwN w3 _ _ 3 A' _ c' (trs _)
          rw [trs_append]
          exact h1
        · exact (Hr.out.old.alloc (.cells #[.int .i64 s.a, .int .i64 s.b, .int .i64 s.c] 37)).grown H2.out (fun k e hk => by have := (Hr.out.own.lt k e).1; omega)
      clear H1 H2 s0 s1 s2
      go_roundw
      case rel => exact ⟨k, q + 1, A', c', by have := Hk.out; omega, by go_num, rfl, Hr4.out⟩
      case measure => simp [intOf]
end Go.Proofs.Ytpkjafadhnecfaa
