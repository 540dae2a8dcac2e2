/-
  Package lock: Safe; slices.Clone at locks.
-/
import Derived.Test.YtpkjafadhnecfaaKSrt
import Derived.Test.YtpkjafadhnecfaaKMath3
import Derived.BigQuiet
namespace Go.Proofs.Ytpkjafadhnecfaa
open Go Go.RowKit

set_option maxRecDepth 100000 in
set_option maxHeartbeats 800000 in
theorem clone_ok (w : World) (A0 : Option Addr) (n c0 : Nat) (l : List Tr) (h : Tl w A0 n c0 l) (hn : n ≤ 1000) :
    Calls Try.prog 36 #[.slice A0 n c0] w fun e w' => FdAns w w' l e := by
  have hll := h.len
  cases A0 with
  | none =>
    have h0 : n = 0 := by
      rcases Nat.eq_zero_or_pos n with h0 | h0
      · exact h0
      · obtain ⟨_, _, e, _⟩ := h.cells h0; cases e
    have hl : l = [] := List.eq_nil_of_length_eq_zero (by omega)
    subst hl
    subst h0
    have heq : ∀ w, (binOp .eql 22 (.slice none 0 c0) (.slice none 0 0)).run Try.prog w = .ok (.bool true) w := fun _ => by kernel_rfl
    clear h hll
    go_enter Try.func36, Try.ntmps36
    go_wp2
    go_ret
    exact ⟨none, 0, rfl, OwN.nil _ _ _ _, Mod.refl _ _⟩
  | some ad =>
    have heq : ∀ w, (binOp .eql 22 (.slice (some ad) n c0) (.slice none 0 0)).run Try.prog w = .ok (.bool false) w := fun _ => by kernel_rfl
    have Hll := Lib.hid hll
    have hm1 : Mod (fun _ => False) w (w.alloc (.cells #[] 37)) := (Mod.refl _ w).alloc _
    have Hs := Lib.hid (h.keep hm1).src
    have Ho : Hid (OwN (w.alloc (.cells #[] 37)) w.heap.size 37 3 (some ⟨w.heap.size, 0, none⟩) 0 0 []) := OwN.mk_ (cur := []) (Nat.le_refl _) (heap_alloc_new w _) (Nat.le_refl _) (by unfold maxLen; omega) rfl rfl rfl
    have Hb : Hid (w.heap.size ≤ (w.alloc (.cells #[] 37)).heap.size) := hm1.size
    have HM1 := Lib.hid hm1
    clear h hll hm1
    go_enter Try.func36, Try.ntmps36
    go_wp2_with (at_builtin; refine wpList_appN (.tmp 5) (.tmp 6) hdElem rfl rfl rfl rfl Ho.out Hs.out (by omega) (by unfold maxLen; omega) Hb.out ?_; intro A' c' w3 h1 h2 h3; rw [Nat.zero_add] at h1 ⊢; have H1 := Lib.hid h1; have H2 := Lib.hid h2; clear h1 h2 h3)
    go_ret
    refine ⟨A', c', by rw [Hll.out]; rfl, ?_, ?_⟩
    · have := H1.out
      rw [List.nil_append] at this
      rw [Hll.out]
      exact this
    · have hne : ∀ k, blkOf (some ⟨w.heap.size, 0, none⟩) = some k → w.heap.size ≤ k := by
        intro k e
        have : w.heap.size = k := by simpa [blkOf] using e
        omega
      refine Mod.mono (F := fun k => w.heap.size ≤ k) ?_ (fun k hk e => by omega)
      exact (HM1.out.mono (fun _ _ h => h.elim)).grown H2.out (fun k e _ => hne k e)

/-- What lies ahead of a round of Safe. -/
structure Sfr (w wr : World) (d : List Tr) (j : Nat) (bI aI : Int) : Prop where
  bf : m4 bI = bfN d j
  al : m4 aI = alN d j
  ok : Okk d j
  old : Mod (fun _ => False) w wr
set_option maxRecDepth 100000 in
set_option maxHeartbeats 6400000 in
theorem safe_ok (w : World) (A0 : Option Addr) (n c0 : Nat) (l : List Tr) (h : Tl w A0 n c0 l) (hn : n ≤ 1000) :
    Calls Try.prog 21 #[.slice A0 n c0] w fun e w' => e = .returned (.bool (sfB l)) ∧ Mod (fun _ => False) w w' := by
  have HC := Lib.hid (clone_ok w A0 n c0 l h hn)
  unfold FdAns at HC
  have hll := h.len
  rw [hll] at HC
  obtain ⟨vb, hvb⟩ : ∃ vb, sfB l = vb := ⟨_, rfl⟩
  rw [hvb]
  have Hvb := Lib.hid hvb
  clear h hll hvb
  go_enter Try.func21, Try.ntmps21
  go_wp2_with fail
  refine HC.out.mono ?_
  rintro e w2 ⟨A, cA, rfl, ho, hm2⟩
  have HM2 := Lib.hid hm2
  have HO := Lib.hid (sorth_ok w2 w.heap.size A n cA l ho hn)
  have Hlt := Lib.hid ho.lt
  clear ho hm2 HC
  go_wp2_with fail
  refine HO.out.mono ?_
  rintro e w3 ⟨rfl, d, ho, hris, hmem, hm3⟩
  have HD := Lib.hid ho
  have HR := Lib.hid hris
  have HV : Hid (sfB d = vb) := (sfB_ext hmem).trans Hvb.out
  have HM3 : Hid (Mod (fun _ => False) w w3) := ((HM2.out.mono (G := fun k => w.heap.size ≤ k) (fun _ _ h => h.elim)).trans hm3 (fun i _ e => (Hlt.out i e).1)).mono (fun k hk e => by omega)
  have Hdl : Hid (d.length = n) := ho.len
  have HS0 : Hid (Sfr w3 w3 d 0 0 0) := ⟨rfl, rfl, Okk.zero d, Mod.refl _ _⟩
  clear ho hris hmem hm3 HO Hlt HM2
  go_wp2
  go_loopw [3, 4, 13] (fun b a i wr => ∃ (j : Nat) (bI aI : Int), j ≤ n ∧ i = .int .i64 j ∧ b = .int .i64 bI ∧ a = .int .i64 aI ∧ Sfr w3 wr d j bI aI) (fun _ _ i _ => n - (intOf i).toNat)
  case atStart => exact ⟨0, 0, 0, Nat.zero_le _, rfl, rfl, rfl, HS0.out⟩
  case round =>
    obtain ⟨j, bI, aI, hj, rfl, rfl, rfl, hst⟩ := hrel
    have HS := Lib.hid hst
    clear hst HS0
    by_cases hlt : j < n
    · have HDr := Lib.hid (HD.out.keep HS.out.old)
      have hjl : j < d.length := by rw [Hdl.out]; exact hlt
      have Hok := Lib.hid (fun h => HS.out.ok.succ hjl h)
      have Hno := Lib.hid (clash_no hjl)
      have Hbs := Lib.hid (bf_succ hjl)
      have Hnew := Lib.hid (fun h => (And.intro (nb_new HR.out hjl h) (al_new HR.out hjl h)))
      have Hsame := Lib.hid (fun h0 hb => al_same hjl h0 hb)
      have Hnext := Lib.hid (fun h0 hb ha => nb_next HR.out hjl h0 hb ha)
      have Hkeep := Lib.hid (fun h0 hb ha => nb_same (d := d) (i := j) h0 hb ha)
      obtain ⟨g, cs, hA, _, _, hh⟩ := HDr.out.at_ (by omega)
      obtain ⟨b', o', hA', hc⟩ := HDr.out.tl.cells (by omega)
      subst hA
      injection hA' with hA'
      injection hA' with e1 e2 _
      rw [← e1, ← e2] at hc
      obtain ⟨s0, s1, s2⟩ := hc j hlt
      rw [Nat.zero_add] at s0 s1 s2
      have Hc := Lib.hid hc
      have HM4 := Lib.hid ((HM3.out.trans HS.out.old (fun _ _ h => h)).alloc (.cells #[.int .i64 (atS d j).a, .int .i64 (atS d j).b, .int .i64 (atS d j).c] 37))
      have hne : g ≠ wr.heap.size := by have := (Array.getElem?_eq_some_iff.1 hh).1; omega
      generalize hT : atS d j = s at *
      have HT := Lib.hid hT
      clear hT hc HD HDr hh e1 e2
      by_cases h0 : j = 0
      · have hd : ((j : Int) == 0) = true := by simpa using h0
        have HN := Lib.hid (Hnew.out (.inl h0))
        have Hcl := Lib.hid (fun V => clash_ok V 0 s.c)
        have hz : clB 0 s.c = false := cl4_zero _
        rw [hz] at Hcl
        clear h0 hz Hnew Hsame Hnext Hkeep Hno
        go_wp2_with fail
        go_quiet (fail)
        go_wp2_with fail
        refine (Hcl.out _).mono ?_
        rintro e w5 ⟨rfl, h'⟩; subst w5
        go_wp2
        go_roundw
        case rel => exact ⟨j + 1, 0, _, by omega, by go_num, rfl, rfl, ⟨by rw [Hbs.out, HN.out.1]; rfl, by rw [m4_or, HN.out.2, show m4 0 = 0 from rfl, Nat.zero_or], Hok.out (by rw [HN.out.1]; exact cl4_zero _), (HS.out.old.alloc (.cells #[.int .i64 s.a, .int .i64 s.b, .int .i64 s.c] 37)).drewN _⟩⟩
        case measure => simp [intOf]; omega
      · obtain ⟨k, hk⟩ : ∃ k, j = k + 1 := ⟨j - 1, by omega⟩
        have hkn : k < n := by omega
        obtain ⟨r0, r1, r2⟩ := Hc.out k hkn
        rw [Nat.zero_add] at r0 r1 r2
        have hd : ((j : Int) == 0) = false := by simpa using h0
        have hsub : (j : Int) - 1 = (k : Int) := by omega
        have H0 := Lib.hid h0
        have hk1 : j - 1 = k := by omega
        rw [hk1] at Hnew Hsame Hnext Hkeep
        generalize hP : atS d k = p at *
        clear hP h0 hk hk1
        by_cases hb : s.b = p.b
        · have hdb : (s.b != p.b) = false := by simpa using hb
          have Hb := Lib.hid hb
          clear hb
          by_cases ha : s.a = p.a
          · have hda : (s.a != p.a) = false := by simpa using ha
            have HN := Lib.hid (Hkeep.out H0.out Hb.out ha)
            have HA := Lib.hid (Hsame.out H0.out Hb.out)
            have Hcl := Lib.hid (fun V => clash_ok V bI s.c)
            have Hz : Hid (clB bI s.c = cl4 (nbN d j) (m4 s.c)) := by show cl4 (m4 bI) (m4 s.c) = _; rw [HS.out.bf, ← HN.out]
            clear ha
            cases hv : clB bI s.c with
            | true =>
              rw [hv] at Hcl Hz
              have Hno2 := Lib.hid (Hno.out Hz.out.symm)
              clear hv
              go_wp2_with fail
              go_quiet (fail)
              go_wp2_with fail
              go_quiet (fail)
              go_wp2_with fail
              refine (Hcl.out _).mono ?_
              rintro e w5 ⟨rfl, h'⟩; subst w5
              go_wp2
              go_ret
              exact ⟨by rw [← HV.out, Hno2.out]; rfl, HM4.out.drewN _⟩
            | false =>
              rw [hv] at Hcl Hz
              clear hv
              go_wp2_with fail
              go_quiet (fail)
              go_wp2_with fail
              go_quiet (fail)
              go_wp2_with fail
              refine (Hcl.out _).mono ?_
              rintro e w5 ⟨rfl, h'⟩; subst w5
              go_wp2
              go_roundw
              case rel => exact ⟨j + 1, bI, _, by omega, by go_num, rfl, rfl, ⟨by rw [Hbs.out, HN.out, HS.out.bf], by rw [m4_or, HA.out, HS.out.al], Hok.out (by exact Hz.out.symm), (HS.out.old.alloc (.cells #[.int .i64 s.a, .int .i64 s.b, .int .i64 s.c] 37)).drewN _⟩⟩
              case measure => simp [intOf]; omega
          · have hda : (s.a != p.a) = true := by simpa using ha
            have HN := Lib.hid (Hnext.out H0.out Hb.out ha)
            have HA := Lib.hid (Hsame.out H0.out Hb.out)
            have Hcl := Lib.hid (fun V => clash_ok V aI s.c)
            have Hz : Hid (clB aI s.c = cl4 (nbN d j) (m4 s.c)) := by show cl4 (m4 aI) (m4 s.c) = _; rw [HS.out.al, ← HN.out]
            clear ha
            cases hv : clB aI s.c with
            | true =>
              rw [hv] at Hcl Hz
              have Hno2 := Lib.hid (Hno.out Hz.out.symm)
              clear hv
              go_wp2_with fail
              go_quiet (fail)
              go_wp2_with fail
              go_quiet (fail)
              go_wp2_with fail
              refine (Hcl.out _).mono ?_
              rintro e w5 ⟨rfl, h'⟩; subst w5
              go_wp2
              go_ret
              exact ⟨by rw [← HV.out, Hno2.out]; rfl, HM4.out.drewN _⟩
            | false =>
              rw [hv] at Hcl Hz
              clear hv
              go_wp2_with fail
              go_quiet (fail)
              go_wp2_with fail
              go_quiet (fail)
              go_wp2_with fail
              refine (Hcl.out _).mono ?_
              rintro e w5 ⟨rfl, h'⟩; subst w5
              go_wp2
              go_roundw
              case rel => exact ⟨j + 1, aI, _, by omega, by go_num, rfl, rfl, ⟨by rw [Hbs.out, HN.out, HS.out.al], by rw [m4_or, HA.out, HS.out.al], Hok.out (by exact Hz.out.symm), (HS.out.old.alloc (.cells #[.int .i64 s.a, .int .i64 s.b, .int .i64 s.c] 37)).drewN _⟩⟩
              case measure => simp [intOf]; omega
        · have hdb : (s.b != p.b) = true := by simpa using hb
          have HN := Lib.hid (Hnew.out (.inr hb))
          have Hcl := Lib.hid (fun V => clash_ok V 0 s.c)
          have hz : clB 0 s.c = false := cl4_zero _
          rw [hz] at Hcl
          clear hb hz Hnew Hsame Hnext Hkeep Hno
          go_wp2_with fail
          go_quiet (fail)
          go_wp2_with fail
          refine (Hcl.out _).mono ?_
          rintro e w5 ⟨rfl, h'⟩; subst w5
          go_wp2
          go_roundw
          case rel => exact ⟨j + 1, 0, _, by omega, by go_num, rfl, rfl, ⟨by rw [Hbs.out, HN.out.1]; rfl, by rw [m4_or, HN.out.2, show m4 0 = 0 from rfl, Nat.zero_or], Hok.out (by rw [HN.out.1]; exact cl4_zero _), (HS.out.old.alloc (.cells #[.int .i64 s.a, .int .i64 s.b, .int .i64 s.c] 37)).drewN _⟩⟩
          case measure => simp [intOf]; omega
    · obtain rfl : j = n := by omega
      have Hf : Hid (sfB d = true) := by
        have := HS.out.ok
        rw [← Hdl.out] at this
        exact this.all
      have HMf := Lib.hid (HM3.out.trans HS.out.old (fun _ _ h => h))
      go_wp2
      go_ret
      exact ⟨by rw [← HV.out, Hf.out]; rfl, HMf.out⟩
end Go.Proofs.Ytpkjafadhnecfaa
