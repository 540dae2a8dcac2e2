/-
  bobbinref12: Drop, Safe, Holds.
-/
import Derived.Test.YtpkjafadhnecfaaKHas
import Derived.Test.YtpkjafadhnecfaaKFind
import Derived.Test.YtpkjafadhnecfaaKOps
import Derived.BigQuiet
namespace Go.Proofs.Ytpkjafadhnecfaa
open Go Go.RowKit

theorem calls_quiet {P : Program} {f : FuncId} {args : Array Value} {w : World} {n : Nat} {v : Value}
    (h : Calls P f args (w.drewN n) fun e w' => e = .returned v ∧ w' = w.drewN n) : Calls P f args (w.drewN n) fun e w'' => e = .returned v ∧ ∃ m, w'' = w.drewN m :=
  h.mono fun _ _ ⟨he, hw⟩ => ⟨he, n, hw⟩

set_option maxRecDepth 100000 in
set_option maxHeartbeats 3200000 in
theorem rdrop_ok (w : World) (A0 : Option Addr) (n c0 : Nat) (l : List Tr) (h : Tl w A0 n c0 l) (hn : n ≤ 1000) (tx : Int) :
    Calls Try.prog 18 #[.slice A0 n c0, .int .i64 tx] w fun e w' => FdAns w w' (l.filter (drF tx)) e := by
  have HX := Lib.hid h
  have Hl : Hid (l.length = n) := h.len
  have HR : Hid (Fnd w w (fl (drF tx) l 0) none 0) := by rw [fl_zero]; exact ⟨OwN.nil _ _ _ _, Mod.refl _ _⟩
  have hz : (fl (drF tx) l 0).length = 0 := by rw [fl_zero]; rfl
  clear h
  go_enter Try.func18, Try.ntmps18
  go_wp2
  go_loopw [5, 6] (fun s i wr => ∃ (j : Nat) (A : Option Addr) (c : Nat), j ≤ n ∧ i = .int .i64 j ∧ s = .slice A (fl (drF tx) l j).length c ∧ Fnd w wr (fl (drF tx) l j) A c) (fun _ i _ => n - (intOf i).toNat)
  case atStart => exact ⟨0, none, 0, Nat.zero_le _, rfl, by rw [hz], HR.out⟩
  case round =>
    obtain ⟨j, A, c, hj, rfl, rfl, hr⟩ := hrel
    clear hz HR
    have Hr := Lib.hid hr
    clear hr
    by_cases hlt : j < n
    · obtain ⟨b, o, hS, hc⟩ := (HX.out.keep Hr.out.old).cells (by omega)
      rw [hS]
      obtain ⟨s0, s1, s2⟩ := hc j hlt
      have Hyes : Hid (drF tx (atS l j) = true → fl (drF tx) l (j + 1) = fl (drF tx) l j ++ [atS l j]) := fl_yes (by rw [Hl.out]; exact hlt)
      have Hno : Hid (drF tx (atS l j) = false → fl (drF tx) l (j + 1) = fl (drF tx) l j) := fl_no (by rw [Hl.out]; exact hlt)
      generalize hT : atS l j = s at *
      clear hT hc hS
      have hcb := fl_len (drF tx) l j
      by_cases he : s.a = tx
      · have hd : (s.a != tx) = false := by simpa using he
        have Hfl : Hid (fl (drF tx) l (j + 1) = fl (drF tx) l j) := Hno.out (by unfold drF; rw [decide_eq_true he]; rfl)
        have Hr3 : Hid (Fnd w wr (fl (drF tx) l (j + 1)) A c) := by rw [Hfl.out]; exact Hr.out
        clear he Hyes Hno
        go_wp2
        go_roundw
        case rel => exact ⟨j + 1, A, c, by omega, by go_num, by rw [Hfl.out], Hr3.out⟩
        case measure => simp [intOf]; omega
      · have hd : (s.a != tx) = true := by simpa using he
        have Hfl : Hid (fl (drF tx) l (j + 1) = fl (drF tx) l j ++ [s]) := Hyes.out (by unfold drF; rw [decide_eq_false he]; rfl)
        clear he Hyes Hno
        have Hown := Lib.hid (OwN.alloc Hr.out.own (.cells #[.int .i64 s.a, .int .i64 s.b, .int .i64 s.c] 37))
        have Hsrc := Lib.hid (SrcN.lit wr [.int .i64 s.a, .int .i64 s.b, .int .i64 s.c] 37 (by simp [Value.oneCell']))
        have Hbase : Hid (w.heap.size ≤ (wr.alloc (.cells #[.int .i64 s.a, .int .i64 s.b, .int .i64 s.c] 37)).heap.size) := by
          show _ ≤ _
          rw [World.size_alloc]
          have := Hr.out.old.size
          omega
        go_wp2_with (at_builtin; refine wpList_appN (.tmp 20) (.tmp 25) hdElem rfl rfl rfl rfl Hown.out Hsrc.out (by omega) (by unfold maxLen; omega) Hbase.out ?_; intro A' c' w3 h1 h2 h3; have H1 := Lib.hid h1; have H2 := Lib.hid h2; clear h1 h2 h3)
        have Hr4 : Hid (Fnd w w3 (fl (drF tx) l (j + 1)) A' c') := by
          refine ⟨?_, ?_⟩
          · rw [Hfl.out]
            have h1 := H1.out
            show OwN w3 _ _ 3 A' _ c' (trs _)
            rw [trs_append, List.length_append]
            exact h1
          · exact (Hr.out.old.alloc (.cells #[.int .i64 s.a, .int .i64 s.b, .int .i64 s.c] 37)).grown H2.out (fun k e hk => by have := (Hr.out.own.lt k e).1; omega)
        have Hln : Hid ((fl (drF tx) l (j + 1)).length = (fl (drF tx) l j).length + 1) := by show _ = _; rw [Hfl.out, List.length_append]; rfl
        clear H1 H2 s0 s1 s2
        go_roundw
        case rel => exact ⟨j + 1, A', c', by omega, by go_num, by rw [Hln.out], Hr4.out⟩
        case measure => simp [intOf]; omega
    · obtain rfl : j = n := by omega
      have Ha : Hid (fl (drF tx) l j = l.filter (drF tx)) := by show _ = _; rw [← Hl.out]; exact fl_all (drF tx) l
      rw [Ha.out] at Hr ⊢
      go_wp2
      go_ret
      exact ⟨A, c, rfl, Hr.out.own, Hr.out.old⟩

set_option maxRecDepth 100000 in
set_option maxHeartbeats 6400000 in
theorem rsafe_ok (w : World) (A0 : Option Addr) (n c0 : Nat) (l : List Tr) (h : Tl w A0 n c0 l) (hn : n ≤ 1000) (ht : ∀ x ∈ l, T64 x) :
    Calls Try.prog 22 #[.slice A0 n c0] w fun e w' => e = .returned (.bool (sfB l)) ∧ Mod (fun _ => False) w w' := by
  have HX := Lib.hid h
  have Hl : Hid (l.length = n) := h.len
  have HT : Hid (∀ i, i < n → I64 (atS l i).c) := fun i hi => by
    have hi' : i < l.length := by rw [Hl.out]; exact hi
    rw [atS_at hi']
    exact (ht _ (List.getElem_mem hi')).2.2
  have Hno : Hid (∀ i k, i < n → k < i → un (atS l i) (atS l k) = true → sfB l = false) := fun i k hi hk hu => sfB_no (by rw [Hl.out]; exact hi) (by rw [Hl.out]; omega) hu
  have Hall : Hid ((∀ i k, k < i → i < n → un (atS l i) (atS l k) = false) → sfB l = true) := fun hh => sfB_pairs.2 (fun i k hk hi => hh i k hk (by rw [← Hl.out]; exact hi))
  clear h ht
  generalize sfB l = sf at *
  go_enter Try.func22, Try.ntmps22
  go_wp2
  go_loopw [3] (fun s wr => ∃ i : Nat, i ≤ n ∧ s = .int .i64 i ∧ (∀ i' k, k < i' → i' < i → un (atS l i') (atS l k) = false) ∧ Mod (fun _ => False) w wr) (fun s _ => n - (intOf s).toNat)
  case atStart => exact ⟨0, Nat.zero_le _, rfl, fun _ _ _ h => absurd h (by omega), Mod.refl _ _⟩
  case round =>
    obtain ⟨i, hi, rfl, hok, hr⟩ := hrel
    have Hr := Lib.hid hr
    have Hok := Lib.hid hok
    clear hr hok
    by_cases hlt : i < n
    · obtain ⟨b, o, hS, hc⟩ := (HX.out.keep Hr.out).cells (by omega)
      have Hx := Lib.hid hc
      have HI := Lib.hid (HT.out i hlt)
      have Hbad := Lib.hid (fun k hk hu => Hno.out i k hlt hk hu)
      obtain ⟨s0, s1, s2⟩ := hc i hlt
      have Hnext : Hid ((∀ k, k < i → un (atS l i) (atS l k) = false) → ∀ i' k, k < i' → i' < i + 1 → un (atS l i') (atS l k) = false) := fun hh i' k hk hi' => by
        rcases Nat.lt_succ_iff_lt_or_eq.1 hi' with h | h
        · exact Hok.out i' k hk h
        · subst h; exact hh k hk
      generalize hxx : atS l i = x at *
      clear hxx hc
      rw [hS]
      obtain ⟨wo, hwo⟩ : ∃ wo, wo = wr := ⟨_, rfl⟩
      subst hwo
      go_wp2
      go_loopw [4] (fun s wr => ∃ k : Nat, k ≤ i ∧ s = .int .i64 k ∧ (∀ k', k' < k → un x (atS l k') = false) ∧ Mod (fun _ => False) wo wr) (fun s _ => i - (intOf s).toNat)
      case atStart => exact ⟨0, Nat.zero_le _, rfl, fun _ h => absurd h (by omega), Mod.refl _ _⟩
      case round =>
        obtain ⟨k, hk, rfl, hq, hw⟩ := hrel
        have Hq := Lib.hid hq
        have Hw := Lib.hid hw
        clear hq hw
        have At : Hid (∀ j, j < n → At3 wr b (o + j * 3) (atS l j)) := fun j hj => (Hx.out j hj).keep (Hw.out.block b (Hx.out j hj).lt id)
        have hb0 : At3 wo b (o + i * 3) x := ⟨s0, s1, s2⟩
        obtain ⟨x0, x1, x2⟩ := hb0.keep (Hw.out.block b hb0.lt id)
        by_cases hlt2 : k < i
        · obtain ⟨y0, y1, y2⟩ := At.out k (by omega)
          have HI2 := Lib.hid (HT.out k (by omega))
          have Hst : Hid (un x (atS l k) = false → ∀ k', k' < k + 1 → un x (atS l k') = false) := fun hu k' hk' => by
            rcases Nat.lt_succ_iff_lt_or_eq.1 hk' with h | h
            · exact Hq.out k' h
            · subst h; exact hu
          have Hb2 := Lib.hid (fun hu => Hbad.out k hlt2 hu)
          generalize atS l k = y at *
          have Hcl := Lib.hid (fun V => rclash_ok V x.c y.c HI.out HI2.out)
          have Hun : Hid (un x y = ((x.a != y.a) && ((x.b == y.b) && clB x.c y.c))) := by
            show un x y = _
            rw [Bool.eq_iff_iff, un_iff]
            simp
          generalize clB x.c y.c = cl at *
          have hkn : k < n := by omega
          clear hb0 At
          by_cases ha : x.a = y.a
          · have hd : (x.a != y.a) = false := by simpa using ha
            have Hu : Hid (un x y = false) := by show _ = _; rw [Hun.out, hd]; rfl
            clear ha
            go_wp2_with fail
            go_quiet ((go_at_call 24; exact calls_quiet (Hcl.out _)))
            go_wp2_with fail
            go_quiet (fail)
            go_wp2
            go_roundw
            case rel => exact ⟨k + 1, by omega, by go_num, Hst.out Hu.out, Hw.out.drewN _⟩
            case measure => simp [intOf]; omega
          · have hd : (x.a != y.a) = true := by simpa using ha
            clear ha
            by_cases hb : x.b = y.b
            · have hd2 : (x.b == y.b) = true := by simpa using hb
              clear hb
              cases cl with
              | true =>
                have Hu : Hid (un x y = true) := by show _ = _; rw [Hun.out, hd, hd2]; rfl
                have Hf := Lib.hid (Hb2.out Hu.out)
                go_wp2_with fail
                go_quiet ((go_at_call 24; exact calls_quiet (Hcl.out _)))
                go_wp2_with fail
                go_quiet (fail)
                go_wp2
                go_ret
                exact ⟨by rw [Hf.out]; rfl, ((Hr.out.trans Hw.out (fun _ _ h => h)).drewN _).drewN _⟩
              | false =>
                have Hu : Hid (un x y = false) := by show _ = _; rw [Hun.out, hd, hd2]; rfl
                go_wp2_with fail
                go_quiet ((go_at_call 24; exact calls_quiet (Hcl.out _)))
                go_wp2_with fail
                go_quiet (fail)
                go_wp2
                go_roundw
                case rel => exact ⟨k + 1, by omega, by go_num, Hst.out Hu.out, Hw.out.drewN _⟩
                case measure => simp [intOf]; omega
            · have hd2 : (x.b == y.b) = false := by simpa using hb
              have Hu : Hid (un x y = false) := by show _ = _; rw [Hun.out, hd, hd2]; rfl
              clear hb
              go_wp2_with fail
              go_quiet ((go_at_call 24; exact calls_quiet (Hcl.out _)))
              go_wp2_with fail
              go_quiet (fail)
              go_wp2
              go_roundw
              case rel => exact ⟨k + 1, by omega, by go_num, Hst.out Hu.out, Hw.out.drewN _⟩
              case measure => simp [intOf]; omega
        · obtain rfl : k = i := by omega
          have Hn := Lib.hid (Hnext.out Hq.out)
          clear hb0 At
          go_wp2
          go_roundw
          case rel => exact ⟨k + 1, by omega, by go_num, Hn.out, Hr.out.trans Hw.out (fun _ _ h => h)⟩
          case measure => simp [intOf]; omega
    · obtain rfl : i = n := by omega
      have Hf := Lib.hid (Hall.out (fun i' k hk hi' => Hok.out i' k hk hi'))
      go_wp2
      go_ret
      exact ⟨by rw [Hf.out]; rfl, Hr.out⟩
end Go.Proofs.Ytpkjafadhnecfaa
