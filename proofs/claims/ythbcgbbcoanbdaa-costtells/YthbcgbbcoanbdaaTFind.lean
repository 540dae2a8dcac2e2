/-
  Package table: maySeg; the closures; find, with each of them; inState.
-/
import Derived.Test.YthbcgbbcoanbdaaTP1
namespace Go.Proofs.Ythbcgbbcoanbdaa
open Go Go.RowKit

set_option maxRecDepth 100000 in
set_option maxHeartbeats 3200000 in
theorem maySeg_ok (w : World) (s : Tr) (x : TV) (k1 : 1 ≤ x.t.sl) (k2 : x.t.sl ≤ 16) :
    Calls Try.prog 60 #[.agg #[.int .i64 s.a, .int .i64 s.b, .int .i64 s.c], .agg #[.slice x.P x.n x.c, .slice x.S x.m x.d, .int .i64 x.t.sl, .int .i64 x.t.nw]] w fun e w' =>
      e = .returned (.bool (segB s x.t.sl x.t.nw)) ∧ Mod (fun _ => False) w w' := by
  have hm0 : Mod (fun _ => False) w ((w.alloc (.cells #[.int .i64 s.a, .int .i64 s.b, .int .i64 s.c] 45)).alloc (.cells #[.slice x.P x.n x.c, .slice x.S x.m x.d, .int .i64 x.t.sl, .int .i64 x.t.nw] 27)) := ((Mod.refl _ w).alloc _).alloc _
  have hr0 := (RBx.new w 45 s).keep ((Mod.refl _ _).alloc (.cells #[.slice x.P x.n x.c, .slice x.S x.m x.d, .int .i64 x.t.sl, .int .i64 x.t.nw] 27))
  have W1 := Lib.hid (fun w' => within_ok w' s.b 1 (x.t.sl - 1))
  have W2 := Lib.hid (fun w' => within_ok w' s.c 0 x.t.nw)
  have heq : ∀ w, (Op.equalIn 10000 45 (.agg #[.int .i64 s.a, .int .i64 s.b, .int .i64 s.c]) (.agg #[.int .i64 0, .int .i64 0, .int .i64 0])).run Try.prog w = .ok (eqT s noT) w := fun w => eq_sg s noT w
  have HM := Lib.hid hm0
  unfold segB
  by_cases h0 : s.a = 0
  · rw [if_pos h0]
    have hd : (s.a == 0) = true := by simpa using h0
    obtain ⟨w1, hw1⟩ : ∃ w1, (w.alloc (.cells #[.int .i64 s.a, .int .i64 s.b, .int .i64 s.c] 45)).alloc (.cells #[.slice x.P x.n x.c, .slice x.S x.m x.d, .int .i64 x.t.sl, .int .i64 x.t.nw] 27) = w1 := ⟨_, rfl⟩
    rw [hw1] at hm0 hr0 HM
    have HR := Lib.hid hr0
    clear hm0 hr0 h0
    have c0 := HR.out.cells.1
    have HF : Hid (∀ W, Mod (fun _ => False) w1 W → Calls Try.prog 29 #[] W fun e w' => e = .returned (.agg #[.int .i64 0, .int .i64 0, .int .i64 0]) ∧ Mod (fun _ => False) w1 w') := fun W hW => (free_ok W).mono (fun e w' h => ⟨h.1, hW.trans h.2 (fun _ _ h => h)⟩)
    have M0 : Hid (Mod (fun _ => False) w1 w1.drew) := (Mod.refl _ w1).drew
    generalize eqT s noT = bb at *
    go_enter Try.func60, Try.ntmps60
    go_wp2_with fail
    clear hw1 hd
    go_region_held3 (fun w' => w'.cell? ⟨w.heap.size, 0, none⟩ = some (.int .i64 s.a) ∧ w'.cell? ⟨w.heap.size, 1, none⟩ = some (.int .i64 s.b) ∧ w'.cell? ⟨w.heap.size, 2, none⟩ = some (.int .i64 s.c)) (first | exact (HR.out.keep M0.out).cells | exact (HR.out.keep hm2).cells) ((go_at_call 29; refine (HF.out _ M0.out).mono ?_; rintro e w2 ⟨rfl, hm2⟩))
    all_goals
      have HM2 := Lib.hid (HM.out.trans hm2 (fun _ _ h => h))
      clear hm2
      go_wp2
      go_ret
      exact ⟨rfl, HM2.out⟩
  rw [if_neg h0]
  have hd0 : (s.a == 0) = false := by simpa using h0
  clear h0 heq hr0 hm0
  by_cases h1 : s.a = 1
  · rw [if_pos h1]
    have hd1 : (s.a == 1) = true := by simpa using h1
    clear h1
    generalize inB s.b 1 (x.t.sl - 1) = b1 at *
    generalize inB s.c 0 x.t.nw = b2 at *
    rcases b1 with _ | _
    · go_enter Try.func60, Try.ntmps60
      go_wp2_with fail
      refine (W1.out _).mono ?_
      rintro e w' ⟨rfl, rfl⟩
      go_wp2
      go_ret
      exact ⟨rfl, HM.out⟩
    · go_enter Try.func60, Try.ntmps60
      go_wp2_with fail
      refine (W1.out _).mono ?_
      rintro e w' ⟨rfl, rfl⟩
      go_wp2_with fail
      refine (W2.out _).mono ?_
      rintro e w' ⟨rfl, rfl⟩
      go_wp2
      go_ret
      exact ⟨rfl, HM.out⟩
  rw [if_neg h1]
  have hd1 : (s.a == 1) = false := by simpa using h1
  clear h1
  by_cases h2 : s.a = 2
  · rw [if_pos h2]
    have hd2 : (s.a == 2) = true := by simpa using h2
    clear h2
    generalize inB s.c 0 x.t.nw = b2 at *
    by_cases hb : s.b = x.t.sl
    · have hdb : (s.b == x.t.sl) = true := by simpa using hb
      rw [decide_eq_true hb]
      clear hb
      go_enter Try.func60, Try.ntmps60
      go_wp2_with fail
      refine (W2.out _).mono ?_
      rintro e w' ⟨rfl, rfl⟩
      go_wp2
      go_ret
      exact ⟨rfl, HM.out⟩
    · have hdb : (s.b == x.t.sl) = false := by simpa using hb
      rw [decide_eq_false hb]
      clear hb
      go_enter Try.func60, Try.ntmps60
      go_wp2
      go_ret
      exact ⟨rfl, HM.out⟩
  rw [if_neg h2]
  have hd2 : (s.a == 2) = false := by simpa using h2
  clear h2
  go_enter Try.func60, Try.ntmps60
  go_wp2
  go_ret
  exact ⟨rfl, HM.out⟩

set_option maxRecDepth 100000 in
theorem maySegs1_ok (w : World) (s : Tr) (x : TV) (g : Nat) (hg : TBx w g x) (k1 : 1 ≤ x.t.sl) (k2 : x.t.sl ≤ 16) :
    Calls Try.prog 59 #[.agg #[.int .i64 s.a, .int .i64 s.b, .int .i64 s.c], .pointer (some ⟨g, 0, none⟩)] w fun e w' => e = .returned (.bool (!segB s x.t.sl x.t.nw)) ∧ Mod (fun _ => False) w w' := by
  have hm0 : Mod (fun _ => False) w (w.alloc (.cells #[.int .i64 s.a, .int .i64 s.b, .int .i64 s.c] 45)) := (Mod.refl _ w).alloc _
  obtain ⟨c0, c1, c2, c3⟩ := hg.cells
  have hlt := hg.lt
  have hne : g ≠ w.heap.size := by omega
  have HM := Lib.hid hm0
  have HC := Lib.hid (fun w' => maySeg_ok w' s x k1 k2)
  clear hm0 hg k1 k2
  go_enter Try.func59, Try.ntmps59
  go_wp2_with fail
  refine (HC.out _).mono ?_
  rintro e w1 ⟨rfl, hm1⟩
  have HM1 := Lib.hid (HM.out.trans hm1 (fun _ _ h => h))
  clear hm1
  go_wp2
  go_ret
  exact ⟨rfl, HM1.out⟩

set_option maxRecDepth 100000 in
theorem inState1_ok (w : World) (s : Tr) (st : Int) (g : Nat) (hg : w.cell? ⟨g, 0, none⟩ = some (.int .i64 st)) :
    Calls Try.prog 64 #[.agg #[.int .i64 s.a, .int .i64 s.b, .int .i64 s.c], .pointer (some ⟨g, 0, none⟩)] w fun e w' => e = .returned (.bool (decide (s.a = st))) ∧ Mod (fun _ => False) w w' := by
  have hm0 : Mod (fun _ => False) w (w.alloc (.cells #[.int .i64 s.a, .int .i64 s.b, .int .i64 s.c] 45)) := (Mod.refl _ w).alloc _
  have hlt := World.block_lt_of_cell? w _ hg
  have hne : g ≠ w.heap.size := by simp at hlt; omega
  have HM := Lib.hid hm0
  clear hm0
  go_enter Try.func64, Try.ntmps64
  go_wp2
  go_ret
  exact ⟨rfl, HM.out⟩

set_option maxRecDepth 100000 in
theorem inState_ok (w : World) (st : Int) :
    Calls Try.prog 49 #[.int .i64 st] w fun e w' => e = .returned (.func (.func 64) #[] #[.pointer (some ⟨w.heap.size, 0, none⟩)]) ∧ w' = w.alloc (.cells #[.int .i64 st] 3) := by
  go_enter Try.func49, Try.ntmps49
  go_wp2
  go_ret
  exact ⟨rfl, rfl⟩

theorem intElem : Elem Try.prog 65 3 (.int .i64 0) 8 := Elem.mk_ Try.underlying65 rfl (by kernel_rfl)
/-- Indices as cells hold them. -/
def ixV (l : List Nat) : List Value := l.map fun (i : Nat) => .int .i64 (i : Int)
/-- The indices that find tells. -/
def FdAns (w w' : World) (f : Nat → Bool) (m : Nat) (e : Ending) : Prop :=
  ∃ A c, e = .returned (.slice A (cnt f m) c) ∧ OwV w' w.heap.size 3 A (cnt f m) c (ixV (ixs f m)) ∧ Mod (fun _ => False) w w'

/-- What lies ahead of a round of find. -/
structure Fnd (w1 wr : World) (f : Nat → Bool) (j : Nat) (A : Option Addr) (c : Nat) : Prop where
  own : OwV wr w1.heap.size 3 A (cnt f j) c (ixV (ixs f j))
  old : Mod (fun _ => False) w1 wr

set_option maxRecDepth 100000 in
set_option maxHeartbeats 3200000 in
theorem find_maySegs (w : World) (x : TV) (h : x.At w) (hm : x.m ≤ 1000) (g : Nat) (f : Nat → Bool)
    (HC : ∀ W, Mod (fun _ => False) w W → ∀ i, i < x.m → Calls Try.prog 59 #[.agg #[.int .i64 (atS x.t.sg i).a, .int .i64 (atS x.t.sg i).b, .int .i64 (atS x.t.sg i).c], .pointer (some ⟨g, 0, none⟩)] W fun e w' => e = .returned (.bool (f i)) ∧ Mod (fun _ => False) W w') :
    Calls Try.prog 48 #[.agg #[.slice x.P x.n x.c, .slice x.S x.m x.d, .int .i64 x.t.sl, .int .i64 x.t.nw], .func (.func 59) #[] #[.pointer (some ⟨g, 0, none⟩)]] w fun e w' => FdAns w w' f x.m e := by
  obtain ⟨w1, hw1⟩ : ∃ w1, w.alloc (.cells #[.slice x.P x.n x.c, .slice x.S x.m x.d, .int .i64 x.t.sl, .int .i64 x.t.nw] 27) = w1 := ⟨_, rfl⟩
  have hm1 : Mod (fun _ => False) w w1 := by rw [← hw1]; exact (Mod.refl _ w).alloc _
  have hs1 : w.heap.size ≤ w1.heap.size := hm1.size
  have HM := Lib.hid hm1
  have HX := Lib.hid h
  have HK := Lib.hid HC
  have HR : Hid (Fnd w1 w1 f 0 none 0) := ⟨OwV.nil _ _ _, Mod.refl _ _⟩
  have hz : cnt f 0 = 0 := rfl
  have hbx : TBx w1 w.heap.size x := by rw [← hw1]; exact TBx.new w x
  have c1 := hbx.cells.2.1
  clear HC hm1 h hbx
  go_enter Try.func48, Try.ntmps48
  go_wp2
  go_loopw [5, 11] (fun s i wr => ∃ (j : Nat) (A : Option Addr) (c : Nat), j ≤ x.m ∧ i = .int .i64 j ∧ s = .slice A (cnt f j) c ∧ Fnd w1 wr f j A c) (fun _ i _ => x.m - (intOf i).toNat)
  case atStart => exact ⟨0, none, 0, Nat.zero_le _, rfl, rfl, HR.out⟩
  case round =>
    obtain ⟨j, A, c, hj, rfl, rfl, hr⟩ := hrel
    clear hw1 hz HR c1
    have Hr := Lib.hid hr
    clear hr
    by_cases hlt : j < x.m
    · obtain ⟨b, o, hS, hc⟩ := (HX.out.keep (HM.out.trans Hr.out.old (fun _ _ h => h))).sg.cells (by omega)
      rw [hS]
      obtain ⟨s0, s1, s2⟩ := hc j hlt
      have HK1 := Lib.hid (fun W hW => HK.out W hW j hlt)
      generalize hT : atS x.t.sg j = s at *
      clear hT hc hS
      have hmb : Mod (fun _ => False) w (wr.alloc (.cells #[.int .i64 s.a, .int .i64 s.b, .int .i64 s.c] 45)) := (HM.out.trans Hr.out.old (fun _ _ h => h)).alloc _
      have Hmb := Lib.hid hmb
      have Hr2 : Hid (Fnd w1 (wr.alloc (.cells #[.int .i64 s.a, .int .i64 s.b, .int .i64 s.c] 45)) f j A c) := ⟨Hr.out.own.alloc _, Hr.out.old.alloc _⟩
      have Hcl := Lib.hid (HK1.out _ Hmb.out)
      have hcb := cnt_le f j
      clear hmb Hr
      cases hf : f j with
      | true =>
        rw [hf] at Hcl
        have Hcy := Lib.hid (cnt_yes hf)
        have Hiy := Lib.hid (ixs_yes hf)
        clear hf
        go_wp2_with fail
        refine Hcl.out.mono ?_
        rintro e w2 ⟨rfl, hm2⟩
        have Hr3 : Hid (Fnd w1 w2 f j A c) := ⟨Hr2.out.own.mod hm2 (fun _ _ => id), Hr2.out.old.trans hm2 (fun _ _ h => h)⟩
        clear hm2 Hr2 s0 s1 s2
        have hown := Hr3.out.own.alloc (.cells #[.int .i64 (j : Int)] 3)
        have hsrc := Src.one w2 (.int .i64 (j : Int)) 3 rfl
        have hbase : w1.heap.size ≤ (w2.alloc (.cells #[.int .i64 (j : Int)] 3)).heap.size := by rw [World.size_alloc]; have := Hr3.out.old.size; omega
        have Hown := Lib.hid hown
        have Hsrc := Lib.hid hsrc
        have Hbase := Lib.hid hbase
        clear hown hsrc hbase
        go_wp2_with (at_builtin; refine wpList_app (.tmp 19) (.tmp 21) intElem rfl rfl rfl rfl Hown.out Hsrc.out (by omega) (by unfold maxLen; omega) Hbase.out ?_; intro A' c' w3 h1 h2 h3; have H1 := Lib.hid h1; have H2 := Lib.hid h2; clear h1 h2 h3)
        have Hr4 : Hid (Fnd w1 w3 f (j + 1) A' c') := by
          refine ⟨?_, ?_⟩
          · rw [Hcy.out, Hiy.out, ixV, List.map_append]
            exact H1.out
          · exact (Hr3.out.old.alloc (.cells #[.int .i64 (j : Int)] 3)).grown H2.out (fun k e hk => by have := (Hr3.out.own.lt k e).1; omega)
        clear H1 H2
        go_roundw
        case rel => exact ⟨j + 1, A', c', by omega, by go_num, by rw [Hcy.out], Hr4.out⟩
        case measure => simp [intOf]; omega
      | false =>
        rw [hf] at Hcl
        have Hcy := Lib.hid (cnt_no hf)
        have Hiy := Lib.hid (ixs_no hf)
        clear hf
        go_wp2_with fail
        refine Hcl.out.mono ?_
        rintro e w2 ⟨rfl, hm2⟩
        have Hr3 : Hid (Fnd w1 w2 f (j + 1) A c) := by
          refine ⟨?_, Hr2.out.old.trans hm2 (fun _ _ h => h)⟩
          rw [Hcy.out, Hiy.out]
          exact Hr2.out.own.mod hm2 (fun _ _ => id)
        clear hm2 Hr2 s0 s1 s2
        go_wp2
        go_roundw
        case rel => exact ⟨j + 1, A, c, by omega, by go_num, by rw [Hcy.out], Hr3.out⟩
        case measure => simp [intOf]; omega
    · obtain rfl : j = x.m := by omega
      go_wp2
      go_ret
      exact ⟨A, c, rfl, Hr.out.own.rebase (fun k hk => by have := (Hr.out.own.lt k hk).1; omega), HM.out.trans Hr.out.old (fun _ _ h => h)⟩
set_option maxRecDepth 100000 in
set_option maxHeartbeats 3200000 in
theorem find_inState (w : World) (x : TV) (h : x.At w) (hm : x.m ≤ 1000) (g : Nat) (f : Nat → Bool)
    (HC : ∀ W, Mod (fun _ => False) w W → ∀ i, i < x.m → Calls Try.prog 64 #[.agg #[.int .i64 (atS x.t.sg i).a, .int .i64 (atS x.t.sg i).b, .int .i64 (atS x.t.sg i).c], .pointer (some ⟨g, 0, none⟩)] W fun e w' => e = .returned (.bool (f i)) ∧ Mod (fun _ => False) W w') :
    Calls Try.prog 48 #[.agg #[.slice x.P x.n x.c, .slice x.S x.m x.d, .int .i64 x.t.sl, .int .i64 x.t.nw], .func (.func 64) #[] #[.pointer (some ⟨g, 0, none⟩)]] w fun e w' => FdAns w w' f x.m e := by
  obtain ⟨w1, hw1⟩ : ∃ w1, w.alloc (.cells #[.slice x.P x.n x.c, .slice x.S x.m x.d, .int .i64 x.t.sl, .int .i64 x.t.nw] 27) = w1 := ⟨_, rfl⟩
  have hm1 : Mod (fun _ => False) w w1 := by rw [← hw1]; exact (Mod.refl _ w).alloc _
  have hs1 : w.heap.size ≤ w1.heap.size := hm1.size
  have HM := Lib.hid hm1
  have HX := Lib.hid h
  have HK := Lib.hid HC
  have HR : Hid (Fnd w1 w1 f 0 none 0) := ⟨OwV.nil _ _ _, Mod.refl _ _⟩
  have hz : cnt f 0 = 0 := rfl
  have hbx : TBx w1 w.heap.size x := by rw [← hw1]; exact TBx.new w x
  have c1 := hbx.cells.2.1
  clear HC hm1 h hbx
  go_enter Try.func48, Try.ntmps48
  go_wp2
  go_loopw [5, 11] (fun s i wr => ∃ (j : Nat) (A : Option Addr) (c : Nat), j ≤ x.m ∧ i = .int .i64 j ∧ s = .slice A (cnt f j) c ∧ Fnd w1 wr f j A c) (fun _ i _ => x.m - (intOf i).toNat)
  case atStart => exact ⟨0, none, 0, Nat.zero_le _, rfl, rfl, HR.out⟩
  case round =>
    obtain ⟨j, A, c, hj, rfl, rfl, hr⟩ := hrel
    clear hw1 hz HR c1
    have Hr := Lib.hid hr
    clear hr
    by_cases hlt : j < x.m
    · obtain ⟨b, o, hS, hc⟩ := (HX.out.keep (HM.out.trans Hr.out.old (fun _ _ h => h))).sg.cells (by omega)
      rw [hS]
      obtain ⟨s0, s1, s2⟩ := hc j hlt
      have HK1 := Lib.hid (fun W hW => HK.out W hW j hlt)
      generalize hT : atS x.t.sg j = s at *
      clear hT hc hS
      have hmb : Mod (fun _ => False) w (wr.alloc (.cells #[.int .i64 s.a, .int .i64 s.b, .int .i64 s.c] 45)) := (HM.out.trans Hr.out.old (fun _ _ h => h)).alloc _
      have Hmb := Lib.hid hmb
      have Hr2 : Hid (Fnd w1 (wr.alloc (.cells #[.int .i64 s.a, .int .i64 s.b, .int .i64 s.c] 45)) f j A c) := ⟨Hr.out.own.alloc _, Hr.out.old.alloc _⟩
      have Hcl := Lib.hid (HK1.out _ Hmb.out)
      have hcb := cnt_le f j
      clear hmb Hr
      cases hf : f j with
      | true =>
        rw [hf] at Hcl
        have Hcy := Lib.hid (cnt_yes hf)
        have Hiy := Lib.hid (ixs_yes hf)
        clear hf
        go_wp2_with fail
        refine Hcl.out.mono ?_
        rintro e w2 ⟨rfl, hm2⟩
        have Hr3 : Hid (Fnd w1 w2 f j A c) := ⟨Hr2.out.own.mod hm2 (fun _ _ => id), Hr2.out.old.trans hm2 (fun _ _ h => h)⟩
        clear hm2 Hr2 s0 s1 s2
        have hown := Hr3.out.own.alloc (.cells #[.int .i64 (j : Int)] 3)
        have hsrc := Src.one w2 (.int .i64 (j : Int)) 3 rfl
        have hbase : w1.heap.size ≤ (w2.alloc (.cells #[.int .i64 (j : Int)] 3)).heap.size := by rw [World.size_alloc]; have := Hr3.out.old.size; omega
        have Hown := Lib.hid hown
        have Hsrc := Lib.hid hsrc
        have Hbase := Lib.hid hbase
        clear hown hsrc hbase
        go_wp2_with (at_builtin; refine wpList_app (.tmp 19) (.tmp 21) intElem rfl rfl rfl rfl Hown.out Hsrc.out (by omega) (by unfold maxLen; omega) Hbase.out ?_; intro A' c' w3 h1 h2 h3; have H1 := Lib.hid h1; have H2 := Lib.hid h2; clear h1 h2 h3)
        have Hr4 : Hid (Fnd w1 w3 f (j + 1) A' c') := by
          refine ⟨?_, ?_⟩
          · rw [Hcy.out, Hiy.out, ixV, List.map_append]
            exact H1.out
          · exact (Hr3.out.old.alloc (.cells #[.int .i64 (j : Int)] 3)).grown H2.out (fun k e hk => by have := (Hr3.out.own.lt k e).1; omega)
        clear H1 H2
        go_roundw
        case rel => exact ⟨j + 1, A', c', by omega, by go_num, by rw [Hcy.out], Hr4.out⟩
        case measure => simp [intOf]; omega
      | false =>
        rw [hf] at Hcl
        have Hcy := Lib.hid (cnt_no hf)
        have Hiy := Lib.hid (ixs_no hf)
        clear hf
        go_wp2_with fail
        refine Hcl.out.mono ?_
        rintro e w2 ⟨rfl, hm2⟩
        have Hr3 : Hid (Fnd w1 w2 f (j + 1) A c) := by
          refine ⟨?_, Hr2.out.old.trans hm2 (fun _ _ h => h)⟩
          rw [Hcy.out, Hiy.out]
          exact Hr2.out.own.mod hm2 (fun _ _ => id)
        clear hm2 Hr2 s0 s1 s2
        go_wp2
        go_roundw
        case rel => exact ⟨j + 1, A, c, by omega, by go_num, by rw [Hcy.out], Hr3.out⟩
        case measure => simp [intOf]; omega
    · obtain rfl : j = x.m := by omega
      go_wp2
      go_ret
      exact ⟨A, c, rfl, Hr.out.own.rebase (fun k hk => by have := (Hr.out.own.lt k hk).1; omega), HM.out.trans Hr.out.old (fun _ _ h => h)⟩
end Go.Proofs.Ythbcgbbcoanbdaa
