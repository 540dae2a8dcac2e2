/-
  Package txn: mayValue, mayChange, Size; the reference's value, Change, Size.
-/
import Derived.Test.YtidcmolkolcliaaX1
namespace Go.Proofs.Ytidcmolkolcliaa
open Go Go.RowKit

set_option maxRecDepth 100000 in
set_option maxHeartbeats 3200000 in
theorem mayValue_ok (w : World) (x : VlD) (hl : x.vs.length = x.m) :
    Calls Try.prog 47 #[.agg #[.bool x.is, .slice x.B x.m x.d]] w fun e w' => e = .returned (.bool (vB x.p)) ∧ Mod (fun _ => False) w w' := by
  have HM : Hid (Mod (fun _ => False) w (w.alloc (.cells #[.bool x.is, .slice x.B x.m x.d] 28))) := (Mod.refl _ w).alloc _
  obtain ⟨is, B, m, d, vs⟩ := x
  dsimp only at *
  have hE : vB (VlD.p ⟨is, B, m, d, vs⟩) = (decide (m ≤ 32) && (is || decide (m = 0))) := by unfold vB VlD.p; rw [hl]
  rw [hE]
  clear hE hl
  cases is with
  | false =>
    by_cases h0 : m = 0
    · subst h0
      go_enter Try.func47, Try.ntmps47
      go_wp2
      go_ret
      exact ⟨rfl, HM.out⟩
    · have hd : ((m : Int) == 0) = false := by simpa using h0
      go_enter Try.func47, Try.ntmps47
      go_wp2
      go_ret
      exact ⟨by simp [h0], HM.out⟩
  | true =>
    by_cases h0 : m ≤ 32
    · have hd : decide ((m : Int) ≤ 32) = true := decide_eq_true (by omega)
      go_enter Try.func47, Try.ntmps47
      go_wp2
      go_ret
      exact ⟨by simp [h0], HM.out⟩
    · have hd : decide ((m : Int) ≤ 32) = false := decide_eq_false (by omega)
      go_enter Try.func47, Try.ntmps47
      go_wp2
      go_ret
      exact ⟨by simp [h0], HM.out⟩
set_option maxRecDepth 100000 in
set_option maxHeartbeats 3200000 in
theorem rvalue_ok (w : World) (x : VlD) (hl : x.vs.length = x.m) :
    Calls Try.prog 44 #[.agg #[.bool x.is, .slice x.B x.m x.d]] w fun e w' => e = .returned (.bool (vB x.p)) ∧ Mod (fun _ => False) w w' := by
  have HM : Hid (Mod (fun _ => False) w (w.alloc (.cells #[.bool x.is, .slice x.B x.m x.d] 28))) := (Mod.refl _ w).alloc _
  obtain ⟨is, B, m, d, vs⟩ := x
  dsimp only at *
  have hE : vB (VlD.p ⟨is, B, m, d, vs⟩) = (decide (m ≤ 32) && (is || decide (m = 0))) := by unfold vB VlD.p; rw [hl]
  rw [hE]
  clear hE hl
  by_cases h0 : m ≤ 32
  · have hd : decide ((m : Int) ≤ 32) = true := decide_eq_true (by omega)
    cases is with
    | true =>
      go_enter Try.func44, Try.ntmps44
      go_wp2
      go_ret
      exact ⟨by simp [h0], HM.out⟩
    | false =>
      by_cases h1 : m = 0
      · subst h1
        go_enter Try.func44, Try.ntmps44
        go_wp2
        go_ret
        exact ⟨rfl, HM.out⟩
      · have hd1 : ((m : Int) == 0) = false := by simpa using h1
        go_enter Try.func44, Try.ntmps44
        go_wp2
        go_ret
        exact ⟨by simp [h1], HM.out⟩
  · have hd : decide ((m : Int) ≤ 32) = false := decide_eq_false (by omega)
    go_enter Try.func44, Try.ntmps44
    go_wp2
    go_ret
    exact ⟨by simp [h0], HM.out⟩
set_option maxRecDepth 100000 in
set_option maxHeartbeats 3200000 in
theorem size_ok (w : World) (x : VlD) (hl : x.vs.length = x.m) (hm : x.m ≤ 140737488355328) :
    Calls Try.prog 27 #[.agg #[.bool x.is, .slice x.B x.m x.d]] w fun e w' => e = .returned (.int .i64 (sizV x.p)) ∧ Mod (fun _ => False) w w' := by
  have HM : Hid (Mod (fun _ => False) w (w.alloc (.cells #[.bool x.is, .slice x.B x.m x.d] 28))) := (Mod.refl _ w).alloc _
  obtain ⟨is, B, m, d, vs⟩ := x
  dsimp only at *
  have hE : sizV (VlD.p ⟨is, B, m, d, vs⟩) = (if is then 4 + (m : Int) else 0) := by unfold sizV VlD.p; rw [hl]
  rw [hE]
  clear hE hl
  cases is with
  | false =>
    go_enter Try.func27, Try.ntmps27
    go_wp2
    go_ret
    exact ⟨rfl, HM.out⟩
  | true =>
    go_enter Try.func27, Try.ntmps27
    go_wp2
    go_ret
    exact ⟨rfl, HM.out⟩
set_option maxRecDepth 100000 in
set_option maxHeartbeats 3200000 in
theorem rsize_ok (w : World) (x : VlD) (hl : x.vs.length = x.m) (hm : x.m ≤ 140737488355328) :
    Calls Try.prog 28 #[.agg #[.bool x.is, .slice x.B x.m x.d]] w fun e w' => e = .returned (.int .i64 (sizV x.p)) ∧ Mod (fun _ => False) w w' := by
  have HM : Hid (Mod (fun _ => False) w (w.alloc (.cells #[.bool x.is, .slice x.B x.m x.d] 28))) := (Mod.refl _ w).alloc _
  obtain ⟨is, B, m, d, vs⟩ := x
  dsimp only at *
  have hE : sizV (VlD.p ⟨is, B, m, d, vs⟩) = (if is then 4 + (m : Int) else 0) := by unfold sizV VlD.p; rw [hl]
  rw [hE]
  clear hE hl
  cases is with
  | false =>
    go_enter Try.func28, Try.ntmps28
    go_wp2
    go_ret
    exact ⟨rfl, HM.out⟩
  | true =>
    go_enter Try.func28, Try.ntmps28
    go_wp2
    go_ret
    exact ⟨rfl, HM.out⟩
set_option maxRecDepth 100000 in
set_option maxHeartbeats 3200000 in
theorem mayChange_ok (w : World) (x : ChD) (h : x.At w) :
    Calls Try.prog 40 #[.agg #[.int .i64 x.lsn, .int .i64 x.page, .int .i64 x.key, .bool x.o.is, .slice x.o.B x.o.m x.o.d, .bool x.v.is, .slice x.v.B x.v.m x.v.d]] w fun e w' => e = .returned (.bool (cB x.p)) ∧ Mod (fun _ => False) w w' := by
  obtain ⟨w1, hw1⟩ : ∃ w1, w.alloc (.cells #[.int .i64 x.lsn, .int .i64 x.page, .int .i64 x.key, .bool x.o.is, .slice x.o.B x.o.m x.o.d, .bool x.v.is, .slice x.v.B x.v.m x.v.d] 30) = w1 := ⟨_, rfl⟩
  have hin : x.In w1 w.heap.size := by rw [← hw1]; exact ChD.In.new w x
  have HM1 : Hid (Mod (fun _ => False) w w1) := by rw [← hw1]; exact (Mod.refl _ w).alloc _
  obtain ⟨c0, c1, c2, c3, c4, c5, c6⟩ := hin.cells
  have HI1 := Lib.hid hin
  clear hin
  have W1 := Lib.hid (fun V => within_ok V x.lsn 1 4294967295)
  have W2 := Lib.hid (fun V => within_ok V x.page 0 255)
  have W3 := Lib.hid (fun V => within_ok V x.key 0 65535)
  have V1 := Lib.hid (fun V => mayValue_ok V x.o h.o.len)
  have V2 := Lib.hid (fun V => mayValue_ok V x.v h.v.len)
  have hE : cB x.p = (inB x.lsn 1 4294967295 && inB x.page 0 255 && inB x.key 0 65535 && vB x.o.p && vB x.v.p) := rfl
  rw [hE]
  generalize inB x.lsn 1 4294967295 = b1 at *
  generalize inB x.page 0 255 = b2 at *
  generalize inB x.key 0 65535 = b3 at *
  generalize vB x.o.p = b4 at *
  generalize vB x.v.p = b5 at *
  clear hE h
  cases b1 with
  | false =>
    go_enter Try.func40, Try.ntmps40
    go_wp2_with fail
    refine (W1.out _).mono ?_
    rintro e w' ⟨rfl, hw⟩
    subst w'
    go_wp2
    go_ret
    exact ⟨rfl, HM1.out⟩
  | true =>
  cases b2 with
  | false =>
    go_enter Try.func40, Try.ntmps40
    go_wp2_with fail
    refine (W1.out _).mono ?_
    rintro e w' ⟨rfl, hw⟩
    subst w'
    go_wp2_with fail
    refine (W2.out _).mono ?_
    rintro e w' ⟨rfl, hw⟩
    subst w'
    go_wp2
    go_ret
    exact ⟨rfl, HM1.out⟩
  | true =>
  cases b3 with
  | false =>
    go_enter Try.func40, Try.ntmps40
    go_wp2_with fail
    refine (W1.out _).mono ?_
    rintro e w' ⟨rfl, hw⟩
    subst w'
    go_wp2_with fail
    refine (W2.out _).mono ?_
    rintro e w' ⟨rfl, hw⟩
    subst w'
    go_wp2_with fail
    refine (W3.out _).mono ?_
    rintro e w' ⟨rfl, hw⟩
    subst w'
    go_wp2
    go_ret
    exact ⟨rfl, HM1.out⟩
  | true =>
  cases b4 with
  | false =>
    go_enter Try.func40, Try.ntmps40
    go_wp2_with fail
    refine (W1.out _).mono ?_
    rintro e w' ⟨rfl, hw⟩
    subst w'
    go_wp2_with fail
    refine (W2.out _).mono ?_
    rintro e w' ⟨rfl, hw⟩
    subst w'
    go_wp2_with fail
    refine (W3.out _).mono ?_
    rintro e w' ⟨rfl, hw⟩
    subst w'
    go_wp2_with fail
    refine (V1.out _).mono ?_
    rintro e w2 ⟨rfl, hm⟩
    have HI2 := Lib.hid (HI1.out.keep hm)
    have HM2 := Lib.hid (HM1.out.trans hm (fun _ _ h => h))
    clear hm
    clear c0 c1 c2 c3 c4 c5 c6
    obtain ⟨c0, c1, c2, c3, c4, c5, c6⟩ := HI2.out.cells
    go_wp2
    go_ret
    exact ⟨rfl, HM2.out⟩
  | true =>
  cases b5 with
  | false =>
    go_enter Try.func40, Try.ntmps40
    go_wp2_with fail
    refine (W1.out _).mono ?_
    rintro e w' ⟨rfl, hw⟩
    subst w'
    go_wp2_with fail
    refine (W2.out _).mono ?_
    rintro e w' ⟨rfl, hw⟩
    subst w'
    go_wp2_with fail
    refine (W3.out _).mono ?_
    rintro e w' ⟨rfl, hw⟩
    subst w'
    go_wp2_with fail
    refine (V1.out _).mono ?_
    rintro e w2 ⟨rfl, hm⟩
    have HI2 := Lib.hid (HI1.out.keep hm)
    have HM2 := Lib.hid (HM1.out.trans hm (fun _ _ h => h))
    clear hm
    clear c0 c1 c2 c3 c4 c5 c6
    obtain ⟨c0, c1, c2, c3, c4, c5, c6⟩ := HI2.out.cells
    go_wp2_with fail
    refine (V2.out _).mono ?_
    rintro e w3 ⟨rfl, hm⟩
    have HI3 := Lib.hid (HI2.out.keep hm)
    have HM3 := Lib.hid (HM2.out.trans hm (fun _ _ h => h))
    clear hm
    clear c0 c1 c2 c3 c4 c5 c6
    obtain ⟨c0, c1, c2, c3, c4, c5, c6⟩ := HI3.out.cells
    go_wp2
    go_ret
    exact ⟨rfl, HM3.out⟩
  | true =>
  go_enter Try.func40, Try.ntmps40
  go_wp2_with fail
  refine (W1.out _).mono ?_
  rintro e w' ⟨rfl, hw⟩
  subst w'
  go_wp2_with fail
  refine (W2.out _).mono ?_
  rintro e w' ⟨rfl, hw⟩
  subst w'
  go_wp2_with fail
  refine (W3.out _).mono ?_
  rintro e w' ⟨rfl, hw⟩
  subst w'
  go_wp2_with fail
  refine (V1.out _).mono ?_
  rintro e w2 ⟨rfl, hm⟩
  have HI2 := Lib.hid (HI1.out.keep hm)
  have HM2 := Lib.hid (HM1.out.trans hm (fun _ _ h => h))
  clear hm
  clear c0 c1 c2 c3 c4 c5 c6
  obtain ⟨c0, c1, c2, c3, c4, c5, c6⟩ := HI2.out.cells
  go_wp2_with fail
  refine (V2.out _).mono ?_
  rintro e w3 ⟨rfl, hm⟩
  have HI3 := Lib.hid (HI2.out.keep hm)
  have HM3 := Lib.hid (HM2.out.trans hm (fun _ _ h => h))
  clear hm
  clear c0 c1 c2 c3 c4 c5 c6
  obtain ⟨c0, c1, c2, c3, c4, c5, c6⟩ := HI3.out.cells
  go_wp2
  go_ret
  exact ⟨rfl, HM3.out⟩
theorem eight (a b c d e f g h : Bool) : ((a && b) && (c && d) && (e && f) && g && h) = (g && h && a && b && c && d && e && f) := by
  cases a <;> cases b <;> cases c <;> cases d <;> cases e <;> cases f <;> cases g <;> cases h <;> rfl
set_option maxRecDepth 100000 in
set_option maxHeartbeats 3200000 in
theorem rchange_ok (w : World) (x : ChD) (h : x.At w) :
    Calls Try.prog 34 #[.agg #[.int .i64 x.lsn, .int .i64 x.page, .int .i64 x.key, .bool x.o.is, .slice x.o.B x.o.m x.o.d, .bool x.v.is, .slice x.v.B x.v.m x.v.d]] w fun e w' => e = .returned (.bool (cB x.p)) ∧ Mod (fun _ => False) w w' := by
  obtain ⟨w1, hw1⟩ : ∃ w1, w.alloc (.cells #[.int .i64 x.lsn, .int .i64 x.page, .int .i64 x.key, .bool x.o.is, .slice x.o.B x.o.m x.o.d, .bool x.v.is, .slice x.v.B x.v.m x.v.d] 30) = w1 := ⟨_, rfl⟩
  have hin : x.In w1 w.heap.size := by rw [← hw1]; exact ChD.In.new w x
  have HM1 : Hid (Mod (fun _ => False) w w1) := by rw [← hw1]; exact (Mod.refl _ w).alloc _
  obtain ⟨c0, c1, c2, c3, c4, c5, c6⟩ := hin.cells
  have HI1 := Lib.hid hin
  clear hin
  have V1 := Lib.hid (fun V => rvalue_ok V x.o h.o.len)
  have V2 := Lib.hid (fun V => rvalue_ok V x.v h.v.len)
  have hE : cB x.p = (vB x.o.p && vB x.v.p && decide (1 ≤ x.lsn) && decide (x.lsn ≤ 4294967295) && decide (0 ≤ x.page) && decide (x.page ≤ 255) && decide (0 ≤ x.key) && decide (x.key ≤ 65535)) := eight _ _ _ _ _ _ _ _
  rw [hE]
  generalize vB x.o.p = b4 at *
  generalize vB x.v.p = b5 at *
  obtain ⟨d1, hd1⟩ : ∃ d1, decide (1 ≤ x.lsn) = d1 := ⟨_, rfl⟩
  obtain ⟨d2, hd2⟩ : ∃ d2, decide (x.lsn ≤ 4294967295) = d2 := ⟨_, rfl⟩
  obtain ⟨d3, hd3⟩ : ∃ d3, decide (0 ≤ x.page) = d3 := ⟨_, rfl⟩
  obtain ⟨d4, hd4⟩ : ∃ d4, decide (x.page ≤ 255) = d4 := ⟨_, rfl⟩
  obtain ⟨d5, hd5⟩ : ∃ d5, decide (0 ≤ x.key) = d5 := ⟨_, rfl⟩
  obtain ⟨d6, hd6⟩ : ∃ d6, decide (x.key ≤ 65535) = d6 := ⟨_, rfl⟩
  rw [hd1, hd2, hd3, hd4, hd5, hd6]
  clear hE h
  cases b4 with
  | false =>
    go_enter Try.func34, Try.ntmps34
    go_wp2_with fail
    refine (V1.out _).mono ?_
    rintro e w2 ⟨rfl, hm⟩
    have HI2 := Lib.hid (HI1.out.keep hm)
    have HM2 := Lib.hid (HM1.out.trans hm (fun _ _ h => h))
    clear hm
    clear c0 c1 c2 c3 c4 c5 c6
    obtain ⟨c0, c1, c2, c3, c4, c5, c6⟩ := HI2.out.cells
    go_wp2_with fail
    refine (V2.out _).mono ?_
    rintro e w3 ⟨rfl, hm⟩
    have HI3 := Lib.hid (HI2.out.keep hm)
    have HM3 := Lib.hid (HM2.out.trans hm (fun _ _ h => h))
    clear hm
    clear c0 c1 c2 c3 c4 c5 c6
    obtain ⟨c0, c1, c2, c3, c4, c5, c6⟩ := HI3.out.cells
    go_wp2
    go_ret
    exact ⟨rfl, HM3.out⟩
  | true =>
  cases b5 with
  | false =>
    go_enter Try.func34, Try.ntmps34
    go_wp2_with fail
    refine (V1.out _).mono ?_
    rintro e w2 ⟨rfl, hm⟩
    have HI2 := Lib.hid (HI1.out.keep hm)
    have HM2 := Lib.hid (HM1.out.trans hm (fun _ _ h => h))
    clear hm
    clear c0 c1 c2 c3 c4 c5 c6
    obtain ⟨c0, c1, c2, c3, c4, c5, c6⟩ := HI2.out.cells
    go_wp2_with fail
    refine (V2.out _).mono ?_
    rintro e w3 ⟨rfl, hm⟩
    have HI3 := Lib.hid (HI2.out.keep hm)
    have HM3 := Lib.hid (HM2.out.trans hm (fun _ _ h => h))
    clear hm
    clear c0 c1 c2 c3 c4 c5 c6
    obtain ⟨c0, c1, c2, c3, c4, c5, c6⟩ := HI3.out.cells
    go_wp2
    go_ret
    exact ⟨rfl, HM3.out⟩
  | true =>
  cases d1 with
  | false =>
    go_enter Try.func34, Try.ntmps34
    go_wp2_with fail
    refine (V1.out _).mono ?_
    rintro e w2 ⟨rfl, hm⟩
    have HI2 := Lib.hid (HI1.out.keep hm)
    have HM2 := Lib.hid (HM1.out.trans hm (fun _ _ h => h))
    clear hm
    clear c0 c1 c2 c3 c4 c5 c6
    obtain ⟨c0, c1, c2, c3, c4, c5, c6⟩ := HI2.out.cells
    go_wp2_with fail
    refine (V2.out _).mono ?_
    rintro e w3 ⟨rfl, hm⟩
    have HI3 := Lib.hid (HI2.out.keep hm)
    have HM3 := Lib.hid (HM2.out.trans hm (fun _ _ h => h))
    clear hm
    clear c0 c1 c2 c3 c4 c5 c6
    obtain ⟨c0, c1, c2, c3, c4, c5, c6⟩ := HI3.out.cells
    go_wp2
    go_ret
    exact ⟨rfl, HM3.out⟩
  | true =>
  cases d2 with
  | false =>
    go_enter Try.func34, Try.ntmps34
    go_wp2_with fail
    refine (V1.out _).mono ?_
    rintro e w2 ⟨rfl, hm⟩
    have HI2 := Lib.hid (HI1.out.keep hm)
    have HM2 := Lib.hid (HM1.out.trans hm (fun _ _ h => h))
    clear hm
    clear c0 c1 c2 c3 c4 c5 c6
    obtain ⟨c0, c1, c2, c3, c4, c5, c6⟩ := HI2.out.cells
    go_wp2_with fail
    refine (V2.out _).mono ?_
    rintro e w3 ⟨rfl, hm⟩
    have HI3 := Lib.hid (HI2.out.keep hm)
    have HM3 := Lib.hid (HM2.out.trans hm (fun _ _ h => h))
    clear hm
    clear c0 c1 c2 c3 c4 c5 c6
    obtain ⟨c0, c1, c2, c3, c4, c5, c6⟩ := HI3.out.cells
    go_wp2
    go_ret
    exact ⟨rfl, HM3.out⟩
  | true =>
  cases d3 with
  | false =>
    go_enter Try.func34, Try.ntmps34
    go_wp2_with fail
    refine (V1.out _).mono ?_
    rintro e w2 ⟨rfl, hm⟩
    have HI2 := Lib.hid (HI1.out.keep hm)
    have HM2 := Lib.hid (HM1.out.trans hm (fun _ _ h => h))
    clear hm
    clear c0 c1 c2 c3 c4 c5 c6
    obtain ⟨c0, c1, c2, c3, c4, c5, c6⟩ := HI2.out.cells
    go_wp2_with fail
    refine (V2.out _).mono ?_
    rintro e w3 ⟨rfl, hm⟩
    have HI3 := Lib.hid (HI2.out.keep hm)
    have HM3 := Lib.hid (HM2.out.trans hm (fun _ _ h => h))
    clear hm
    clear c0 c1 c2 c3 c4 c5 c6
    obtain ⟨c0, c1, c2, c3, c4, c5, c6⟩ := HI3.out.cells
    go_wp2
    go_ret
    exact ⟨rfl, HM3.out⟩
  | true =>
  cases d4 with
  | false =>
    go_enter Try.func34, Try.ntmps34
    go_wp2_with fail
    refine (V1.out _).mono ?_
    rintro e w2 ⟨rfl, hm⟩
    have HI2 := Lib.hid (HI1.out.keep hm)
    have HM2 := Lib.hid (HM1.out.trans hm (fun _ _ h => h))
    clear hm
    clear c0 c1 c2 c3 c4 c5 c6
    obtain ⟨c0, c1, c2, c3, c4, c5, c6⟩ := HI2.out.cells
    go_wp2_with fail
    refine (V2.out _).mono ?_
    rintro e w3 ⟨rfl, hm⟩
    have HI3 := Lib.hid (HI2.out.keep hm)
    have HM3 := Lib.hid (HM2.out.trans hm (fun _ _ h => h))
    clear hm
    clear c0 c1 c2 c3 c4 c5 c6
    obtain ⟨c0, c1, c2, c3, c4, c5, c6⟩ := HI3.out.cells
    go_wp2
    go_ret
    exact ⟨rfl, HM3.out⟩
  | true =>
  cases d5 with
  | false =>
    go_enter Try.func34, Try.ntmps34
    go_wp2_with fail
    refine (V1.out _).mono ?_
    rintro e w2 ⟨rfl, hm⟩
    have HI2 := Lib.hid (HI1.out.keep hm)
    have HM2 := Lib.hid (HM1.out.trans hm (fun _ _ h => h))
    clear hm
    clear c0 c1 c2 c3 c4 c5 c6
    obtain ⟨c0, c1, c2, c3, c4, c5, c6⟩ := HI2.out.cells
    go_wp2_with fail
    refine (V2.out _).mono ?_
    rintro e w3 ⟨rfl, hm⟩
    have HI3 := Lib.hid (HI2.out.keep hm)
    have HM3 := Lib.hid (HM2.out.trans hm (fun _ _ h => h))
    clear hm
    clear c0 c1 c2 c3 c4 c5 c6
    obtain ⟨c0, c1, c2, c3, c4, c5, c6⟩ := HI3.out.cells
    go_wp2
    go_ret
    exact ⟨rfl, HM3.out⟩
  | true =>
  cases d6 with
  | false =>
    go_enter Try.func34, Try.ntmps34
    go_wp2_with fail
    refine (V1.out _).mono ?_
    rintro e w2 ⟨rfl, hm⟩
    have HI2 := Lib.hid (HI1.out.keep hm)
    have HM2 := Lib.hid (HM1.out.trans hm (fun _ _ h => h))
    clear hm
    clear c0 c1 c2 c3 c4 c5 c6
    obtain ⟨c0, c1, c2, c3, c4, c5, c6⟩ := HI2.out.cells
    go_wp2_with fail
    refine (V2.out _).mono ?_
    rintro e w3 ⟨rfl, hm⟩
    have HI3 := Lib.hid (HI2.out.keep hm)
    have HM3 := Lib.hid (HM2.out.trans hm (fun _ _ h => h))
    clear hm
    clear c0 c1 c2 c3 c4 c5 c6
    obtain ⟨c0, c1, c2, c3, c4, c5, c6⟩ := HI3.out.cells
    go_wp2
    go_ret
    exact ⟨rfl, HM3.out⟩
  | true =>
  go_enter Try.func34, Try.ntmps34
  go_wp2_with fail
  refine (V1.out _).mono ?_
  rintro e w2 ⟨rfl, hm⟩
  have HI2 := Lib.hid (HI1.out.keep hm)
  have HM2 := Lib.hid (HM1.out.trans hm (fun _ _ h => h))
  clear hm
  clear c0 c1 c2 c3 c4 c5 c6
  obtain ⟨c0, c1, c2, c3, c4, c5, c6⟩ := HI2.out.cells
  go_wp2_with fail
  refine (V2.out _).mono ?_
  rintro e w3 ⟨rfl, hm⟩
  have HI3 := Lib.hid (HI2.out.keep hm)
  have HM3 := Lib.hid (HM2.out.trans hm (fun _ _ h => h))
  clear hm
  clear c0 c1 c2 c3 c4 c5 c6
  obtain ⟨c0, c1, c2, c3, c4, c5, c6⟩ := HI3.out.cells
  go_wp2
  go_ret
  exact ⟨rfl, HM3.out⟩
end Go.Proofs.Ytidcmolkolcliaa
