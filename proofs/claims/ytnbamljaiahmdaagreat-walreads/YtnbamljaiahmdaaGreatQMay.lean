/-
  rec.May: its two functions, isNone, mayValue, isEmpty.
  rec.May.
-/
import Derived.Test.YtnbamljaiahmdaaGreatQF
import Derived.StillTailTactics
import Derived.Test.YtnbamljaiahmdaaGreatQFields
namespace Go.Proofs.YtnbamljaiahmdaaGreat
open Go Go.RowKit

/-- Does a number fit so many bytes? -/
def okN (n : Int) (wd : Nat) : Bool := decide (0 ≤ n) && decide (n < (256 : Int) ^ wd)
def noneV (x : VlD) : Bool := !x.is && decide ((x.m : Int) = 0)
def okV (x : VlD) : Bool := noneV x || (x.is && decide ((x.m : Int) ≤ 32))

set_option maxRecDepth 100000 in
theorem isNone_ok (w : World) (x : VlD) :
    Calls Tryz.prog 70 #[.agg #[.bool x.is, .slice x.B x.m x.d]] w fun e w' => e = .returned (.bool (noneV x)) ∧ Mod (fun _ => False) w w' := by
  obtain ⟨is, B, m, d, vs⟩ := x
  have Hm : Hid (Mod (fun _ => False) w (w.alloc (.cells #[.bool is, .slice B m d] 45))) := (Mod.refl _ w).alloc _
  cases is with
  | true =>
    go_enter Tryz.func70, Tryz.ntmps70
    go_wp2
    go_ret
    exact ⟨rfl, Hm.out⟩
  | false =>
    have Hb : Hid (noneV ⟨false, B, m, d, vs⟩ = decide ((m : Int) = 0)) := by show _ = _; rfl
    go_enter Tryz.func70, Tryz.ntmps70
    go_wp2
    go_ret
    exact ⟨by rw [Hb.out]; rfl, Hm.out⟩

set_option maxRecDepth 100000 in
theorem mayValue_ok (w : World) (x : VlD) :
    Calls Tryz.prog 54 #[.agg #[.bool x.is, .slice x.B x.m x.d]] w fun e w' => e = .returned (.bool (okV x)) ∧ Mod (fun _ => False) w w' := by
  have ha : Mod (fun _ => False) w (w.alloc (.cells #[.bool x.is, .slice x.B x.m x.d] 45)) := (Mod.refl _ w).alloc _
  have Hn := Lib.hid (isNone_ok (w.alloc (.cells #[.bool x.is, .slice x.B x.m x.d] 45)) x)
  have Ha := Lib.hid ha
  have Hb : Hid (Option.some (Obj.cells #[.bool x.is, .slice x.B x.m x.d] 45 (0, 0)) = (w.alloc (.cells #[.bool x.is, .slice x.B x.m x.d] 45)).heap[w.heap.size]?) := (heap_alloc_new w _).symm
  clear ha
  go_enter Tryz.func54, Tryz.ntmps54
  go_wp2_with fail
  refine Hn.out.mono ?_
  rintro e w1 ⟨rfl, hm⟩
  have hb1 : w1.heap[w.heap.size]? = some (Obj.cells #[.bool x.is, .slice x.B x.m x.d] 45 (0, 0)) := (hm.block w.heap.size (by simp) id).trans Hb.out.symm
  have c0 : w1.cell? ⟨w.heap.size, 0, none⟩ = some (.bool x.is) := by rw [cell_of_row _ _ _ _ _ _ hb1]; rfl
  have c1 : w1.cell? ⟨w.heap.size, 1, none⟩ = some (.slice x.B x.m x.d) := by rw [cell_of_row _ _ _ _ _ _ hb1]; rfl
  have Hm := Lib.hid (Ha.out.trans hm (fun _ _ h => h))
  clear hm hb1 Hn Hb Ha
  cases hn : noneV x with
  | true =>
    have Ho : Hid (okV x = true) := by show _ = _; unfold okV; rw [hn]; rfl
    clear hn
    go_wp2
    go_ret
    exact ⟨by rw [Ho.out]; rfl, Hm.out⟩
  | false =>
    cases hi : x.is with
    | true =>
      have Ho : Hid (okV x = decide ((x.m : Int) ≤ 32)) := by show _ = _; unfold okV; rw [hn, hi]; rfl
      rw [hi] at c0
      clear hn hi
      go_wp2
      go_ret
      exact ⟨by rw [Ho.out]; rfl, Hm.out⟩
    | false =>
      have Ho : Hid (okV x = false) := by show _ = _; unfold okV; rw [hn, hi]; rfl
      rw [hi] at c0
      clear hn hi
      go_wp2
      go_ret
      exact ⟨by rw [Ho.out]; rfl, Hm.out⟩

theorem okN_spell (n : Int) (wd : Nat) : okN n wd = (decide (0 ≤ n) && decide (n < (256 : Int) ^ wd)) := rfl


set_option maxRecDepth 100000 in
set_option maxHeartbeats 1000000 in
theorem may1_k1 (w : World) (g i vb : Nat) (n : Int) (b : Bool) (hc : w.cell? ⟨g, i, none⟩ = some (.int .i64 n)) (hf : w.frozen? ⟨g, i, none⟩ = false) (hb : w.cell? ⟨vb, 0, none⟩ = some (.bool b)) (hbf : w.frozen? ⟨vb, 0, none⟩ = false) (hne : vb ≠ g) :
    Calls Tryz.prog 52 #[.pointer (some ⟨g, i, none⟩), .int .i64 1, .pointer (some ⟨vb, 0, none⟩)] w fun e w' => e = .returned (.tuple #[]) ∧
      w' = ((w.setCell ⟨vb, 0, none⟩ (.bool (b && okN n 1))).setCell ⟨g, i, none⟩ (.int .i64 0)).drew := by
  have hx : okN n 1 = (decide (0 ≤ n) && decide (n < (256 : Int) ^ 1)) := rfl
  simp only [Int.reducePow] at hx
  cases b with
  | false =>
    go_enter Tryz.func52, Tryz.ntmps52
    go_wp2
    go_region
    go_wp2
    go_end0
    exact ⟨rfl, rfl⟩
  | true =>
    cases h1 : decide (0 ≤ n) with
    | false =>
      rw [h1, Bool.false_and] at hx
      have Hx := Lib.hid hx
      clear hx
      go_enter Tryz.func52, Tryz.ntmps52
      go_wp2
      go_region
      go_wp2
      go_end0
      exact ⟨rfl, by rw [Hx.out]; rfl⟩
    | true =>
      obtain ⟨b2, h2⟩ : ∃ b2, (okN n 1) = b2 := ⟨_, rfl⟩
      have Hx := Lib.hid h2
      rw [h1, Bool.true_and, h2] at hx
      clear h2
      cases b2
      all_goals
        have h3 := hx.symm
        clear hx
        go_enter Tryz.func52, Tryz.ntmps52
        go_wp2
        go_region
        go_wp2
        go_end0
        exact ⟨rfl, by rw [Hx.out]; rfl⟩
set_option maxRecDepth 100000 in
set_option maxHeartbeats 1000000 in
theorem may1_k2 (w : World) (g i vb : Nat) (n : Int) (b : Bool) (hc : w.cell? ⟨g, i, none⟩ = some (.int .i64 n)) (hf : w.frozen? ⟨g, i, none⟩ = false) (hb : w.cell? ⟨vb, 0, none⟩ = some (.bool b)) (hbf : w.frozen? ⟨vb, 0, none⟩ = false) (hne : vb ≠ g) :
    Calls Tryz.prog 52 #[.pointer (some ⟨g, i, none⟩), .int .i64 2, .pointer (some ⟨vb, 0, none⟩)] w fun e w' => e = .returned (.tuple #[]) ∧
      w' = ((w.setCell ⟨vb, 0, none⟩ (.bool (b && okN n 2))).setCell ⟨g, i, none⟩ (.int .i64 0)).drew := by
  have hx : okN n 2 = (decide (0 ≤ n) && decide (n < (256 : Int) ^ 2)) := rfl
  simp only [Int.reducePow] at hx
  cases b with
  | false =>
    go_enter Tryz.func52, Tryz.ntmps52
    go_wp2
    go_region
    go_wp2
    go_end0
    exact ⟨rfl, rfl⟩
  | true =>
    cases h1 : decide (0 ≤ n) with
    | false =>
      rw [h1, Bool.false_and] at hx
      have Hx := Lib.hid hx
      clear hx
      go_enter Tryz.func52, Tryz.ntmps52
      go_wp2
      go_region
      go_wp2
      go_end0
      exact ⟨rfl, by rw [Hx.out]; rfl⟩
    | true =>
      obtain ⟨b2, h2⟩ : ∃ b2, (okN n 2) = b2 := ⟨_, rfl⟩
      have Hx := Lib.hid h2
      rw [h1, Bool.true_and, h2] at hx
      clear h2
      cases b2
      all_goals
        have h3 := hx.symm
        clear hx
        go_enter Tryz.func52, Tryz.ntmps52
        go_wp2
        go_region
        go_wp2
        go_end0
        exact ⟨rfl, by rw [Hx.out]; rfl⟩
set_option maxRecDepth 100000 in
set_option maxHeartbeats 1000000 in
theorem may1_k4 (w : World) (g i vb : Nat) (n : Int) (b : Bool) (hc : w.cell? ⟨g, i, none⟩ = some (.int .i64 n)) (hf : w.frozen? ⟨g, i, none⟩ = false) (hb : w.cell? ⟨vb, 0, none⟩ = some (.bool b)) (hbf : w.frozen? ⟨vb, 0, none⟩ = false) (hne : vb ≠ g) :
    Calls Tryz.prog 52 #[.pointer (some ⟨g, i, none⟩), .int .i64 4, .pointer (some ⟨vb, 0, none⟩)] w fun e w' => e = .returned (.tuple #[]) ∧
      w' = ((w.setCell ⟨vb, 0, none⟩ (.bool (b && okN n 4))).setCell ⟨g, i, none⟩ (.int .i64 0)).drew := by
  have hx : okN n 4 = (decide (0 ≤ n) && decide (n < (256 : Int) ^ 4)) := rfl
  simp only [Int.reducePow] at hx
  cases b with
  | false =>
    go_enter Tryz.func52, Tryz.ntmps52
    go_wp2
    go_region
    go_wp2
    go_end0
    exact ⟨rfl, rfl⟩
  | true =>
    cases h1 : decide (0 ≤ n) with
    | false =>
      rw [h1, Bool.false_and] at hx
      have Hx := Lib.hid hx
      clear hx
      go_enter Tryz.func52, Tryz.ntmps52
      go_wp2
      go_region
      go_wp2
      go_end0
      exact ⟨rfl, by rw [Hx.out]; rfl⟩
    | true =>
      obtain ⟨b2, h2⟩ : ∃ b2, (okN n 4) = b2 := ⟨_, rfl⟩
      have Hx := Lib.hid h2
      rw [h1, Bool.true_and, h2] at hx
      clear h2
      cases b2
      all_goals
        have h3 := hx.symm
        clear hx
        go_enter Tryz.func52, Tryz.ntmps52
        go_wp2
        go_region
        go_wp2
        go_end0
        exact ⟨rfl, by rw [Hx.out]; rfl⟩

/-- What a step leaves of a record in its block, and of the box 'valid'. -/
theorem may1_ok (w : World) (g i vb wd : Nat) (y : RcD) (b : Bool) (hI : y.In w g) (h1 : 1 ≤ i) (h9 : i ≤ 9) (hw : wd = 1 ∨ wd = 2 ∨ wd = 4) (hb : Bx w vb 4 (.bool b)) (hne : vb ≠ g) :
    Calls Tryz.prog 52 #[.pointer (some ⟨g, i, none⟩), .int .i64 wd, .pointer (some ⟨vb, 0, none⟩)] w fun e w' => e = .returned (.tuple #[]) ∧
      ({ y with f := upd y.f i 0 } : RcD).In w' g ∧ Bx w' vb 4 (.bool (b && okN (y.f i) wd)) ∧ Mod (fun k => k = g ∨ k = vb) w w' := by
  have key : ∀ w', w' = ((w.setCell ⟨vb, 0, none⟩ (.bool (b && okN (y.f i) wd))).setCell ⟨g, i, none⟩ (.int .i64 0)).drew →
      ({ y with f := upd y.f i 0 } : RcD).In w' g ∧ Bx w' vb 4 (.bool (b && okN (y.f i) wd)) ∧ Mod (fun k => k = g ∨ k = vb) w w' := by
    rintro w' rfl
    have m1 : Mod (fun k => k = g ∨ k = vb) w (w.setCell ⟨vb, 0, none⟩ (.bool (b && okN (y.f i) wd))) := (Mod.refl _ w).setCell (fun _ => .inr rfl) _
    have i1 : y.In (w.setCell ⟨vb, 0, none⟩ (.bool (b && okN (y.f i) wd))) g := hI.mod ((Mod.refl (fun k => k = vb) w).setCell (p := ⟨vb, 0, none⟩) (fun _ => rfl) _) (fun e => hne e.symm)
    have b1 : Bx (w.setCell ⟨vb, 0, none⟩ (.bool (b && okN (y.f i) wd))) vb 4 (.bool (b && okN (y.f i) wd)) := hb.set _
    refine ⟨i1.setN h1 h9 0, b1.mod (F := fun k => k = g) ((Mod.refl (fun k => k = g) _).setCell (p := ⟨g, i, none⟩) (fun _ => rfl) _).drew hne, (m1.setCell (fun _ => .inl rfl) _).drew⟩
  rcases hw with rfl | rfl | rfl
  · exact (may1_k1 w g i vb (y.f i) b (hI.num h1 h9) (hI.fz i) hb.cell hb.fz hne).mono fun e w' ⟨he, hw'⟩ => ⟨he, key w' hw'⟩
  · exact (may1_k2 w g i vb (y.f i) b (hI.num h1 h9) (hI.fz i) hb.cell hb.fz hne).mono fun e w' ⟨he, hw'⟩ => ⟨he, key w' hw'⟩
  · exact (may1_k4 w g i vb (y.f i) b (hI.num h1 h9) (hI.fz i) hb.cell hb.fz hne).mono fun e w' ⟨he, hw'⟩ => ⟨he, key w' hw'⟩

set_option maxRecDepth 100000 in
set_option maxHeartbeats 1000000 in
theorem may2_o (w : World) (g vb : Nat) (y : RcD) (b : Bool) (hI : y.In w g) (hb : Bx w vb 4 (.bool b)) (hne : vb ≠ g) :
    Calls Tryz.prog 53 #[.pointer (some ⟨g, 10, none⟩), .pointer (some ⟨vb, 0, none⟩)] w fun e w' => e = .returned (.tuple #[]) ∧
      ({ y with o := VlD.none } : RcD).In w' g ∧ Bx w' vb 4 (.bool (b && okV y.o)) ∧ Mod (fun k => k = g ∨ k = vb) w w' := by
  have key : ∀ (w1 : World) (b' : Bool), Mod (fun _ => False) w w1 →
      ({ y with o := VlD.none } : RcD).In (((w1.setCell ⟨vb, 0, none⟩ (.bool b')).setCell ⟨g, 10, none⟩ (.bool false)).setCell ⟨g, 11, none⟩ (.slice none 0 0)) g ∧
        Bx (((w1.setCell ⟨vb, 0, none⟩ (.bool b')).setCell ⟨g, 10, none⟩ (.bool false)).setCell ⟨g, 11, none⟩ (.slice none 0 0)) vb 4 (.bool b') ∧
        Mod (fun k => k = g ∨ k = vb) w (((w1.setCell ⟨vb, 0, none⟩ (.bool b')).setCell ⟨g, 10, none⟩ (.bool false)).setCell ⟨g, 11, none⟩ (.slice none 0 0)) := by
    intro w1 b' hm
    have m1 : Mod (fun k => k = g ∨ k = vb) w w1 := hm.mono (fun _ _ h => h.elim)
    have i1 : y.In (w1.setCell ⟨vb, 0, none⟩ (.bool b')) g := (hI.keep hm).mod ((Mod.refl (fun k => k = vb) w1).setCell (p := ⟨vb, 0, none⟩) (fun _ => rfl) _) (fun e => hne e.symm)
    have b1 : Bx (w1.setCell ⟨vb, 0, none⟩ (.bool b')) vb 4 (.bool b') := (hb.keep hm).set _
    exact ⟨i1.setO VlD.none, b1.mod (((Mod.refl (fun k => k = g) _).setCell (p := ⟨g, 10, none⟩) (fun _ => rfl) _).setCell (p := ⟨g, 11, none⟩) (fun _ => rfl) _) hne,
      ((m1.setCell (fun _ => .inr rfl) _).setCell (p := ⟨g, 10, none⟩) (fun _ => .inl rfl) _).setCell (p := ⟨g, 11, none⟩) (fun _ => .inl rfl) _⟩
  have Key := Lib.hid key
  cases b with
  | false =>
    have c0 := hI.c10
    have c1 := hI.c11
    have f0 := hI.fz 10
    have f1 := hI.fz 11
    have hb0 := hb.cell
    have hbf := hb.fz
    clear key hI hb
    go_enter Tryz.func53, Tryz.ntmps53
    go_wp2
    go_end0
    exact ⟨rfl, Key.out w false (Mod.refl _ w)⟩
  | true =>
    have c0 := hI.c10
    have c1 := hI.c11
    have hb0 := hb.cell
    have HI := Lib.hid hI
    have Hb := Lib.hid hb
    have Hc := Lib.hid (mayValue_ok w y.o)
    clear key hI hb
    go_enter Tryz.func53, Tryz.ntmps53
    go_wp2_with fail
    refine Hc.out.mono ?_
    rintro e w1 ⟨rfl, hm⟩
    have hI1 := HI.out.keep hm
    have hb1 := Hb.out.keep hm
    have c0' := hI1.c10
    have c1' := hI1.c11
    have f0 := hI1.fz 10
    have f1 := hI1.fz 11
    have hb0' := hb1.cell
    have hbf := hb1.fz
    have Hm := Lib.hid hm
    clear hm hI1 hb1 Hc c0 c1 hb0 HI Hb
    go_wp2
    go_end0
    exact ⟨rfl, by rw [Bool.true_and]; exact Key.out w1 _ Hm.out⟩

set_option maxRecDepth 100000 in
set_option maxHeartbeats 1000000 in
theorem may2_v (w : World) (g vb : Nat) (y : RcD) (b : Bool) (hI : y.In w g) (hb : Bx w vb 4 (.bool b)) (hne : vb ≠ g) :
    Calls Tryz.prog 53 #[.pointer (some ⟨g, 12, none⟩), .pointer (some ⟨vb, 0, none⟩)] w fun e w' => e = .returned (.tuple #[]) ∧
      ({ y with v := VlD.none } : RcD).In w' g ∧ Bx w' vb 4 (.bool (b && okV y.v)) ∧ Mod (fun k => k = g ∨ k = vb) w w' := by
  have key : ∀ (w1 : World) (b' : Bool), Mod (fun _ => False) w w1 →
      ({ y with v := VlD.none } : RcD).In (((w1.setCell ⟨vb, 0, none⟩ (.bool b')).setCell ⟨g, 12, none⟩ (.bool false)).setCell ⟨g, 13, none⟩ (.slice none 0 0)) g ∧
        Bx (((w1.setCell ⟨vb, 0, none⟩ (.bool b')).setCell ⟨g, 12, none⟩ (.bool false)).setCell ⟨g, 13, none⟩ (.slice none 0 0)) vb 4 (.bool b') ∧
        Mod (fun k => k = g ∨ k = vb) w (((w1.setCell ⟨vb, 0, none⟩ (.bool b')).setCell ⟨g, 12, none⟩ (.bool false)).setCell ⟨g, 13, none⟩ (.slice none 0 0)) := by
    intro w1 b' hm
    have m1 : Mod (fun k => k = g ∨ k = vb) w w1 := hm.mono (fun _ _ h => h.elim)
    have i1 : y.In (w1.setCell ⟨vb, 0, none⟩ (.bool b')) g := (hI.keep hm).mod ((Mod.refl (fun k => k = vb) w1).setCell (p := ⟨vb, 0, none⟩) (fun _ => rfl) _) (fun e => hne e.symm)
    have b1 : Bx (w1.setCell ⟨vb, 0, none⟩ (.bool b')) vb 4 (.bool b') := (hb.keep hm).set _
    exact ⟨i1.setV VlD.none, b1.mod (((Mod.refl (fun k => k = g) _).setCell (p := ⟨g, 12, none⟩) (fun _ => rfl) _).setCell (p := ⟨g, 13, none⟩) (fun _ => rfl) _) hne,
      ((m1.setCell (fun _ => .inr rfl) _).setCell (p := ⟨g, 12, none⟩) (fun _ => .inl rfl) _).setCell (p := ⟨g, 13, none⟩) (fun _ => .inl rfl) _⟩
  have Key := Lib.hid key
  cases b with
  | false =>
    have c0 := hI.c12
    have c1 := hI.c13
    have f0 := hI.fz 12
    have f1 := hI.fz 13
    have hb0 := hb.cell
    have hbf := hb.fz
    clear key hI hb
    go_enter Tryz.func53, Tryz.ntmps53
    go_wp2
    go_end0
    exact ⟨rfl, Key.out w false (Mod.refl _ w)⟩
  | true =>
    have c0 := hI.c12
    have c1 := hI.c13
    have hb0 := hb.cell
    have HI := Lib.hid hI
    have Hb := Lib.hid hb
    have Hc := Lib.hid (mayValue_ok w y.v)
    clear key hI hb
    go_enter Tryz.func53, Tryz.ntmps53
    go_wp2_with fail
    refine Hc.out.mono ?_
    rintro e w1 ⟨rfl, hm⟩
    have hI1 := HI.out.keep hm
    have hb1 := Hb.out.keep hm
    have c0' := hI1.c12
    have c1' := hI1.c13
    have f0 := hI1.fz 12
    have f1 := hI1.fz 13
    have hb0' := hb1.cell
    have hbf := hb1.fz
    have Hm := Lib.hid hm
    clear hm hI1 hb1 Hc c0 c1 hb0 HI Hb
    go_wp2
    go_end0
    exact ⟨rfl, by rw [Bool.true_and]; exact Key.out w1 _ Hm.out⟩

/-- Are all fields zero? -/
def emptyB (x : RcD) : Bool := (x.f 1 == 0) && (x.f 2 == 0) && (x.f 3 == 0) && (x.f 4 == 0) && (x.f 5 == 0) && (x.f 6 == 0) && (x.f 7 == 0) && (x.f 8 == 0) && (x.f 9 == 0) && noneV x.o && noneV x.v
set_option maxRecDepth 100000 in
set_option maxHeartbeats 2000000 in
theorem isEmpty_ok (w : World) (x : RcD) :
    Calls Tryz.prog 55 #[x.val] w fun e w' => e = .returned (.bool (emptyB x)) ∧ Mod (fun _ => False) w w' := by
  have ha : Mod (fun _ => False) w (w.alloc (.cells x.cells 47)) := (Mod.refl _ w).alloc _
  have Ha := Lib.hid ha
  have HI : Hid (x.In (w.alloc (.cells x.cells 47)) w.heap.size) := RcD.In.new w x
  clear ha
  cases d1 : (x.f 1 == 0) with
  | false =>
    have He : Hid (emptyB x = false) := by show _ = _; unfold emptyB; simp only [d1, Bool.false_and]
    clear HI
    go_enter Tryz.func55, Tryz.ntmps55
    go_wp2
    go_ret
    exact ⟨by rw [He.out]; rfl, Ha.out⟩
  | true =>
  cases d2 : (x.f 2 == 0) with
  | false =>
    have He : Hid (emptyB x = false) := by show _ = _; unfold emptyB; simp only [d2, Bool.and_false, Bool.false_and]
    clear HI
    go_enter Tryz.func55, Tryz.ntmps55
    go_wp2
    go_ret
    exact ⟨by rw [He.out]; rfl, Ha.out⟩
  | true =>
  cases d3 : (x.f 3 == 0) with
  | false =>
    have He : Hid (emptyB x = false) := by show _ = _; unfold emptyB; simp only [d3, Bool.and_false, Bool.false_and]
    clear HI
    go_enter Tryz.func55, Tryz.ntmps55
    go_wp2
    go_ret
    exact ⟨by rw [He.out]; rfl, Ha.out⟩
  | true =>
  cases d4 : (x.f 4 == 0) with
  | false =>
    have He : Hid (emptyB x = false) := by show _ = _; unfold emptyB; simp only [d4, Bool.and_false, Bool.false_and]
    clear HI
    go_enter Tryz.func55, Tryz.ntmps55
    go_wp2
    go_ret
    exact ⟨by rw [He.out]; rfl, Ha.out⟩
  | true =>
  cases d5 : (x.f 5 == 0) with
  | false =>
    have He : Hid (emptyB x = false) := by show _ = _; unfold emptyB; simp only [d5, Bool.and_false, Bool.false_and]
    clear HI
    go_enter Tryz.func55, Tryz.ntmps55
    go_wp2
    go_ret
    exact ⟨by rw [He.out]; rfl, Ha.out⟩
  | true =>
  cases d6 : (x.f 6 == 0) with
  | false =>
    have He : Hid (emptyB x = false) := by show _ = _; unfold emptyB; simp only [d6, Bool.and_false, Bool.false_and]
    clear HI
    go_enter Tryz.func55, Tryz.ntmps55
    go_wp2
    go_ret
    exact ⟨by rw [He.out]; rfl, Ha.out⟩
  | true =>
  cases d7 : (x.f 7 == 0) with
  | false =>
    have He : Hid (emptyB x = false) := by show _ = _; unfold emptyB; simp only [d7, Bool.and_false, Bool.false_and]
    clear HI
    go_enter Tryz.func55, Tryz.ntmps55
    go_wp2
    go_ret
    exact ⟨by rw [He.out]; rfl, Ha.out⟩
  | true =>
  cases d8 : (x.f 8 == 0) with
  | false =>
    have He : Hid (emptyB x = false) := by show _ = _; unfold emptyB; simp only [d8, Bool.and_false, Bool.false_and]
    clear HI
    go_enter Tryz.func55, Tryz.ntmps55
    go_wp2
    go_ret
    exact ⟨by rw [He.out]; rfl, Ha.out⟩
  | true =>
  cases d9 : (x.f 9 == 0) with
  | false =>
    have He : Hid (emptyB x = false) := by show _ = _; unfold emptyB; simp only [d9, Bool.and_false, Bool.false_and]
    clear HI
    go_enter Tryz.func55, Tryz.ntmps55
    go_wp2
    go_ret
    exact ⟨by rw [He.out]; rfl, Ha.out⟩
  | true =>
  have H1 := Lib.hid (isNone_ok (w.alloc (.cells x.cells 47)) x.o)
  go_enter Tryz.func55, Tryz.ntmps55
  go_wp2_with fail
  refine H1.out.mono ?_
  rintro e w1 ⟨rfl, hm1⟩
  have hI1 := HI.out.keep hm1
  have c12 := hI1.c12
  have c13 := hI1.c13
  have Hm1 := Lib.hid (Ha.out.trans hm1 (fun _ _ h => h))
  have H2 := Lib.hid (isNone_ok w1 x.v)
  clear hI1 hm1 HI H1
  cases d10 : noneV x.o with
  | false =>
    have He : Hid (emptyB x = false) := by show _ = _; unfold emptyB; simp only [d10, Bool.and_false, Bool.false_and]
    clear H2
    go_wp2
    go_ret
    exact ⟨by rw [He.out]; rfl, Hm1.out⟩
  | true =>
  have He : Hid (emptyB x = noneV x.v) := by show _ = _; unfold emptyB; simp only [d1, d2, d3, d4, d5, d6, d7, d8, d9, d10, Bool.true_and]
  go_wp2_with fail
  refine H2.out.mono ?_
  rintro e w2 ⟨rfl, hm2⟩
  have Hm2 := Lib.hid (Hm1.out.trans hm2 (fun _ _ h => h))
  clear hm2 H2 c12 c13
  go_wp2
  go_ret
  exact ⟨by rw [He.out]; rfl, Hm2.out⟩

end Go.Proofs.YtnbamljaiahmdaaGreat

namespace Go.Proofs.YtnbamljaiahmdaaGreat
open Go Go.RowKit Go.Shelf

def Fld.good : Fld → Prop
  | .num i wd => 1 ≤ i ∧ i ≤ 9 ∧ (wd = 1 ∨ wd = 2 ∨ wd = 4)
  | _ => True
def Fld.goodB : Fld → Bool
  | .num i wd => decide (1 ≤ i) && decide (i ≤ 9) && (decide (wd = 1) || decide (wd = 2) || decide (wd = 4))
  | _ => true
theorem goodB_good {l : List Fld} (h : l.all Fld.goodB = true) : ∀ f ∈ l, f.good := by
  intro f hf
  have := List.all_eq_true.1 h f hf
  cases f with
  | num i wd => simpa [Fld.goodB, Fld.good, and_assoc, or_assoc] using this
  | old => trivial
  | new => trivial
theorem fields_good {k : Int} {fl : List Fld} (h : fieldsOf k = some fl) : ∀ f ∈ fl, f.good := by
  unfold fieldsOf at h
  repeat' split at h
  all_goals first | (injection h with h; subst h; exact goodB_good rfl) | cases h

/-- One field of May: does it fit; it is made zero. -/
def okF (x : RcD) : Fld → Bool
  | .num i wd => okN (x.f i) wd
  | .old => okV x.o
  | .new => okV x.v
def zeroF (x : RcD) : Fld → RcD
  | .num i _ => { x with f := upd x.f i 0 }
  | .old => { x with o := VlD.none }
  | .new => { x with v := VlD.none }
def mayStep (s : Bool × RcD) (f : Fld) : Bool × RcD := (s.1 && okF s.2 f, zeroF s.2 f)
def mayS (fl : List Fld) (x : RcD) : Bool × RcD := fl.foldl mayStep (true, x)
theorem mayS_succ {fl : List Fld} {j : Nat} {f : Fld} (h : fl[j]? = some f) (x : RcD) : mayS (fl.take (j + 1)) x = mayStep (mayS (fl.take j) x) f := by
  obtain ⟨hj, e⟩ := List.getElem?_eq_some_iff.1 h
  unfold mayS
  rw [List.take_succ_eq_append_getElem hj, List.foldl_append, e]
  rfl
def mayB (x : RcD) : Bool :=
  match fieldsOf x.k with
  | none => false
  | some fl => (mayS fl x).1 && emptyB (mayS fl x).2

set_option maxRecDepth 100000 in
set_option maxHeartbeats 1000000 in
theorem may_ok (w : World) (x : RcD) :
    Calls Tryz.prog 31 #[x.val] w fun e w' => e = .returned (.bool (mayB x)) ∧ Mod (fun _ => False) w w' := by
  obtain ⟨wA, hwA⟩ : ∃ wA, wA = (w.alloc (.cells x.cells 47)).alloc (.cells #[.bool true] 4) := ⟨_, rfl⟩
  have hm : Mod (fun _ => False) w wA := by rw [hwA]; exact ((Mod.refl _ w).alloc _).alloc _
  have hI : x.In wA w.heap.size := by rw [hwA]; exact (RcD.In.new w x).keep ((Mod.refl _ _).alloc _)
  have hb : Bx wA (w.heap.size + 1) 4 (.bool true) := by
    rw [hwA]
    have := Bx.new (w.alloc (.cells x.cells 47)) 4 (.bool true)
    rw [World.size_alloc] at this
    exact this
  have Hm := Lib.hid hm
  cases hfl : fieldsOf x.k with
  | none =>
    have Hf := Lib.hid (fields_no wA w.heap.size x.k hI.kind hfl 52 53 #[.pointer (some ⟨w.heap.size + 1, 0, none⟩)] #[.pointer (some ⟨w.heap.size + 1, 0, none⟩)])
    have Hr : Hid (mayB x = false) := by show _ = _; unfold mayB; rw [hfl]
    clear hfl hm hI hb
    go_enter Tryz.func31, Tryz.ntmps31
    go_wp2_with fail
    rw [← hwA]
    clear hwA
    refine Hf.out.mono ?_
    rintro e w1 ⟨rfl, rfl⟩
    clear Hf
    go_wp2
    go_ret
    exact ⟨by rw [Hr.out]; rfl, Hm.out⟩
  | some fl =>
    have hg := fields_good hfl
    have hs : Steps w.heap.size 52 53 #[.pointer (some ⟨w.heap.size + 1, 0, none⟩)] #[.pointer (some ⟨w.heap.size + 1, 0, none⟩)]
        (fun j W => (mayS (fl.take j) x).2.In W w.heap.size ∧ Bx W (w.heap.size + 1) 4 (.bool (mayS (fl.take j) x).1) ∧ Mod (fun _ => False) w W) fl := by
      refine ⟨enters_of Tryz.func52 (by kernel_rfl) rfl, enters_of Tryz.func53 (by kernel_rfl) rfl, ?_, ?_, ?_⟩
      · rintro j i wd W hf ⟨h1, h2, h3⟩
        obtain ⟨g1, g2, g3⟩ : 1 ≤ i ∧ i ≤ 9 ∧ (wd = 1 ∨ wd = 2 ∨ wd = 4) := hg _ (List.mem_of_getElem? hf)
        rw [mayS_succ hf]
        refine (may1_ok W w.heap.size i (w.heap.size + 1) wd _ _ h1 g1 g2 g3 h2 (by omega)).mono ?_
        rintro e w' ⟨rfl, k1, k2, k3⟩
        exact ⟨rfl, k1, k2, h3.trans k3 (fun i hi e => by omega)⟩
      · rintro j W hf ⟨h1, h2, h3⟩
        rw [mayS_succ hf]
        refine (may2_o W w.heap.size (w.heap.size + 1) _ _ h1 h2 (by omega)).mono ?_
        rintro e w' ⟨rfl, k1, k2, k3⟩
        exact ⟨rfl, k1, k2, h3.trans k3 (fun i hi e => by omega)⟩
      · rintro j W hf ⟨h1, h2, h3⟩
        rw [mayS_succ hf]
        refine (may2_v W w.heap.size (w.heap.size + 1) _ _ h1 h2 (by omega)).mono ?_
        rintro e w' ⟨rfl, k1, k2, k3⟩
        exact ⟨rfl, k1, k2, h3.trans k3 (fun i hi e => by omega)⟩
    have Hf := Lib.hid (fields_ok wA w.heap.size 52 53 _ _ x.k hI.kind _ fl hfl ⟨hI, hb, hm⟩ hs)
    have Hr : Hid (mayB x = ((mayS fl x).1 && emptyB (mayS fl x).2)) := by show _ = _; unfold mayB; rw [hfl]
    clear hfl hm hI hb hs hg
    go_enter Tryz.func31, Tryz.ntmps31
    go_wp2_with fail
    rw [← hwA]
    clear hwA
    refine Hf.out.mono ?_
    rintro e w1 ⟨rfl, h1, h2, h3⟩
    clear Hf
    rw [List.take_length] at h1 h2
    obtain ⟨y, hy⟩ : ∃ y, (mayS fl x).2 = y := ⟨_, rfl⟩
    obtain ⟨b, hb⟩ : ∃ b, (mayS fl x).1 = b := ⟨_, rfl⟩
    rw [hy, hb] at Hr
    rw [hy] at h1
    rw [hb] at h2
    clear hy hb
    have c0 := h2.cell
    have H3 := Lib.hid h3
    cases b with
    | false =>
      clear h1 h2 h3
      go_wp2
      go_ret
      exact ⟨by rw [Hr.out]; rfl, H3.out⟩
    | true =>
      have He := Lib.hid (isEmpty_ok w1 y)
      have k0 := h1.kind
      have k1 := h1.num (i := 1) (by omega) (by omega)
      have k2 := h1.num (i := 2) (by omega) (by omega)
      have k3 := h1.num (i := 3) (by omega) (by omega)
      have k4 := h1.num (i := 4) (by omega) (by omega)
      have k5 := h1.num (i := 5) (by omega) (by omega)
      have k6 := h1.num (i := 6) (by omega) (by omega)
      have k7 := h1.num (i := 7) (by omega) (by omega)
      have k8 := h1.num (i := 8) (by omega) (by omega)
      have k9 := h1.num (i := 9) (by omega) (by omega)
      have k10 := h1.c10
      have k11 := h1.c11
      have k12 := h1.c12
      have k13 := h1.c13
      clear h1 h2 h3
      go_wp2_with fail
      refine He.out.mono ?_
      rintro e w2 ⟨rfl, hm2⟩
      have H4 := Lib.hid (H3.out.trans hm2 (fun _ _ h => h))
      clear hm2 He k0 k1 k2 k3 k4 k5 k6 k7 k8 k9 k10 k11 k12 k13 c0
      go_wp2
      go_ret
      exact ⟨by rw [Hr.out, Bool.true_and]; rfl, H4.out⟩
end Go.Proofs.YtnbamljaiahmdaaGreat
