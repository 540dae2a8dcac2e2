/-
  rec.fields, with whatever two functions: it hands each field on, in order.
-/
import Derived.Test.YtnbamljaiahmdaaGreatQF
import Derived.Shelf.Abstract
namespace Go.Proofs.YtnbamljaiahmdaaGreat
open Go Go.RowKit Go.Shelf
set_option linter.unusedVariables false

/-- What the two functions do with each field, one behind the other. -/
structure Steps (g : Nat) (fa fb : FuncId) (ca cb : Array Value) (S : Nat → World → Prop) (fl : List Fld) : Prop where
  ea : ∀ (args : Array Value) (w : World), (callFunc fa args).run Tryz.prog w = .ok (.enter fa args) w
  eb : ∀ (args : Array Value) (w : World), (callFunc fb args).run Tryz.prog w = .ok (.enter fb args) w
  num : ∀ (j i wd : Nat) (W : World), fl[j]? = some (.num i wd) → S j W → Calls Tryz.prog fa (#[.pointer (some ⟨g, i, none⟩), .int .i64 wd] ++ ca) W fun e w' => e = .returned (.tuple #[]) ∧ S (j + 1) w'
  old : ∀ (j : Nat) (W : World), fl[j]? = some .old → S j W → Calls Tryz.prog fb (#[.pointer (some ⟨g, 10, none⟩)] ++ cb) W fun e w' => e = .returned (.tuple #[]) ∧ S (j + 1) w'
  new : ∀ (j : Nat) (W : World), fl[j]? = some .new → S j W → Calls Tryz.prog fb (#[.pointer (some ⟨g, 12, none⟩)] ++ cb) W fun e w' => e = .returned (.tuple #[]) ∧ S (j + 1) w'

set_option maxRecDepth 100000 in
set_option maxHeartbeats 1000000 in
theorem fields1 (w : World) (g : Nat) (fa fb : FuncId) (ca cb : Array Value) (hk : w.cell? ⟨g, 0, none⟩ = some (.int .i64 1)) (S : Nat → World → Prop) (h0 : S 0 w) (hs : Steps g fa fb ca cb S [.num 1 1, .num 7 4, .num 3 1, .num 4 2, .old, .new]) :
    Calls Tryz.prog 51 #[.pointer (some ⟨g, 0, none⟩), .func (.func fa) #[] ca, .func (.func fb) #[] cb] w fun e w' => e = .returned (.bool true) ∧ S 6 w' := by
  have H0 := Lib.hid h0
  have HN := Lib.hid hs.num
  have HO := Lib.hid hs.old
  have HV := Lib.hid hs.new
  have ea := hs.ea
  have eb := hs.eb
  clear h0 hs
  go_enter Tryz.func51, Tryz.ntmps51
  go_wp2_with fail
  refine (HN.out 0 1 1 w rfl H0.out).mono ?_
  rintro e w1 ⟨rfl, h1⟩
  have H1 := Lib.hid h1
  clear h1 hk
  go_wp2_with fail
  refine (HN.out 1 7 4 w1 rfl H1.out).mono ?_
  rintro e w2 ⟨rfl, h2⟩
  have H2 := Lib.hid h2
  clear h2
  go_wp2_with fail
  refine (HN.out 2 3 1 w2 rfl H2.out).mono ?_
  rintro e w3 ⟨rfl, h3⟩
  have H3 := Lib.hid h3
  clear h3
  go_wp2_with fail
  refine (HN.out 3 4 2 w3 rfl H3.out).mono ?_
  rintro e w4 ⟨rfl, h4⟩
  have H4 := Lib.hid h4
  clear h4
  go_wp2_with fail
  refine (HO.out 4 w4 rfl H4.out).mono ?_
  rintro e w5 ⟨rfl, h5⟩
  have H5 := Lib.hid h5
  clear h5
  go_wp2_with fail
  refine (HV.out 5 w5 rfl H5.out).mono ?_
  rintro e w6 ⟨rfl, h6⟩
  have H6 := Lib.hid h6
  clear h6
  go_wp2
  go_ret
  exact ⟨rfl, H6.out⟩

set_option maxRecDepth 100000 in
set_option maxHeartbeats 1000000 in
theorem fields2 (w : World) (g : Nat) (fa fb : FuncId) (ca cb : Array Value) (hk : w.cell? ⟨g, 0, none⟩ = some (.int .i64 2)) (S : Nat → World → Prop) (h0 : S 0 w) (hs : Steps g fa fb ca cb S [.num 1 1, .num 8 4, .num 3 1, .num 4 2, .new]) :
    Calls Tryz.prog 51 #[.pointer (some ⟨g, 0, none⟩), .func (.func fa) #[] ca, .func (.func fb) #[] cb] w fun e w' => e = .returned (.bool true) ∧ S 5 w' := by
  have H0 := Lib.hid h0
  have HN := Lib.hid hs.num
  have HO := Lib.hid hs.old
  have HV := Lib.hid hs.new
  have ea := hs.ea
  have eb := hs.eb
  clear h0 hs
  go_enter Tryz.func51, Tryz.ntmps51
  go_wp2_with fail
  refine (HN.out 0 1 1 w rfl H0.out).mono ?_
  rintro e w1 ⟨rfl, h1⟩
  have H1 := Lib.hid h1
  clear h1 hk
  go_wp2_with fail
  refine (HN.out 1 8 4 w1 rfl H1.out).mono ?_
  rintro e w2 ⟨rfl, h2⟩
  have H2 := Lib.hid h2
  clear h2
  go_wp2_with fail
  refine (HN.out 2 3 1 w2 rfl H2.out).mono ?_
  rintro e w3 ⟨rfl, h3⟩
  have H3 := Lib.hid h3
  clear h3
  go_wp2_with fail
  refine (HN.out 3 4 2 w3 rfl H3.out).mono ?_
  rintro e w4 ⟨rfl, h4⟩
  have H4 := Lib.hid h4
  clear h4
  go_wp2_with fail
  refine (HV.out 4 w4 rfl H4.out).mono ?_
  rintro e w5 ⟨rfl, h5⟩
  have H5 := Lib.hid h5
  clear h5
  go_wp2
  go_ret
  exact ⟨rfl, H5.out⟩

set_option maxRecDepth 100000 in
set_option maxHeartbeats 1000000 in
theorem fields3 (w : World) (g : Nat) (fa fb : FuncId) (ca cb : Array Value) (hk : w.cell? ⟨g, 0, none⟩ = some (.int .i64 3)) (S : Nat → World → Prop) (h0 : S 0 w) (hs : Steps g fa fb ca cb S [.num 1 1]) :
    Calls Tryz.prog 51 #[.pointer (some ⟨g, 0, none⟩), .func (.func fa) #[] ca, .func (.func fb) #[] cb] w fun e w' => e = .returned (.bool true) ∧ S 1 w' := by
  have H0 := Lib.hid h0
  have HN := Lib.hid hs.num
  have HO := Lib.hid hs.old
  have HV := Lib.hid hs.new
  have ea := hs.ea
  have eb := hs.eb
  clear h0 hs
  go_enter Tryz.func51, Tryz.ntmps51
  go_wp2_with fail
  refine (HN.out 0 1 1 w rfl H0.out).mono ?_
  rintro e w1 ⟨rfl, h1⟩
  have H1 := Lib.hid h1
  clear h1 hk
  go_wp2
  go_ret
  exact ⟨rfl, H1.out⟩

set_option maxRecDepth 100000 in
set_option maxHeartbeats 1000000 in
theorem fields4 (w : World) (g : Nat) (fa fb : FuncId) (ca cb : Array Value) (hk : w.cell? ⟨g, 0, none⟩ = some (.int .i64 4)) (S : Nat → World → Prop) (h0 : S 0 w) (hs : Steps g fa fb ca cb S [.num 1 1]) :
    Calls Tryz.prog 51 #[.pointer (some ⟨g, 0, none⟩), .func (.func fa) #[] ca, .func (.func fb) #[] cb] w fun e w' => e = .returned (.bool true) ∧ S 1 w' := by
  have H0 := Lib.hid h0
  have HN := Lib.hid hs.num
  have HO := Lib.hid hs.old
  have HV := Lib.hid hs.new
  have ea := hs.ea
  have eb := hs.eb
  clear h0 hs
  go_enter Tryz.func51, Tryz.ntmps51
  go_wp2_with fail
  refine (HN.out 0 1 1 w rfl H0.out).mono ?_
  rintro e w1 ⟨rfl, h1⟩
  have H1 := Lib.hid h1
  clear h1 hk
  go_wp2
  go_ret
  exact ⟨rfl, H1.out⟩

set_option maxRecDepth 100000 in
set_option maxHeartbeats 1000000 in
theorem fields5 (w : World) (g : Nat) (fa fb : FuncId) (ca cb : Array Value) (hk : w.cell? ⟨g, 0, none⟩ = some (.int .i64 5)) (S : Nat → World → Prop) (h0 : S 0 w) (hs : Steps g fa fb ca cb S [.num 1 1]) :
    Calls Tryz.prog 51 #[.pointer (some ⟨g, 0, none⟩), .func (.func fa) #[] ca, .func (.func fb) #[] cb] w fun e w' => e = .returned (.bool true) ∧ S 1 w' := by
  have H0 := Lib.hid h0
  have HN := Lib.hid hs.num
  have HO := Lib.hid hs.old
  have HV := Lib.hid hs.new
  have ea := hs.ea
  have eb := hs.eb
  clear h0 hs
  go_enter Tryz.func51, Tryz.ntmps51
  go_wp2_with fail
  refine (HN.out 0 1 1 w rfl H0.out).mono ?_
  rintro e w1 ⟨rfl, h1⟩
  have H1 := Lib.hid h1
  clear h1 hk
  go_wp2
  go_ret
  exact ⟨rfl, H1.out⟩

set_option maxRecDepth 100000 in
set_option maxHeartbeats 1000000 in
theorem fields6 (w : World) (g : Nat) (fa fb : FuncId) (ca cb : Array Value) (hk : w.cell? ⟨g, 0, none⟩ = some (.int .i64 6)) (S : Nat → World → Prop) (h0 : S 0 w) (hs : Steps g fa fb ca cb S [.num 3 1, .num 5 1, .num 6 1, .num 9 4]) :
    Calls Tryz.prog 51 #[.pointer (some ⟨g, 0, none⟩), .func (.func fa) #[] ca, .func (.func fb) #[] cb] w fun e w' => e = .returned (.bool true) ∧ S 4 w' := by
  have H0 := Lib.hid h0
  have HN := Lib.hid hs.num
  have HO := Lib.hid hs.old
  have HV := Lib.hid hs.new
  have ea := hs.ea
  have eb := hs.eb
  clear h0 hs
  go_enter Tryz.func51, Tryz.ntmps51
  go_wp2_with fail
  refine (HN.out 0 3 1 w rfl H0.out).mono ?_
  rintro e w1 ⟨rfl, h1⟩
  have H1 := Lib.hid h1
  clear h1 hk
  go_wp2_with fail
  refine (HN.out 1 5 1 w1 rfl H1.out).mono ?_
  rintro e w2 ⟨rfl, h2⟩
  have H2 := Lib.hid h2
  clear h2
  go_wp2_with fail
  refine (HN.out 2 6 1 w2 rfl H2.out).mono ?_
  rintro e w3 ⟨rfl, h3⟩
  have H3 := Lib.hid h3
  clear h3
  go_wp2_with fail
  refine (HN.out 3 9 4 w3 rfl H3.out).mono ?_
  rintro e w4 ⟨rfl, h4⟩
  have H4 := Lib.hid h4
  clear h4
  go_wp2
  go_ret
  exact ⟨rfl, H4.out⟩

set_option maxRecDepth 100000 in
set_option maxHeartbeats 1000000 in
theorem fields10 (w : World) (g : Nat) (fa fb : FuncId) (ca cb : Array Value) (hk : w.cell? ⟨g, 0, none⟩ = some (.int .i64 10)) (S : Nat → World → Prop) (h0 : S 0 w) (hs : Steps g fa fb ca cb S [.num 3 1, .num 5 1, .num 6 1, .num 9 4]) :
    Calls Tryz.prog 51 #[.pointer (some ⟨g, 0, none⟩), .func (.func fa) #[] ca, .func (.func fb) #[] cb] w fun e w' => e = .returned (.bool true) ∧ S 4 w' := by
  have H0 := Lib.hid h0
  have HN := Lib.hid hs.num
  have HO := Lib.hid hs.old
  have HV := Lib.hid hs.new
  have ea := hs.ea
  have eb := hs.eb
  clear h0 hs
  go_enter Tryz.func51, Tryz.ntmps51
  go_wp2_with fail
  refine (HN.out 0 3 1 w rfl H0.out).mono ?_
  rintro e w1 ⟨rfl, h1⟩
  have H1 := Lib.hid h1
  clear h1 hk
  go_wp2_with fail
  refine (HN.out 1 5 1 w1 rfl H1.out).mono ?_
  rintro e w2 ⟨rfl, h2⟩
  have H2 := Lib.hid h2
  clear h2
  go_wp2_with fail
  refine (HN.out 2 6 1 w2 rfl H2.out).mono ?_
  rintro e w3 ⟨rfl, h3⟩
  have H3 := Lib.hid h3
  clear h3
  go_wp2_with fail
  refine (HN.out 3 9 4 w3 rfl H3.out).mono ?_
  rintro e w4 ⟨rfl, h4⟩
  have H4 := Lib.hid h4
  clear h4
  go_wp2
  go_ret
  exact ⟨rfl, H4.out⟩

set_option maxRecDepth 100000 in
set_option maxHeartbeats 1000000 in
theorem fields7 (w : World) (g : Nat) (fa fb : FuncId) (ca cb : Array Value) (hk : w.cell? ⟨g, 0, none⟩ = some (.int .i64 7)) (S : Nat → World → Prop) (h0 : S 0 w) (hs : Steps g fa fb ca cb S []) :
    Calls Tryz.prog 51 #[.pointer (some ⟨g, 0, none⟩), .func (.func fa) #[] ca, .func (.func fb) #[] cb] w fun e w' => e = .returned (.bool true) ∧ S 0 w' := by
  have H0 := Lib.hid h0
  have HN := Lib.hid hs.num
  have HO := Lib.hid hs.old
  have HV := Lib.hid hs.new
  have ea := hs.ea
  have eb := hs.eb
  clear h0 hs
  go_enter Tryz.func51, Tryz.ntmps51
  go_wp2
  go_ret
  exact ⟨rfl, H0.out⟩

set_option maxRecDepth 100000 in
set_option maxHeartbeats 1000000 in
theorem fields8 (w : World) (g : Nat) (fa fb : FuncId) (ca cb : Array Value) (hk : w.cell? ⟨g, 0, none⟩ = some (.int .i64 8)) (S : Nat → World → Prop) (h0 : S 0 w) (hs : Steps g fa fb ca cb S [.num 1 1, .num 2 1, .num 7 4, .num 8 4]) :
    Calls Tryz.prog 51 #[.pointer (some ⟨g, 0, none⟩), .func (.func fa) #[] ca, .func (.func fb) #[] cb] w fun e w' => e = .returned (.bool true) ∧ S 4 w' := by
  have H0 := Lib.hid h0
  have HN := Lib.hid hs.num
  have HO := Lib.hid hs.old
  have HV := Lib.hid hs.new
  have ea := hs.ea
  have eb := hs.eb
  clear h0 hs
  go_enter Tryz.func51, Tryz.ntmps51
  go_wp2_with fail
  refine (HN.out 0 1 1 w rfl H0.out).mono ?_
  rintro e w1 ⟨rfl, h1⟩
  have H1 := Lib.hid h1
  clear h1 hk
  go_wp2_with fail
  refine (HN.out 1 2 1 w1 rfl H1.out).mono ?_
  rintro e w2 ⟨rfl, h2⟩
  have H2 := Lib.hid h2
  clear h2
  go_wp2_with fail
  refine (HN.out 2 7 4 w2 rfl H2.out).mono ?_
  rintro e w3 ⟨rfl, h3⟩
  have H3 := Lib.hid h3
  clear h3
  go_wp2_with fail
  refine (HN.out 3 8 4 w3 rfl H3.out).mono ?_
  rintro e w4 ⟨rfl, h4⟩
  have H4 := Lib.hid h4
  clear h4
  go_wp2
  go_ret
  exact ⟨rfl, H4.out⟩

set_option maxRecDepth 100000 in
set_option maxHeartbeats 1000000 in
theorem fields9 (w : World) (g : Nat) (fa fb : FuncId) (ca cb : Array Value) (hk : w.cell? ⟨g, 0, none⟩ = some (.int .i64 9)) (S : Nat → World → Prop) (h0 : S 0 w) (hs : Steps g fa fb ca cb S [.num 3 1, .num 9 4]) :
    Calls Tryz.prog 51 #[.pointer (some ⟨g, 0, none⟩), .func (.func fa) #[] ca, .func (.func fb) #[] cb] w fun e w' => e = .returned (.bool true) ∧ S 2 w' := by
  have H0 := Lib.hid h0
  have HN := Lib.hid hs.num
  have HO := Lib.hid hs.old
  have HV := Lib.hid hs.new
  have ea := hs.ea
  have eb := hs.eb
  clear h0 hs
  go_enter Tryz.func51, Tryz.ntmps51
  go_wp2_with fail
  refine (HN.out 0 3 1 w rfl H0.out).mono ?_
  rintro e w1 ⟨rfl, h1⟩
  have H1 := Lib.hid h1
  clear h1 hk
  go_wp2_with fail
  refine (HN.out 1 9 4 w1 rfl H1.out).mono ?_
  rintro e w2 ⟨rfl, h2⟩
  have H2 := Lib.hid h2
  clear h2
  go_wp2
  go_ret
  exact ⟨rfl, H2.out⟩

set_option maxRecDepth 100000 in
set_option maxHeartbeats 1000000 in
theorem fields11 (w : World) (g : Nat) (fa fb : FuncId) (ca cb : Array Value) (hk : w.cell? ⟨g, 0, none⟩ = some (.int .i64 11)) (S : Nat → World → Prop) (h0 : S 0 w) (hs : Steps g fa fb ca cb S [.num 9 4]) :
    Calls Tryz.prog 51 #[.pointer (some ⟨g, 0, none⟩), .func (.func fa) #[] ca, .func (.func fb) #[] cb] w fun e w' => e = .returned (.bool true) ∧ S 1 w' := by
  have H0 := Lib.hid h0
  have HN := Lib.hid hs.num
  have HO := Lib.hid hs.old
  have HV := Lib.hid hs.new
  have ea := hs.ea
  have eb := hs.eb
  clear h0 hs
  go_enter Tryz.func51, Tryz.ntmps51
  go_wp2_with fail
  refine (HN.out 0 9 4 w rfl H0.out).mono ?_
  rintro e w1 ⟨rfl, h1⟩
  have H1 := Lib.hid h1
  clear h1 hk
  go_wp2
  go_ret
  exact ⟨rfl, H1.out⟩

theorem fields_ok (w : World) (g : Nat) (fa fb : FuncId) (ca cb : Array Value) (k : Int) (hk : w.cell? ⟨g, 0, none⟩ = some (.int .i64 k)) (S : Nat → World → Prop) (fl : List Fld) (hfl : fieldsOf k = some fl) (h0 : S 0 w) (hs : Steps g fa fb ca cb S fl) :
    Calls Tryz.prog 51 #[.pointer (some ⟨g, 0, none⟩), .func (.func fa) #[] ca, .func (.func fb) #[] cb] w fun e w' => e = .returned (.bool true) ∧ S fl.length w' := by
  unfold fieldsOf at hfl
  split at hfl
  · subst k; injection hfl with hfl; subst hfl; exact fields1 w g fa fb ca cb hk S h0 hs
  split at hfl
  · subst k; injection hfl with hfl; subst hfl; exact fields2 w g fa fb ca cb hk S h0 hs
  split at hfl
  · rename_i h; injection hfl with hfl; subst hfl
    rcases h with rfl | rfl | rfl
    · exact fields3 w g fa fb ca cb hk S h0 hs
    · exact fields4 w g fa fb ca cb hk S h0 hs
    · exact fields5 w g fa fb ca cb hk S h0 hs
  split at hfl
  · rename_i h; injection hfl with hfl; subst hfl
    rcases h with rfl | rfl
    · exact fields6 w g fa fb ca cb hk S h0 hs
    · exact fields10 w g fa fb ca cb hk S h0 hs
  split at hfl
  · subst k; injection hfl with hfl; subst hfl; exact fields7 w g fa fb ca cb hk S h0 hs
  split at hfl
  · subst k; injection hfl with hfl; subst hfl; exact fields8 w g fa fb ca cb hk S h0 hs
  split at hfl
  · subst k; injection hfl with hfl; subst hfl; exact fields9 w g fa fb ca cb hk S h0 hs
  split at hfl
  · subst k; injection hfl with hfl; subst hfl; exact fields11 w g fa fb ca cb hk S h0 hs
  · cases hfl

theorem noKind {k : Int} (h : fieldsOf k = none) : (k == 1) = false ∧ (k == 2) = false ∧ (k == 3) = false ∧ (k == 4) = false ∧ (k == 5) = false ∧ (k == 6) = false ∧ (k == 7) = false ∧ (k == 8) = false ∧ (k == 9) = false ∧ (k == 10) = false ∧ (k == 11) = false := by
  unfold fieldsOf at h
  simp only [beq_eq_false_iff_ne]
  repeat (split at h; (first | (exact absurd h (by simp)) | skip))
  refine ⟨?_, ?_, ?_, ?_, ?_, ?_, ?_, ?_, ?_, ?_, ?_⟩ <;> omega
set_option maxRecDepth 100000 in
set_option maxHeartbeats 1000000 in
theorem fields_no (w : World) (g : Nat) (k : Int) (hk : w.cell? ⟨g, 0, none⟩ = some (.int .i64 k)) (hfl : fieldsOf k = none) (fa fb : FuncId) (ca cb : Array Value) :
    Calls Tryz.prog 51 #[.pointer (some ⟨g, 0, none⟩), .func (.func fa) #[] ca, .func (.func fb) #[] cb] w fun e w' => e = .returned (.bool false) ∧ w = w' := by
  obtain ⟨k1, k2, k3, k4, k5, k6, k7, k8, k9, k10, k11⟩ := noKind hfl
  clear hfl
  go_enter Tryz.func51, Tryz.ntmps51
  go_wp2
  go_ret
  exact ⟨rfl, rfl⟩
end Go.Proofs.YtnbamljaiahmdaaGreat
