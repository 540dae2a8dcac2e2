/-
  Masters by value; bytes.Equal of two slices that are not empty; master.within, May, at; bobbinref09.May.
-/
import Derived.Test.YtkigpicjhklioaaQA
import Derived.Test.YtkigpicjhklioaaQB
import Derived.Laws.BytesArg
import Derived.BigQuiet
namespace Go.Proofs.Ytkigpicjhklioaa
open Go Go.RowKit

/-- A master. -/
structure Ms where
  no : Int
  ep : Int
  st : Int
  ck : Int
/-- May it be? -/
def okNo (m : Ms) : Bool := decide (1 ≤ m.no) && decide (m.no ≤ 4294967295)
def okEp (m : Ms) : Bool := decide (1 ≤ m.ep) && decide (m.ep ≤ 255)
def okSt (m : Ms) : Bool := decide (0 ≤ m.st) && decide (m.st ≤ 16777215)
def okCk (m : Ms) : Bool := decide (0 ≤ m.ck) && decide (m.ck ≤ 4294967295)
def mayM (m : Ms) : Bool := okNo m && okEp m && okSt m && okCk m
structure Ms.May (m : Ms) : Prop where
  n1 : 1 ≤ m.no
  n2 : m.no ≤ 4294967295
  e1 : 1 ≤ m.ep
  e2 : m.ep ≤ 255
  s1 : 0 ≤ m.st
  s2 : m.st ≤ 16777215
  c1 : 0 ≤ m.ck
  c2 : m.ck ≤ 4294967295
theorem mayM_iff (m : Ms) : mayM m = true ↔ m.May := by
  simp only [mayM, okNo, okEp, okSt, okCk, Bool.and_eq_true, decide_eq_true_eq]
  exact ⟨fun h => ⟨h.1.1.1.1, h.1.1.1.2, h.1.1.2.1, h.1.1.2.2, h.1.2.1, h.1.2.2, h.2.1, h.2.2⟩, fun h => ⟨⟨⟨⟨h.1, h.2⟩, h.3, h.4⟩, h.5, h.6⟩, h.7, h.8⟩⟩

/-- The string of some bytes. -/
def strB (xs : List UInt8) : ByteArray := ⟨xs.toArray⟩
theorem strB_eq (xs ys : List UInt8) : ((strB xs).toList == (strB ys).toList) = eqB xs ys := by
  have e : ∀ zs : List UInt8, (strB zs).toList = zs := fun zs => by rw [ByteArray.toList_eq]; rfl
  rw [e, e]
  by_cases h : xs = ys
  · subst h; simp [eqB]
  · rw [beq_eq_false_iff_ne.2 h, eqB, decide_eq_false h]
set_option maxRecDepth 100000 in
theorem conv_ok (w : World) (A : Option Addr) (n c : Nat) (xs : List UInt8) (h : Sl w A n c xs) (hn : 0 < n) :
    (convert 32 9 (.slice A n c)).run Try.prog w = .ok (.string (strB xs)) w := by
  obtain ⟨b, o, rfl, hcell⟩ := h.2.2 hn
  have hk := run_convert_bytes_arg (P := Try.prog) w 32 5 rfl rfl b o n c (xs.map fun x => (x.toNat : Int)) (by simp [h.len]) (fun i hi => by
    rw [hcell i hi]
    have hx : i < xs.length := by rw [h.len]; exact hi
    simp [bv, List.getD_eq_getElem?_getD, List.getElem?_eq_getElem hx]) 9 rfl
  rw [hk]
  have e : strOfNums (xs.map fun x => (x.toNat : Int)) = strB xs := by
    have e0 : (xs.map fun x => (x.toNat : Int)).map (fun n => UInt8.ofNat n.toNat) = xs := by
      rw [List.map_map]
      conv => rhs; rw [← List.map_id xs]
      exact List.map_congr_left (fun x _ => by simp)
    rw [strOfNums, e0]
    rfl
  rw [e]

set_option maxRecDepth 100000 in
theorem equal_ok (w : World) (A B : Option Addr) (n m c d : Nat) (xs ys : List UInt8) (hx : Sl w A n c xs) (hy : Sl w B m d ys) (hn : 0 < n) (hm : 0 < m) :
    Calls Try.prog 51 #[.slice A n c, .slice B m d] w fun e w' => e = .returned (.bool (eqB xs ys)) ∧ w = w' := by
  have h1 := conv_ok w A n c xs hx hn
  have h2 := conv_ok w B m d ys hy hm
  have H3 := Lib.hid (strB_eq xs ys)
  go_enter Try.func51, Try.ntmps51
  go_wp2
  go_ret
  exact ⟨by rw [← H3.out]; rfl, rfl⟩

set_option maxRecDepth 100000 in
theorem within_ok (w : World) (n l u : Int) (b : Bool) (hb : b = (decide (l ≤ n) && decide (n ≤ u))) :
    Calls Try.prog 30 #[.int .i64 n, .int .i64 l, .int .i64 u] w fun e w' => e = .returned (.bool b) ∧ w = w' := by
  subst hb
  by_cases h1 : l ≤ n
  · go_enter Try.func30, Try.ntmps30
    go_wp2
    go_ret
    exact ⟨by simp [h1], rfl⟩
  · have hd : decide (l ≤ n) = false := by simpa using h1
    go_enter Try.func30, Try.ntmps30
    go_wp2
    go_ret
    exact ⟨by simp, rfl⟩

theorem okNo_eq (m : Ms) : okNo m = (decide (1 ≤ m.no) && decide (m.no ≤ 4294967295)) := rfl
theorem okEp_eq (m : Ms) : okEp m = (decide (1 ≤ m.ep) && decide (m.ep ≤ 255)) := rfl
theorem okSt_eq (m : Ms) : okSt m = (decide (0 ≤ m.st) && decide (m.st ≤ 16777215)) := rfl
theorem okCk_eq (m : Ms) : okCk m = (decide (0 ≤ m.ck) && decide (m.ck ≤ 4294967295)) := rfl

set_option maxRecDepth 100000 in
set_option maxHeartbeats 1600000 in
theorem may_ok (w : World) (m : Ms) :
    Calls Try.prog 13 #[.agg #[.int .i64 m.no, .int .i64 m.ep, .int .i64 m.st, .int .i64 m.ck]] w fun e w' => e = .returned (.bool (mayM m)) ∧ Mod (fun _ => False) w w' := by
  have W1 := Lib.hid (fun w' => within_ok w' m.no 1 4294967295 _ (okNo_eq m))
  have W2 := Lib.hid (fun w' => within_ok w' m.ep 1 255 _ (okEp_eq m))
  have W3 := Lib.hid (fun w' => within_ok w' m.st 0 16777215 _ (okSt_eq m))
  have W4 := Lib.hid (fun w' => within_ok w' m.ck 0 4294967295 _ (okCk_eq m))
  have HM : Hid (Mod (fun _ => False) w (w.alloc (.cells #[.int .i64 m.no, .int .i64 m.ep, .int .i64 m.st, .int .i64 m.ck] 23))) := (Mod.refl _ w).alloc _
  have He : mayM m = (okNo m && okEp m && okSt m && okCk m) := rfl
  rw [He]
  clear He
  generalize okNo m = b1 at *
  generalize okEp m = b2 at *
  generalize okSt m = b3 at *
  generalize okCk m = b4 at *
  rcases b1 with _ | _
  · go_enter Try.func13, Try.ntmps13
    go_wp2_with fail
    refine (W1.out _).mono ?_
    rintro e w' ⟨rfl, rfl⟩
    go_wp2
    go_ret
    exact ⟨rfl, HM.out⟩
  rcases b2 with _ | _
  · go_enter Try.func13, Try.ntmps13
    go_wp2_with fail
    refine (W1.out _).mono ?_
    rintro e w' ⟨rfl, rfl⟩
    go_wp2_with fail
    refine (W2.out _).mono ?_
    rintro e w' ⟨rfl, rfl⟩
    go_wp2
    go_ret
    exact ⟨rfl, HM.out⟩
  rcases b3 with _ | _
  · go_enter Try.func13, Try.ntmps13
    go_wp2_with fail
    refine (W1.out _).mono ?_
    rintro e w' ⟨rfl, rfl⟩
    go_wp2_with fail
    refine (W2.out _).mono ?_
    rintro e w' ⟨rfl, rfl⟩
    go_wp2_with fail
    refine (W3.out _).mono ?_
    rintro e w' ⟨rfl, rfl⟩
    go_wp2
    go_ret
    exact ⟨rfl, HM.out⟩
  rcases b4 with _ | _
  · go_enter Try.func13, Try.ntmps13
    go_wp2_with fail
    refine (W1.out _).mono ?_
    rintro e w' ⟨rfl, rfl⟩
    go_wp2_with fail
    refine (W2.out _).mono ?_
    rintro e w' ⟨rfl, rfl⟩
    go_wp2_with fail
    refine (W3.out _).mono ?_
    rintro e w' ⟨rfl, rfl⟩
    go_wp2_with fail
    refine (W4.out _).mono ?_
    rintro e w' ⟨rfl, rfl⟩
    go_wp2
    go_ret
    exact ⟨rfl, HM.out⟩
  go_enter Try.func13, Try.ntmps13
  go_wp2_with fail
  refine (W1.out _).mono ?_
  rintro e w' ⟨rfl, rfl⟩
  go_wp2_with fail
  refine (W2.out _).mono ?_
  rintro e w' ⟨rfl, rfl⟩
  go_wp2_with fail
  refine (W3.out _).mono ?_
  rintro e w' ⟨rfl, rfl⟩
  go_wp2_with fail
  refine (W4.out _).mono ?_
  rintro e w' ⟨rfl, rfl⟩
  go_wp2
  go_ret
  exact ⟨rfl, HM.out⟩

set_option maxRecDepth 100000 in
set_option maxHeartbeats 1600000 in
theorem refMay_ok (w : World) (m : Ms) :
    Calls Try.prog 12 #[.agg #[.int .i64 m.no, .int .i64 m.ep, .int .i64 m.st, .int .i64 m.ck]] w fun e w' => e = .returned (.bool (mayM m)) ∧ Mod (fun _ => False) w w' := by
  have HM : Hid (Mod (fun _ => False) w (w.alloc (.cells #[.int .i64 m.no, .int .i64 m.ep, .int .i64 m.st, .int .i64 m.ck] 23))) := (Mod.refl _ w).alloc _
  have He : mayM m = (decide (1 ≤ m.no) && decide (m.no ≤ 4294967295) && (decide (1 ≤ m.ep) && decide (m.ep ≤ 255)) && (decide (0 ≤ m.st) && decide (m.st ≤ 16777215)) && (decide (0 ≤ m.ck) && decide (m.ck ≤ 4294967295))) := rfl
  rw [He]
  clear He
  rcases hb1 : decide (1 ≤ m.no) with _ | _
  rotate_left
  rcases hb2 : decide (m.no ≤ 4294967295) with _ | _
  rotate_left
  rcases hb3 : decide (1 ≤ m.ep) with _ | _
  rotate_left
  rcases hb4 : decide (m.ep ≤ 255) with _ | _
  rotate_left
  rcases hb5 : decide (0 ≤ m.st) with _ | _
  rotate_left
  rcases hb6 : decide (m.st ≤ 16777215) with _ | _
  rotate_left
  rcases hb7 : decide (0 ≤ m.ck) with _ | _
  rotate_left
  rcases hb8 : decide (m.ck ≤ 4294967295) with _ | _
  all_goals
    go_enter Try.func12, Try.ntmps12
    go_wp2
    go_ret
    exact ⟨rfl, HM.out⟩

set_option maxRecDepth 100000 in
theorem at_ok (w : World) (m : Ms) (h0 : 0 ≤ m.no) :
    Calls Try.prog 27 #[.agg #[.int .i64 m.no, .int .i64 m.ep, .int .i64 m.st, .int .i64 m.ck]] w fun e w' => e = .returned (.int .i64 (m.no % 2)) ∧ Mod (fun _ => False) w w' := by
  have HM : Hid (Mod (fun _ => False) w (w.alloc (.cells #[.int .i64 m.no, .int .i64 m.ep, .int .i64 m.st, .int .i64 m.ck] 23))) := (Mod.refl _ w).alloc _
  go_enter Try.func27, Try.ntmps27
  go_wp2
  go_ret
  exact ⟨rfl, HM.out⟩
end Go.Proofs.Ytkigpicjhklioaa
