/-
  The law's comparison, and the document's own answers (bobbinref04).
-/
import Derived.Test.YtallokaboldflaaTold
namespace Go.Proofs.Ytallokaboldflaa
open Go Go.RowKit

theorem bytes_eq {a b : ByteArray} (h : a.toList = b.toList) : a = b := by
  have h1 : ∀ x : ByteArray, x.toList = x.data.toList := fun x => Go.ByteArray.toList_eq x
  rw [h1, h1] at h
  cases a; cases b
  simp at h
  rw [h]

def eqP (xs ys : List Pr) : Bool := decide (xs = ys)
theorem eqP_ne {xs ys : List Pr} (h : xs.length ≠ ys.length) : eqP xs ys = false := by
  unfold eqP; rw [decide_eq_false_iff_not]; rintro rfl; exact h rfl
theorem eqP_self (xs : List Pr) : eqP xs xs = true := by simp [eqP]
theorem eqP_at {xs ys : List Pr} {j : Nat} {x y : Pr} (hx : xs[j]? = some x) (hy : ys[j]? = some y) (h : x ≠ y) : eqP xs ys = false := by
  unfold eqP; rw [decide_eq_false_iff_not]; rintro rfl
  rw [hx] at hy
  injection hy with hy
  exact h hy

set_option maxRecDepth 100000 in
set_option maxHeartbeats 1000000 in
theorem same_ok (w : World) (A B : Option Addr) (n m c d : Nat) (xs ys : List Pr) (h : Pl w A n c xs) (k : Pl w B m d ys) (hc : n ≤ 100000) (hd : m ≤ 100000) :
    Calls Try.prog 17 #[.slice A n c, .slice B m d] w fun e w' => e = .returned (.bool (eqP xs ys)) ∧ ∃ q, w' = w.drewN q := by
  have h1 := h.len
  have k1 := k.len
  by_cases hne : n = m
  · subst hne
    have H1 := Lib.hid h1
    have K1 := Lib.hid k1
    have H := Lib.hid h
    have K := Lib.hid k
    clear h1 k1 h k
    go_enter Try.func17, Try.ntmps17
    go_wp2
    go_loopw [5] (fun i wr => ∃ j q : Nat, j ≤ n ∧ i = .int .i64 j ∧ wr = w.drewN q ∧ xs.take j = ys.take j) (fun i _ => n - (intOf i).toNat)
    case atStart => exact ⟨0, 0, by omega, rfl, rfl, rfl⟩
    case round =>
      obtain ⟨j, q, hj, rfl, rfl, heq⟩ := hrel
      have Heq := Lib.hid heq
      clear heq
      by_cases hlt : j < n
      · obtain ⟨x, hx⟩ : ∃ x, xs[j]? = some x := ⟨_, List.getElem?_eq_getElem (by rw [H1.out]; omega)⟩
        obtain ⟨y, hy⟩ : ∃ y, ys[j]? = some y := ⟨_, List.getElem?_eq_getElem (by rw [K1.out]; omega)⟩
        obtain ⟨b, o, rfl, hcx⟩ := H.out.2.2 (by omega)
        obtain ⟨b', o', rfl, hcy⟩ := K.out.2.2 (by omega)
        obtain ⟨x0, x1⟩ := hcx j x hx
        obtain ⟨y0, y1⟩ := hcy j y hy
        obtain ⟨xk, xv⟩ := x
        obtain ⟨yk, yv⟩ := y
        simp only at x0 x1 y0 y1
        clear hcx hcy
        by_cases hxy : (xk, xv) = (yk, yv)
        · obtain ⟨rfl, rfl⟩ : xk = yk ∧ xv = yv := by simpa using hxy
          have Hs : Hid (xs.take (j + 1) = ys.take (j + 1)) := by
            obtain ⟨hx1, hx2⟩ := List.getElem?_eq_some_iff.1 hx
            obtain ⟨hy1, hy2⟩ := List.getElem?_eq_some_iff.1 hy
            show _ = _
            rw [List.take_succ_eq_append_getElem hx1, List.take_succ_eq_append_getElem hy1, Heq.out, hx2, hy2]
          have hb1 : (xk != xk) = false := by simp
          have hb2 : (xv.toList == xv.toList) = true := by simp
          clear hxy hx hy
          go_wp2
          go_quiet (fail)
          go_wp2
          go_roundw
          case rel => exact ⟨j + 1, _, by omega, by go_num, rfl, Hs.out⟩
          case measure => simp [intOf]; omega
        · have Hs := Lib.hid (eqP_at hx hy hxy)
          by_cases hk : xk = yk
          · subst hk
            have hv : xv ≠ yv := fun e => hxy (by rw [e])
            have hb1 : (xk != xk) = false := by simp
            have hb2 : (xv.toList == yv.toList) = false := by rw [beq_eq_false_iff_ne]; exact fun e => hv (bytes_eq e)
            clear hxy hx hy hv
            go_wp2
            go_quiet (fail)
            go_wp2
            go_ret
            exact ⟨by rw [Hs.out]; rfl, _, World.drewN_drewN _ _ _⟩
          · have hb1 : (xk != yk) = true := by simpa using hk
            clear hxy hx hy hk
            go_wp2
            go_quiet (fail)
            go_wp2
            go_ret
            exact ⟨by rw [Hs.out]; rfl, _, World.drewN_drewN _ _ _⟩
      · obtain rfl : j = n := by omega
        have e : eqP xs ys = true := by
          unfold eqP
          have := Heq.out
          rw [List.take_of_length_le (by rw [H1.out]; omega), List.take_of_length_le (by rw [K1.out]; omega)] at this
          simpa using this
        have He := Lib.hid e
        clear e
        go_wp2
        go_ret
        exact ⟨by rw [He.out]; rfl, _, rfl⟩
  · have hne' : ((n : Int) != (m : Int)) = true := by rw [bne_iff_ne]; omega
    have Hs := Lib.hid (eqP_ne (xs := xs) (ys := ys) (by rw [h1, k1]; exact hne))
    clear h1 k1 h k
    go_enter Try.func17, Try.ntmps17
    go_wp2
    go_ret
    exact ⟨by rw [Hs.out]; rfl, 0, rfl⟩

theorem find_take {l : List Pr} {k : Int} {j : Nat} {x : Pr} (h : ∀ (i : Nat) (y : Pr), i < j → l[i]? = some y → y.1 ≠ k) (hx : l[j]? = some x) (hk : x.1 = k) : l.find? (fun y => y.1 == k) = some x := by
  induction l generalizing j with
  | nil => simp at hx
  | cons z l ih =>
    cases j with
    | zero => simp at hx; subst hx; simp [hk]
    | succ j =>
      have hz := h 0 z (by omega) rfl
      rw [List.find?_cons]
      have : (z.1 == k) = false := by simpa using hz
      rw [this]
      exact ih (j := j) (fun i y hi hy => h (i + 1) y (by omega) (by simpa using hy)) (by simpa using hx)

set_option maxRecDepth 100000 in
theorem refGet_ok (w : World) (A : Option Addr) (n c : Nat) (l : List Pr) (h : Pl w A n c l) (hs : Srt l) (hn : n ≤ 100000) (k : Int) :
    Calls Try.prog 9 #[.slice A n c, .int .i64 k] w fun e w' => e = .returned (gotV (mGet k l)) ∧ w' = w := by
  have H := Lib.hid h
  have Hl := Lib.hid h.len
  have Hs := Lib.hid (mGet_find (k := k) hs)
  clear h hs
  go_enter Try.func9, Try.ntmps9
  go_wp2
  go_loopw [6] (fun i wr => ∃ j : Nat, j ≤ n ∧ i = .int .i64 j ∧ wr = w ∧ (∀ (i : Nat) (y : Pr), i < j → l[i]? = some y → y.1 ≠ k)) (fun i _ => n - (intOf i).toNat)
  case atStart => exact ⟨0, by omega, rfl, rfl, fun i y hi => by omega⟩
  case round =>
    obtain ⟨j, hj, rfl, rfl, hno⟩ := hrel
    have Hno := Lib.hid hno
    clear hno
    by_cases hlt : j < n
    · obtain ⟨x, hx⟩ : ∃ x, l[j]? = some x := ⟨_, List.getElem?_eq_getElem (by rw [Hl.out]; omega)⟩
      obtain ⟨b, o, rfl, hc⟩ := H.out.2.2 (by omega)
      obtain ⟨c0, c1⟩ := hc j x hx
      have Hx := Lib.hid hx
      clear hc hx
      by_cases hk : x.1 = k
      · have hb : (x.1 == k) = true := by simpa using hk
        have Hg : Hid (mGet k l = some x.2) := by
          show _ = _
          rw [← Hs.out, find_take Hno.out Hx.out hk]
          rfl
        clear hk
        go_wp2
        go_ret2
        exact ⟨by rw [Hg.out]; rfl, rfl⟩
      · have hb : (x.1 == k) = false := by simpa using hk
        have Hno2 : Hid (∀ (i : Nat) (y : Pr), i < j + 1 → l[i]? = some y → y.1 ≠ k) := fun i y hi hy => by
          rcases Nat.lt_or_ge i j with e | e
          · exact Hno.out i y e hy
          · obtain rfl : i = j := by omega
            have := Hx.out
            rw [hy] at this
            injection this with this
            rw [this]; exact hk
        clear hk
        go_wp2
        go_roundw
        case rel => exact ⟨j + 1, by omega, by go_num, by simp, Hno2.out⟩
        case measure => simp [intOf]; omega
    · obtain rfl : j = n := by omega
      have Hg : Hid (mGet k l = none) := by
        show _ = _
        rw [← Hs.out, List.find?_eq_none.2]
        · rfl
        · intro x hx
          obtain ⟨i, hi⟩ := List.getElem?_of_mem hx
          have hil := (List.getElem?_eq_some_iff.1 hi).1
          have := Hno.out i x (by have := Hl.out; omega) hi
          simpa using this
      go_wp2
      go_ret2
      exact ⟨by rw [Hg.out]; rfl, rfl⟩

/-- A row that is being made. -/
def Made (w W : World) (out : Value) (l : List Pr) : Prop := ∃ A c, out = .slice A l.length c ∧ OwN W w.heap.size 45 2 A l.length c (prs l) ∧ Mod (fun _ => False) w W
theorem Made.step {w W W1 : World} {l : List Pr} {A A' : Option Addr} {c' : Nat} {x : Pr} {c n : Nat} (hn : l.length = n) (h2 : OwN W w.heap.size 45 2 A n c (prs l)) (hm : Mod (fun _ => False) w W)
    (hown : OwN W1 w.heap.size 45 2 A' (n + 1) c' (prs l ++ [.int .i64 x.1, .string x.2])) (hg : (W.alloc (.cells #[.int .i64 x.1, .string x.2] 45)).grownBy W1 (blkOf A)) : Made w W1 (.slice A' (n + 1) c') (l ++ [x]) := by
  refine ⟨A', c', by rw [List.length_append, List.length_singleton, hn], by rw [List.length_append, List.length_singleton, prs_append, hn]; exact hown, ?_⟩
  refine (hm.alloc _).grown hg (fun k e hk => ?_)
  have := (h2.lt k e).1
  omega
theorem Made.new {w W : World} {A : Option Addr} {n c : Nat} {l : List Pr} (h : Made w W (.slice A n c) l) : NewPl w W (.returned (.slice A n c)) l := by
  obtain ⟨A', c', e, h2, hm⟩ := h
  injection e with e1 e2 e3
  subst e1 e2 e3
  exact ⟨_, _, _, rfl, h2.pl, fun k hk => (h2.lt k hk).1, hm⟩

theorem filter_take_succ {p : Pr → Bool} {l : List Pr} {j : Nat} {x : Pr} (hx : l[j]? = some x) : (l.take (j + 1)).filter p = (l.take j).filter p ++ (if p x = true then [x] else []) := by
  obtain ⟨hj, e⟩ := List.getElem?_eq_some_iff.1 hx
  rw [List.take_succ_eq_append_getElem hj, List.filter_append, e, List.filter_cons, List.filter_nil]

set_option maxRecDepth 100000 in
set_option maxHeartbeats 1000000 in
theorem refDel_ok (w : World) (A : Option Addr) (n c : Nat) (l : List Pr) (h : Pl w A n c l) (hs : Srt l) (hn : n ≤ 100000) (k : Int) :
    Calls Try.prog 11 #[.slice A n c, .int .i64 k] w fun e w' => NewPl w w' e (mDel k l) := by
  have H := Lib.hid h
  have Hl := Lib.hid h.len
  have Hs := Lib.hid (mDel_filter (k := k) hs)
  clear h hs
  go_enter Try.func11, Try.ntmps11
  go_wp2
  go_loopw [5, 6] (fun out i wr => ∃ j : Nat, j ≤ n ∧ i = .int .i64 j ∧ Made w wr out ((l.take j).filter (fun y => decide (y.1 ≠ k)))) (fun _ i _ => n - (intOf i).toNat)
  case atStart => exact ⟨0, by omega, rfl, none, 0, rfl, OwN.nil _ _ _ _, Mod.refl _ _⟩
  case round =>
    obtain ⟨j, hj, rfl, A1, c1, rfl, hown, hm⟩ := hrel
    have hfl : ((l.take j).filter (fun y => decide (y.1 ≠ k))).length ≤ j := Nat.le_trans (List.length_filter_le _ _) (by rw [List.length_take]; omega)
    obtain ⟨q, hq⟩ : ∃ q, ((l.take j).filter (fun y => decide (y.1 ≠ k))).length = q := ⟨_, rfl⟩
    rw [hq] at hown hfl ⊢
    have Hq := Lib.hid hq
    have Hown := Lib.hid hown
    have Hm := Lib.hid hm
    clear hown hm hq
    by_cases hlt : j < n
    · obtain ⟨x, hx⟩ : ∃ x, l[j]? = some x := ⟨_, List.getElem?_eq_getElem (by rw [Hl.out]; omega)⟩
      obtain ⟨b, o, rfl, hc⟩ := (H.out.keep Hm.out).2.2 (by omega)
      obtain ⟨c0, c1'⟩ := hc j x hx
      have Hx := Lib.hid hx
      have Hsn := Lib.hid (filter_take_succ (p := (fun y => decide (y.1 ≠ k))) hx)
      have Hown2 := Lib.hid (Hown.out.alloc (.cells #[.int .i64 x.1, .string x.2] 45))
      have Hsrc : Hid (SrcN (wr.alloc (.cells #[.int .i64 x.1, .string x.2] 45)) (some ⟨wr.heap.size, 0, none⟩) 1 2 [.int .i64 x.1, .string x.2]) := SrcN.lit wr [.int .i64 x.1, .string x.2] 45 (by simp [Value.oneCell'])
      have Hlow := Lib.hid Hm.out.size
      clear hc hx
      by_cases hk : x.1 ≠ k
      · have hb : (x.1 != k) = true := by simpa using hk
        have Hmd : Hid (∀ A' c' W1, OwN W1 w.heap.size 45 2 A' (q + 1) c' (prs ((l.take j).filter (fun y => decide (y.1 ≠ k))) ++ [.int .i64 x.1, .string x.2]) → (wr.alloc (.cells #[.int .i64 x.1, .string x.2] 45)).grownBy W1 (blkOf A1) → Made w W1 (.slice A' (q + 1) c') ((l.take (j + 1)).filter (fun y => decide (y.1 ≠ k)))) := fun A' c' W1 h1 h2 => by
          rw [Hsn.out, if_pos (by simpa using hk)]
          exact Made.step Hq.out Hown.out Hm.out h1 h2
        clear hk
        go_wp2_with (at_builtin; refine wpList_appN (.tmp 20) (.tmp 25) pairElem rfl rfl rfl rfl Hown2.out Hsrc.out (by omega) (by unfold maxLen; omega) (by rw [World.size_alloc]; have := Hlow.out; omega) ?_; intro A' c' W1 h1 h2 h3; have Hmade := Lib.hid (Hmd.out A' c' W1 h1 h2); clear h1 h2 h3)
        go_roundw
        case rel => exact ⟨j + 1, by omega, by go_num, Hmade.out⟩
        case measure => simp [intOf]; omega
      · have hb : (x.1 != k) = false := by simpa using hk
        have Hmade : Hid (Made w wr (.slice A1 q c1) ((l.take (j + 1)).filter (fun y => decide (y.1 ≠ k)))) := by
          rw [Hsn.out, if_neg (by simpa using hk), List.append_nil]
          exact ⟨A1, c1, by rw [Hq.out], by rw [Hq.out]; exact Hown.out, Hm.out⟩
        clear hk
        go_wp2
        go_roundw
        case rel => exact ⟨j + 1, by omega, by go_num, Hmade.out⟩
        case measure => simp [intOf]; omega
    · obtain rfl : j = n := by omega
      have Hmade : Hid (Made w wr (.slice A1 q c1) (mDel k l)) := by
        rw [← Hs.out]
        have e : l.take j = l := List.take_of_length_le (by rw [Hl.out]; omega)
        have hq := Hq.out
        have ho := Hown.out
        rw [e] at hq ho
        exact ⟨A1, c1, by rw [hq], by rw [hq]; exact ho, Hm.out⟩
      go_wp2
      go_ret
      exact Hmade.out.new

set_option maxRecDepth 100000 in
set_option maxHeartbeats 1000000 in
theorem refFrom_ok (w : World) (A : Option Addr) (n c : Nat) (l : List Pr) (h : Pl w A n c l) (hs : Srt l) (hn : n ≤ 100000) (k : Int) :
    Calls Try.prog 16 #[.slice A n c, .int .i64 k] w fun e w' => NewPl w w' e (mFrom k l) := by
  have H := Lib.hid h
  have Hl := Lib.hid h.len
  have Hs := Lib.hid (mFrom_filter (k := k) hs)
  clear h hs
  go_enter Try.func16, Try.ntmps16
  go_wp2
  go_loopw [5, 6] (fun out i wr => ∃ j : Nat, j ≤ n ∧ i = .int .i64 j ∧ Made w wr out ((l.take j).filter (fun y => decide (k ≤ y.1)))) (fun _ i _ => n - (intOf i).toNat)
  case atStart => exact ⟨0, by omega, rfl, none, 0, rfl, OwN.nil _ _ _ _, Mod.refl _ _⟩
  case round =>
    obtain ⟨j, hj, rfl, A1, c1, rfl, hown, hm⟩ := hrel
    have hfl : ((l.take j).filter (fun y => decide (k ≤ y.1))).length ≤ j := Nat.le_trans (List.length_filter_le _ _) (by rw [List.length_take]; omega)
    obtain ⟨q, hq⟩ : ∃ q, ((l.take j).filter (fun y => decide (k ≤ y.1))).length = q := ⟨_, rfl⟩
    rw [hq] at hown hfl ⊢
    have Hq := Lib.hid hq
    have Hown := Lib.hid hown
    have Hm := Lib.hid hm
    clear hown hm hq
    by_cases hlt : j < n
    · obtain ⟨x, hx⟩ : ∃ x, l[j]? = some x := ⟨_, List.getElem?_eq_getElem (by rw [Hl.out]; omega)⟩
      obtain ⟨b, o, rfl, hc⟩ := (H.out.keep Hm.out).2.2 (by omega)
      obtain ⟨c0, c1'⟩ := hc j x hx
      have Hx := Lib.hid hx
      have Hsn := Lib.hid (filter_take_succ (p := (fun y => decide (k ≤ y.1))) hx)
      have Hown2 := Lib.hid (Hown.out.alloc (.cells #[.int .i64 x.1, .string x.2] 45))
      have Hsrc : Hid (SrcN (wr.alloc (.cells #[.int .i64 x.1, .string x.2] 45)) (some ⟨wr.heap.size, 0, none⟩) 1 2 [.int .i64 x.1, .string x.2]) := SrcN.lit wr [.int .i64 x.1, .string x.2] 45 (by simp [Value.oneCell'])
      have Hlow := Lib.hid Hm.out.size
      clear hc hx
      by_cases hk : k ≤ x.1
      · have hb : decide (k ≤ x.1) = true := by simpa using hk
        have Hmd : Hid (∀ A' c' W1, OwN W1 w.heap.size 45 2 A' (q + 1) c' (prs ((l.take j).filter (fun y => decide (k ≤ y.1))) ++ [.int .i64 x.1, .string x.2]) → (wr.alloc (.cells #[.int .i64 x.1, .string x.2] 45)).grownBy W1 (blkOf A1) → Made w W1 (.slice A' (q + 1) c') ((l.take (j + 1)).filter (fun y => decide (k ≤ y.1)))) := fun A' c' W1 h1 h2 => by
          rw [Hsn.out, if_pos (by simpa using hk)]
          exact Made.step Hq.out Hown.out Hm.out h1 h2
        clear hk
        go_wp2_with (at_builtin; refine wpList_appN (.tmp 20) (.tmp 25) pairElem rfl rfl rfl rfl Hown2.out Hsrc.out (by omega) (by unfold maxLen; omega) (by rw [World.size_alloc]; have := Hlow.out; omega) ?_; intro A' c' W1 h1 h2 h3; have Hmade := Lib.hid (Hmd.out A' c' W1 h1 h2); clear h1 h2 h3)
        go_roundw
        case rel => exact ⟨j + 1, by omega, by go_num, Hmade.out⟩
        case measure => simp [intOf]; omega
      · have hb : decide (k ≤ x.1) = false := by simpa using hk
        have Hmade : Hid (Made w wr (.slice A1 q c1) ((l.take (j + 1)).filter (fun y => decide (k ≤ y.1)))) := by
          rw [Hsn.out, if_neg (by simpa using hk), List.append_nil]
          exact ⟨A1, c1, by rw [Hq.out], by rw [Hq.out]; exact Hown.out, Hm.out⟩
        clear hk
        go_wp2
        go_roundw
        case rel => exact ⟨j + 1, by omega, by go_num, Hmade.out⟩
        case measure => simp [intOf]; omega
    · obtain rfl : j = n := by omega
      have Hmade : Hid (Made w wr (.slice A1 q c1) (mFrom k l)) := by
        rw [← Hs.out]
        have e : l.take j = l := List.take_of_length_le (by rw [Hl.out]; omega)
        have hq := Hq.out
        have ho := Hown.out
        rw [e] at hq ho
        exact ⟨A1, c1, by rw [hq], by rw [hq]; exact ho, Hm.out⟩
      go_wp2
      go_ret
      exact Hmade.out.new

theorem setGo_len (k : Int) (v : ByteArray) : ∀ (l : List Pr) (d : Bool), (setGo k v d l).length ≤ l.length * 2 + 1
  | [], d => by cases d <;> simp [setGo]
  | x :: l, d => by
    have := setGo_len k v l (d || decide (k < x.1))
    simp only [setGo, List.length_append, List.length_cons]
    split <;> split <;> simp <;> omega

/-- What the document's Set has made, and what is left to do. -/
def Mid (w W : World) (out : Value) (k : Int) (v : ByteArray) (d : Bool) (rest whole : List Pr) : Prop := ∃ l, Made w W out l ∧ l ++ setGo k v d rest = setGo k v false whole ∧ l.length ≤ 2 * (whole.length - rest.length)

set_option maxRecDepth 100000 in
set_option maxHeartbeats 2000000 in
theorem refSet_ok (w : World) (A : Option Addr) (n c : Nat) (l : List Pr) (h : Pl w A n c l) (hs : Srt l) (hn : n ≤ 100000) (k : Int) (v : ByteArray) :
    Calls Try.prog 13 #[.slice A n c, .int .i64 k, .string v] w fun e w' => NewPl w w' e (mSet k v l) := by
  have H := Lib.hid h
  have Hl := Lib.hid h.len
  have Hs := Lib.hid (setGo_mSet (k := k) (v := v) hs)
  clear h hs
  go_enter Try.func13, Try.ntmps13
  go_wp2
  go_loopw [7, 8, 9] (fun out d i wr => ∃ (j : Nat) (b : Bool), j ≤ n ∧ i = .int .i64 j ∧ d = .bool b ∧ Mid w wr out k v b (l.drop j) l) (fun _ _ i _ => n - (intOf i).toNat)
  case atStart => exact ⟨0, false, by omega, rfl, rfl, [], ⟨none, 0, rfl, OwN.nil _ _ _ _, Mod.refl _ _⟩, rfl, by simp⟩
  case round =>
    obtain ⟨j, d, hj, rfl, rfl, pre, ⟨A1, c1, rfl, hown, hm⟩, heq, hlen⟩ := hrel
    rw [List.length_drop, Hl.out] at hlen
    obtain ⟨q, hq⟩ : ∃ q, pre.length = q := ⟨_, rfl⟩
    rw [hq] at hown hlen ⊢
    have hq2 : q ≤ 2 * n := by omega
    have Hq := Lib.hid hq
    have Hown := Lib.hid hown
    have Hm := Lib.hid hm
    have Heq := Lib.hid heq
    have Hlen := Lib.hid hlen
    have Hlow := Lib.hid hm.size
    clear hown hm hq heq hlen
    by_cases hlt : j < n
    · obtain ⟨x, hx⟩ : ∃ x, l[j]? = some x := ⟨_, List.getElem?_eq_getElem (by rw [Hl.out]; omega)⟩
      obtain ⟨b, o, rfl, hc⟩ := (H.out.keep Hm.out).2.2 (by omega)
      obtain ⟨c0, c1'⟩ := hc j x hx
      have hdrop : l.drop j = x :: l.drop (j + 1) := by
        obtain ⟨hj', e⟩ := List.getElem?_eq_some_iff.1 hx
        rw [List.drop_eq_getElem_cons hj', e]
      have Hgo : Hid (pre ++ ((if d = false ∧ k < x.1 then [(k, v)] else []) ++ ((if x.1 = k then [] else [x]) ++ setGo k v (d || decide (k < x.1)) (l.drop (j + 1)))) = setGo k v false l) := by
        have := Heq.out
        rw [hdrop] at this
        exact this
      have Hsrc : Hid (∀ (W : World) (y : Pr), SrcN (W.alloc (.cells #[.int .i64 y.1, .string y.2] 45)) (some ⟨W.heap.size, 0, none⟩) 1 2 [.int .i64 y.1, .string y.2]) := fun W y => SrcN.lit W [.int .i64 y.1, .string y.2] 45 (by simp [Value.oneCell'])
      have Hlx : Hid ((l.drop (j + 1)).length = n - (j + 1)) := by show _ = _; rw [List.length_drop, Hl.out]
      have Hl0 := Lib.hid c0
      have Hl1 := Lib.hid c1'
      have hbw : b < w.heap.size := by
        obtain ⟨b', o', e, hlt'⟩ := H.out.lt (by omega)
        injection e with e
        injection e with e1 e2
        rw [e1]; exact hlt'
      -- the last append of a round: x itself
      have Hlast : Hid (∀ (wr2 : World) (A2 : Option Addr) (c2 q2 : Nat) (p2 : List Pr), p2.length = q2 → OwN wr2 w.heap.size 45 2 A2 q2 c2 (prs p2) → Mod (fun _ => False) w wr2 → q2 ≤ q + 1 → p2 ++ (x :: setGo k v (d || decide (k < x.1)) (l.drop (j + 1))) = setGo k v false l →
          ∀ A' c' W1, OwN W1 w.heap.size 45 2 A' (q2 + 1) c' (prs p2 ++ [.int .i64 x.1, .string x.2]) → (wr2.alloc (.cells #[.int .i64 x.1, .string x.2] 45)).grownBy W1 (blkOf A2) →
          Mid w W1 (.slice A' (q2 + 1) c') k v (d || decide (k < x.1)) (l.drop (j + 1)) l) := fun wr2 A2 c2 q2 p2 hp ho hm2 hq' he A' c' W1 h1 h2 => by
        refine ⟨p2 ++ [x], Made.step hp ho hm2 h1 h2, by rw [List.append_assoc]; exact he, ?_⟩
        rw [List.length_append, List.length_singleton, hp, Hlx.out, Hl.out]
        have := Hlen.out
        omega
      clear hc hx c1' hdrop
      by_cases hcond : d = false ∧ k < x.1
      · obtain ⟨rfl, hkx⟩ := hcond
        have hb1 : decide (k < x.1) = true := by simpa using hkx
        have hb2 : (x.1 != k) = true := by rw [bne_iff_ne]; omega
        have Hgo2 : Hid ((pre ++ [(k, v)]) ++ (x :: setGo k v (false || decide (k < x.1)) (l.drop (j + 1))) = setGo k v false l) := by
          have := Hgo.out
          rw [if_pos ⟨rfl, hkx⟩, if_neg (by omega)] at this
          rw [List.append_assoc]
          exact this
        have Hown2 := Lib.hid (Hown.out.alloc (.cells #[.int .i64 k, .string v] 45))
        have Hs1 := Lib.hid (Hsrc.out wr (k, v))
        clear hkx
        rw [hb1, Bool.or_true] at Hlast Hgo2
        go_wp2_with (at_builtin; first
          | (refine wpList_appN (.tmp 27) (.tmp 31) pairElem rfl rfl rfl rfl Hown2.out Hs1.out (by omega) (by unfold maxLen; omega) (by rw [World.size_alloc]; have := Hlow.out; omega) ?_
             intro A2 c2 W2 h1 h2 h3
             have hmd := Made.step (x := (k, v)) Hq.out Hown.out Hm.out h1 h2
             obtain ⟨A3, c3, e, ho3, hm3⟩ := hmd
             injection e with e1 e2 e3
             subst e1 e3
             rw [← e2] at ho3
             have Ho3 := Lib.hid ho3
             have Hm3 := Lib.hid hm3
             have hbk : W2.heap[b]? = wr.heap[b]? := (hm3.block b hbw id).trans (Hm.out.block b hbw id).symm
             have d0 : W2.cell? ⟨b, o + j * 2, none⟩ = some (.int .i64 x.1) := (World.cell?_of_block hbk).trans Hl0.out
             have d1 : W2.cell? ⟨b, o + j * 2 + 1, none⟩ = some (.string x.2) := (World.cell?_of_block hbk).trans Hl1.out
             have Hown3 := Lib.hid (ho3.alloc (.cells #[.int .i64 x.1, .string x.2] 45))
             have Hs3 := Lib.hid (Hsrc.out W2 x)
             have Hl3 := Lib.hid hm3.size
             clear h1 h2 h3 ho3 hm3 e2 hbk)
          | (refine wpList_appN (.tmp 40) (.tmp 45) pairElem rfl rfl rfl rfl Hown3.out Hs3.out (by omega) (by unfold maxLen; omega) (by rw [World.size_alloc]; have := Hl3.out; omega) ?_
             intro A' c' W1 h1 h2 h3
             have Hmid := Lib.hid (Hlast.out W2 A2 c2 (q + 1) (pre ++ [(k, v)]) (by rw [List.length_append, List.length_singleton, Hq.out]) Ho3.out Hm3.out (Nat.le_refl _) Hgo2.out A' c' W1 h1 h2)
             clear h1 h2 h3))
        go_roundw
        case rel => exact ⟨j + 1, _, by omega, by go_num, rfl, Hmid.out⟩
        case measure => simp [intOf]; omega
      · have Hcond := Lib.hid hcond
        cases d
        · have hkx : ¬ k < x.1 := fun e => hcond ⟨rfl, e⟩
          have hb1 : decide (k < x.1) = false := by simpa using hkx
          have hor : (false || decide (k < x.1)) = false := by rw [hb1]; rfl
          clear hkx
          rw [hor] at Hlast Hgo
          clear hor hcond
          by_cases hk : x.1 = k
          · have hb2 : (x.1 != k) = false := by simpa using hk
            have Hmid : Hid (Mid w wr (.slice A1 q c1) k v false (l.drop (j + 1)) l) := by
              refine ⟨pre, ⟨A1, c1, by rw [Hq.out], by rw [Hq.out]; exact Hown.out, Hm.out⟩, ?_, ?_⟩
              · have := Hgo.out
                rw [if_neg (Hcond.out), if_pos hk] at this
                exact this
              · rw [Hq.out, Hlx.out, Hl.out]
                have := Hlen.out
                omega
            clear hk
            go_wp2
            go_roundw
            case rel => exact ⟨j + 1, _, by omega, by go_num, rfl, Hmid.out⟩
            case measure => simp [intOf]; omega
          · have hb2 : (x.1 != k) = true := by simpa using hk
            have Hgo2 : Hid (pre ++ (x :: setGo k v false (l.drop (j + 1))) = setGo k v false l) := by
              have := Hgo.out
              rw [if_neg (Hcond.out), if_neg hk] at this
              exact this
            have Hown2 := Lib.hid (Hown.out.alloc (.cells #[.int .i64 x.1, .string x.2] 45))
            have Hs1 := Lib.hid (Hsrc.out wr x)
            have e1 := Hl1.out
            clear hk
            go_wp2_with (at_builtin; refine wpList_appN (.tmp 40) (.tmp 45) pairElem rfl rfl rfl rfl Hown2.out Hs1.out (by omega) (by unfold maxLen; omega) (by rw [World.size_alloc]; have := Hlow.out; omega) ?_; intro A' c' W1 h1 h2 h3; have Hmid := Lib.hid (Hlast.out wr A1 c1 q pre Hq.out Hown.out Hm.out (by omega) Hgo2.out A' c' W1 h1 h2); clear h1 h2 h3)
            go_roundw
            case rel => exact ⟨j + 1, _, by omega, by go_num, rfl, Hmid.out⟩
            case measure => simp [intOf]; omega
        · have hor : (true || decide (k < x.1)) = true := rfl
          rw [hor] at Hlast Hgo
          clear hor hcond
          by_cases hk : x.1 = k
          · have hb2 : (x.1 != k) = false := by simpa using hk
            have Hmid : Hid (Mid w wr (.slice A1 q c1) k v true (l.drop (j + 1)) l) := by
              refine ⟨pre, ⟨A1, c1, by rw [Hq.out], by rw [Hq.out]; exact Hown.out, Hm.out⟩, ?_, ?_⟩
              · have := Hgo.out
                rw [if_neg (Hcond.out), if_pos hk] at this
                exact this
              · rw [Hq.out, Hlx.out, Hl.out]
                have := Hlen.out
                omega
            clear hk
            go_wp2
            go_roundw
            case rel => exact ⟨j + 1, _, by omega, by go_num, rfl, Hmid.out⟩
            case measure => simp [intOf]; omega
          · have hb2 : (x.1 != k) = true := by simpa using hk
            have Hgo2 : Hid (pre ++ (x :: setGo k v true (l.drop (j + 1))) = setGo k v false l) := by
              have := Hgo.out
              rw [if_neg (Hcond.out), if_neg hk] at this
              exact this
            have Hown2 := Lib.hid (Hown.out.alloc (.cells #[.int .i64 x.1, .string x.2] 45))
            have Hs1 := Lib.hid (Hsrc.out wr x)
            have e1 := Hl1.out
            clear hk
            go_wp2_with (at_builtin; refine wpList_appN (.tmp 40) (.tmp 45) pairElem rfl rfl rfl rfl Hown2.out Hs1.out (by omega) (by unfold maxLen; omega) (by rw [World.size_alloc]; have := Hlow.out; omega) ?_; intro A' c' W1 h1 h2 h3; have Hmid := Lib.hid (Hlast.out wr A1 c1 q pre Hq.out Hown.out Hm.out (by omega) Hgo2.out A' c' W1 h1 h2); clear h1 h2 h3)
            go_roundw
            case rel => exact ⟨j + 1, _, by omega, by go_num, rfl, Hmid.out⟩
            case measure => simp [intOf]; omega
    · obtain rfl : j = n := by omega
      have hdn : l.drop j = [] := List.drop_of_length_le (by rw [Hl.out]; omega)
      have Hgo : Hid (pre ++ setGo k v d [] = mSet k v l) := by
        have := Heq.out
        rw [hdn, Hs.out] at this
        exact this
      clear hdn
      cases d
      · have Hown2 := Lib.hid (Hown.out.alloc (.cells #[.int .i64 k, .string v] 45))
        have Hs1 : Hid (SrcN (wr.alloc (.cells #[.int .i64 k, .string v] 45)) (some ⟨wr.heap.size, 0, none⟩) 1 2 [.int .i64 k, .string v]) := SrcN.lit wr [.int .i64 k, .string v] 45 (by simp [Value.oneCell'])
        go_wp2_with (at_builtin; refine wpList_appN (.tmp 49) (.tmp 53) pairElem rfl rfl rfl rfl Hown2.out Hs1.out (by omega) (by unfold maxLen; omega) (by rw [World.size_alloc]; have := Hlow.out; omega) ?_; intro A' c' W1 h1 h2 h3; have Hmade := Lib.hid (Made.step (x := (k, v)) Hq.out Hown.out Hm.out h1 h2); clear h1 h2 h3)
        go_ret
        have := Hmade.out.new
        rw [show pre ++ [(k, v)] = mSet k v l from Hgo.out] at this
        exact this
      · have Hmade : Hid (Made w wr (.slice A1 q c1) pre) := ⟨A1, c1, by rw [Hq.out], by rw [Hq.out]; exact Hown.out, Hm.out⟩
        go_wp2
        go_ret
        have := Hmade.out.new
        rw [show pre = mSet k v l by rw [← Hgo.out]; simp [setGo]] at this
        exact this
end Go.Proofs.Ytallokaboldflaa
