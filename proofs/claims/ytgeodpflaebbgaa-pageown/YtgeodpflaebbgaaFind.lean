/-
  The search for a key: cmp.Compare, the closure of Map.find, slices.BinarySearchFunc, Map.list, Map.find, Map.Len, Map.Get.
-/
import Derived.Test.YtgeodpflaebbgaaRows
import Derived.Test.YtgeodpflaebbgaaRowP
namespace Go.Proofs.Ytgeodpflaebbgaa
open Go Go.RowKit

theorem entElem : ElemN Try.prog 60 97 (.agg #[.int .i64 0, .slice none 0 0]) 2 32 :=
  ElemN.mk_ Try.underlying60 rfl (by decide) (by kernel_rfl)

set_option maxRecDepth 100000 in
theorem isNaN_ok (w : World) (x : Int) : Calls Try.prog 64 #[.int .i64 x] w fun e w' => e = .returned (.bool false) ∧ w' = w := by
  have hx : (x != x) = false := by simp
  go_enter Try.func64, Try.ntmps64
  go_wp2
  go_ret
  exact ⟨rfl, rfl⟩

def cmpI (a b : Int) : Int := if a < b then -1 else if b < a then 1 else 0
set_option maxRecDepth 100000 in
theorem compare_ok (w : World) (a b : Int) : Calls Try.prog 61 #[.int .i64 a, .int .i64 b] w fun e w' => e = .returned (.int .i64 (cmpI a b)) ∧ w' = w := by
  by_cases h1 : a < b
  · have hd : decide (a < b) = true := by simpa using h1
    have hr : cmpI a b = -1 := by simp [cmpI, h1]
    rw [hr]
    clear hr
    go_enter Try.func61, Try.ntmps61
    go_wp2_with fail
    refine (isNaN_ok _ _).mono ?_
    rintro e w1 ⟨rfl, rfl⟩
    go_wp2_with fail
    refine (isNaN_ok _ _).mono ?_
    rintro e w1 ⟨rfl, rfl⟩
    go_wp2
    go_ret
    exact ⟨rfl, rfl⟩
  · have hd : decide (a < b) = false := by simpa using h1
    by_cases h2 : b < a
    · have hd2 : decide (b < a) = true := by simpa using h2
      have hr : cmpI a b = 1 := by simp [cmpI, h1, h2]
      rw [hr]
      clear hr
      go_enter Try.func61, Try.ntmps61
      go_wp2_with fail
      refine (isNaN_ok _ _).mono ?_
      rintro e w1 ⟨rfl, rfl⟩
      go_wp2_with fail
      refine (isNaN_ok _ _).mono ?_
      rintro e w1 ⟨rfl, rfl⟩
      go_wp2
      go_ret
      exact ⟨rfl, rfl⟩
    · have hd2 : decide (b < a) = false := by simpa using h2
      have hr : cmpI a b = 0 := by simp [cmpI, h1, h2]
      rw [hr]
      clear hr
      go_enter Try.func61, Try.ntmps61
      go_wp2_with fail
      refine (isNaN_ok _ _).mono ?_
      rintro e w1 ⟨rfl, rfl⟩
      go_wp2_with fail
      refine (isNaN_ok _ _).mono ?_
      rintro e w1 ⟨rfl, rfl⟩
      go_wp2
      go_ret
      exact ⟨rfl, rfl⟩

set_option maxRecDepth 100000 in
theorem find1_ok (w : World) (x : Pr) (k : Int) : Calls Try.prog 60 #[.agg #[.int .i64 x.1, .slice x.2.a x.2.n x.2.c], .int .i64 k] w fun e w' => e = .returned (.int .i64 (cmpI x.1 k)) ∧ Mod (fun _ => False) w w' := by
  go_enter Try.func60, Try.ntmps60
  go_wp2_with fail
  refine (compare_ok _ _ _).mono ?_
  rintro e w1 ⟨rfl, rfl⟩
  go_wp2
  go_ret
  exact ⟨rfl, (Mod.refl _ w).alloc _⟩

theorem cmpI_lt {a b : Int} : decide (cmpI a b < 0) = decide (a < b) := by
  unfold cmpI
  by_cases h : a < b
  · simp [h]
  · rw [if_neg h]
    split <;> simp [h]
theorem cmpI_eq {a b : Int} : (cmpI a b == 0) = decide (a = b) := by
  unfold cmpI
  by_cases h : a < b
  · rw [if_pos h]; simp; omega
  · rw [if_neg h]
    split
    · simp; omega
    · simp; omega

set_option maxRecDepth 100000 in
set_option maxHeartbeats 1000000 in
theorem msearch_ok (w : World) (A : Option Addr) (n c : Nat) (l : List Pr) (h : Pl w A n c l) (hs : Srt l) (hn : n ≤ 1000) (k : Int) :
    Calls Try.prog 59 #[.slice A n c, .int .i64 k, .func (.func 60) #[] #[]] w fun e w' =>
      e = .returned (.tuple #[.int .i64 (idx k l), .bool (mGet k l).isSome]) ∧ Mod (fun _ => False) w w' := by
  have hl := Lib.hid h.len
  have H := Lib.hid h
  have Hs := Lib.hid hs
  clear h hs
  go_enter Try.func59, Try.ntmps59
  go_wp2
  go_loopw [9, 10] (fun i j wr => ∃ (a b : Nat), a ≤ b ∧ b ≤ n ∧ i = .int .i64 a ∧ j = .int .i64 b ∧ Mod (fun _ => False) w wr ∧ (∀ (m : Nat) (x : Pr), m < a → l[m]? = some x → x.1 < k) ∧ (∀ (m : Nat) (x : Pr), b ≤ m → l[m]? = some x → k ≤ x.1)) (fun i j _ => (intOf j).toNat - (intOf i).toNat)
  case atStart => exact ⟨0, n, by omega, Nat.le_refl _, rfl, rfl, Mod.refl _ _, fun m x hm => by omega, fun m x hm hx => by have := (List.getElem?_eq_some_iff.1 hx).1; have := hl.out; omega⟩
  case round =>
    obtain ⟨a, b, hab, hbn, rfl, rfl, hm, h1, h2⟩ := hrel
    by_cases hlt : a < b
    · obtain ⟨q, hq⟩ : ∃ q : Nat, (a + b) / 2 = q := ⟨_, rfl⟩
      have hqa : a ≤ q := by omega
      have hqb : q < b := by omega
      obtain ⟨x, hx⟩ : ∃ x, l[q]? = some x := ⟨_, List.getElem?_eq_getElem (by rw [hl.out]; omega)⟩
      obtain ⟨g, o, rfl, hc⟩ := (H.out.keep hm).2.2 (by omega)
      obtain ⟨c0, c1⟩ := hc q x hx
      have Hm := Lib.hid hm
      have H1 := Lib.hid h1
      have H2 := Lib.hid h2
      have Hx := Lib.hid hx
      clear hc hm h1 h2 hx
      go_wp2_with fail
      refine (find1_ok _ _ _).mono ?_
      rintro e w2 ⟨rfl, hm2⟩
      have Hm2 := Lib.hid (Hm.out.trans hm2 (fun _ _ h => h))
      clear hm2 c0 c1
      by_cases hxk : x.1 < k
      · have hd : decide (cmpI x.1 k < 0) = true := by rw [cmpI_lt]; simpa using hxk
        have H3 : Hid (∀ (m : Nat) (y : Pr), m < q + 1 → l[m]? = some y → y.1 < k) := fun m y hm hy => by
          rcases Nat.lt_or_ge m q with hlt' | hge
          · have := Hs.out.at hlt' hy Hx.out; omega
          · obtain rfl : m = q := by omega
            have := Hx.out
            rw [hy] at this
            injection this with this
            rw [this]; exact hxk
        clear hxk
        go_wp2
        go_roundw
        case rel => exact ⟨q + 1, b, by omega, hbn, by go_num, rfl, Hm2.out, H3.out, H2.out⟩
        case measure => simp [intOf]; omega
      · have hd : decide (cmpI x.1 k < 0) = false := by rw [cmpI_lt]; simpa using hxk
        have H3 : Hid (∀ (m : Nat) (y : Pr), q ≤ m → l[m]? = some y → k ≤ y.1) := fun m y hm hy => by
          rcases Nat.eq_or_lt_of_le hm with e | e
          · subst e
            have := Hx.out
            rw [hy] at this
            injection this with this
            rw [this]; omega
          · have := Hs.out.at e Hx.out hy; omega
        clear hxk
        go_wp2
        go_roundw
        case rel => exact ⟨a, q, hqa, by omega, rfl, by go_num, Hm2.out, H1.out, H3.out⟩
        case measure => simp [intOf]; omega
    · obtain rfl : a = b := by omega
      have hi : idx k l = a := idx_eq (by rw [hl.out]; exact hbn) h1 h2
      have Hm := Lib.hid hm
      clear hm h1 h2
      by_cases han : a < n
      · obtain ⟨x, hx⟩ : ∃ x, l[a]? = some x := ⟨_, List.getElem?_eq_getElem (by rw [hl.out]; omega)⟩
        obtain ⟨g, o, rfl, hc⟩ := (H.out.keep Hm.out).2.2 (by omega)
        obtain ⟨c0, c1⟩ := hc a x hx
        have hg : (mGet k l).isSome = decide (x.1 = k) := by
          by_cases hk : x.1 = k
          · rw [mGet_some (by rw [hi]; exact hx) hk]; simpa using hk
          · rw [mGet_none (fun y hy => by rw [hi, hx] at hy; injection hy with hy; rw [← hy]; exact hk)]; simpa using hk
        have Hi := Lib.hid hi
        have Hg := Lib.hid hg
        clear hc hx hg hi
        go_wp2_with fail
        refine (find1_ok _ _ _).mono ?_
        rintro e w2 ⟨rfl, hm2⟩
        have Hm2 := Lib.hid (Hm.out.trans hm2 (fun _ _ h => h))
        have he := cmpI_eq (a := x.1) (b := k)
        clear hm2 c0 c1
        go_wp2
        go_ret2
        exact ⟨by rw [Hi.out, Hg.out]; rfl, Hm2.out⟩
      · obtain rfl : a = n := by omega
        have hg : mGet k l = none := mGet_none (fun y hy => by
          rw [hi] at hy
          have := (List.getElem?_eq_some_iff.1 hy).1
          have := hl.out
          omega)
        have Hi := Lib.hid hi
        have Hg := Lib.hid hg
        clear hg hi
        go_wp2
        go_ret2
        exact ⟨by rw [Hi.out, Hg.out]; rfl, Hm.out⟩

/-- What the pointer 'P' has for a map reads as l. -/
def MRd (w : World) (P : Option Addr) (l : List Pr) : Prop :=
  (P = none ∧ l = []) ∨ ∃ (p c : Nat) (A : Option Addr), P = some ⟨p, 2, none⟩ ∧ w.cell? ⟨p, 2, none⟩ = some (.slice A l.length c) ∧ Pl w A l.length c l ∧ (A = none ∨ ∃ b, A = some ⟨b, 0, none⟩)
theorem MRd.mod {w w' : World} {F : Nat → Prop} {P : Option Addr} {l : List Pr} (h : MRd w P l) (hm : Mod F w w') (hF : ∀ k, k < w.heap.size → ¬ F k) : MRd w' P l := by
  rcases h with h | ⟨p, c, A, hP, hc, hl, hA⟩
  · exact .inl h
  · refine .inr ⟨p, c, A, hP, (World.cell?_of_block (hm.block p (World.block_lt_of_cell? w _ hc) (hF _ (World.block_lt_of_cell? w _ hc)))).trans hc, hl.mod hm (fun k hk hn => ?_), hA⟩
    obtain ⟨b, o, e, hb⟩ := hl.lt hn
    rw [e] at hk
    simp [blkOf] at hk
    subst hk
    exact hF _ hb
theorem MRd.keep {w w' : World} {P : Option Addr} {l : List Pr} (h : MRd w P l) (hm : Mod (fun _ => False) w w') : MRd w' P l := h.mod hm (fun _ _ => id)

set_option maxRecDepth 100000 in
theorem mlist_ok (w : World) (P : Option Addr) (l : List Pr) (h : MRd w P l) :
    ∃ A c, (A = none ∨ ∃ b, A = some ⟨b, 0, none⟩) ∧ Pl w A l.length c l ∧ Calls Try.prog 49 #[.pointer P] w fun e w' => e = .returned (.slice A l.length c) ∧ w' = w := by
  rcases h with ⟨rfl, rfl⟩ | ⟨p, c, A, rfl, hc, hl, hA⟩
  · refine ⟨none, 0, .inl rfl, Pl.nil _ _ _, ?_⟩
    go_enter Try.func49, Try.ntmps49
    go_wp2
    go_ret
    exact ⟨rfl, rfl⟩
  · refine ⟨A, c, hA, hl, ?_⟩
    clear hl hA
    go_enter Try.func49, Try.ntmps49
    go_wp2
    go_ret
    exact ⟨rfl, rfl⟩

set_option maxRecDepth 100000 in
theorem mfind_ok (w : World) (P : Option Addr) (l : List Pr) (h : MRd w P l) (hs : Srt l) (hn : l.length ≤ 1000) (k : Int) :
    Calls Try.prog 50 #[.pointer P, .int .i64 k] w fun e w' => e = .returned (.tuple #[.int .i64 (idx k l), .bool (mGet k l).isSome]) ∧ Mod (fun _ => False) w w' := by
  obtain ⟨A, c, _, hl, hcall⟩ := mlist_ok w P l h
  have H := Lib.hid hcall
  have Hs := Lib.hid (msearch_ok w A l.length c l hl hs hn k)
  clear hcall hl h hs
  go_enter Try.func50, Try.ntmps50
  go_wp2_with fail
  refine H.out.mono ?_
  rintro e w1 ⟨rfl, rfl⟩
  go_wp2_with fail
  refine Hs.out.mono ?_
  rintro e w2 ⟨rfl, hm⟩
  go_wp2
  go_ret2
  exact ⟨rfl, hm⟩

set_option maxRecDepth 100000 in
theorem mlen_ok (w : World) (P : Option Addr) (l : List Pr) (h : MRd w P l) :
    Calls Try.prog 40 #[.pointer P] w fun e w' => e = .returned (.int .i64 l.length) ∧ w' = w := by
  obtain ⟨A, c, _, hl, hcall⟩ := mlist_ok w P l h
  have H := Lib.hid hcall
  clear hcall hl h
  go_enter Try.func40, Try.ntmps40
  go_wp2_with fail
  refine H.out.mono ?_
  rintro e w1 ⟨rfl, rfl⟩
  go_wp2
  go_ret
  exact ⟨rfl, rfl⟩

/-- A key that is there, or not. -/
theorem mGet_cases (k : Int) (l : List Pr) : (∃ x : Pr, l[idx k l]? = some x ∧ x.1 = k ∧ mGet k l = some x.2) ∨ ((∀ x, l[idx k l]? = some x → x.1 ≠ k) ∧ mGet k l = none) := by
  by_cases h : ∃ x, l[idx k l]? = some x ∧ x.1 = k
  · obtain ⟨x, hx, hk⟩ := h
    exact .inl ⟨x, hx, hk, mGet_some hx hk⟩
  · have h' : ∀ x, l[idx k l]? = some x → x.1 ≠ k := fun x hx hk => h ⟨x, hx, hk⟩
    exact .inr ⟨h', mGet_none h'⟩

/-- What Get answers. -/
def gotV (o : Option Sv) : Value := .tuple #[.slice (o.getD ⟨none, 0, 0⟩).a (o.getD ⟨none, 0, 0⟩).n (o.getD ⟨none, 0, 0⟩).c, .bool o.isSome]
set_option maxRecDepth 100000 in
theorem mget_ok (w : World) (P : Option Addr) (l : List Pr) (h : MRd w P l) (hs : Srt l) (hn : l.length ≤ 1000) (k : Int) :
    Calls Try.prog 38 #[.pointer P, .int .i64 k] w fun e w' => e = .returned (gotV (mGet k l)) ∧ Mod (fun _ => False) w w' := by
  have Hf := Lib.hid (mfind_ok w P l h hs hn k)
  rcases mGet_cases k l with ⟨x, hx, hk, hg⟩ | ⟨_, hg⟩
  · have hlt := (List.getElem?_eq_some_iff.1 hx).1
    rcases h with ⟨rfl, rfl⟩ | ⟨p, c, A, rfl, hc, hl, _⟩
    · simp at hx
    · obtain ⟨b, o, rfl, hcs⟩ := hl.2.2 (by omega)
      obtain ⟨_, c1⟩ := hcs _ x hx
      rw [hg] at Hf ⊢
      have Hc1 := Lib.hid c1
      have Hc := Lib.hid hc
      clear hcs hx hg hl c1 hc hs
      generalize idx k l = i at *
      have hi : (i : Int) < l.length := by omega
      go_enter Try.func38, Try.ntmps38
      go_wp2_with fail
      refine Hf.out.mono ?_
      rintro e w2 ⟨rfl, hm⟩
      have d0 := (World.cell?_of_block (hm.block p (World.block_lt_of_cell? w _ Hc.out) id)).trans Hc.out
      have d1 := (World.cell?_of_block (hm.block b (World.block_lt_of_cell? w _ Hc1.out) id)).trans Hc1.out
      go_wp2
      go_ret2
      exact ⟨rfl, hm⟩
  · rw [hg] at Hf ⊢
    clear hg h hs
    go_enter Try.func38, Try.ntmps38
    go_wp2_with fail
    refine Hf.out.mono ?_
    rintro e w2 ⟨rfl, hm⟩
    go_wp2
    go_ret2
    exact ⟨rfl, hm⟩
end Go.Proofs.Ytgeodpflaebbgaa
