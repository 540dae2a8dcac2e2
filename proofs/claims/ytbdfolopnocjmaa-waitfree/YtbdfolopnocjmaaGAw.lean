/-
  bobbinlaw13: few, awake.
-/
import Derived.Test.YtbdfolopnocjmaaGRef
import Derived.ArgAppend
namespace Go.Proofs.Ytbdfolopnocjmaa
open Go Go.RowKit

def fewB (l : List Wt) : Bool := decide (l.length ≤ 40) && l.all (fun x => decide (x.n ≤ 20))
theorem few_edg : ∀ (l : List Wt), (∀ x ∈ l, x.zs.length ≤ 20) → (edg (ps l)).length ≤ 20 * l.length
  | [], _ => Nat.le_refl _
  | x :: l, h => by
    have e2 : edg (ps (x :: l)) = x.zs.map (fun z => (x.tx, z)) ++ edg (ps l) := by simp [edg, ps, Wt.p]
    have h1 := few_edg l (fun y hy => h y (List.mem_cons_of_mem _ hy))
    have h2 := h x (by simp)
    rw [e2, List.length_append, List.length_map, List.length_cons]
    omega
theorem few_of {w : World} {A0 : Option Addr} {n c0 : Nat} {l : List Wt} (h : Wl w A0 n c0 l) (hb : fewB l = true) : l.length ≤ 40 ∧ (edg (ps l)).length ≤ 800 ∧ Few l := by
  unfold fewB at hb
  simp only [Bool.and_eq_true, decide_eq_true_eq, List.all_eq_true] at hb
  have := few_edg l (fun x hx => by rw [(h.row x hx).len]; exact hb.2 x hx)
  exact ⟨hb.1, by omega, ⟨by omega, by omega⟩⟩

set_option maxRecDepth 100000 in
theorem few_ok (w : World) (A0 : Option Addr) (n c0 : Nat) (l : List Wt) (h : Wl w A0 n c0 l) :
    Calls Try.prog 9 #[.slice A0 n c0] w fun e w' => e = .returned (.bool (fewB l)) ∧ w' = w := by
  have HX := Lib.hid h
  have Hlen := Lib.hid h.len
  clear h
  by_cases h40 : n ≤ 40
  · have hq : decide ((40 : Int) < (n : Int)) = false := by rw [decide_eq_false_iff_not]; omega
    have H40 : Hid (decide (l.length ≤ 40) = true) := decide_eq_true (by rw [Hlen.out]; exact h40)
    go_enter Try.func9, Try.ntmps9
    go_wp2
    go_loopw [3] (fun k wr => ∃ i : Nat, i ≤ n ∧ k = .int .i64 i ∧ (∀ x ∈ l.take i, x.n ≤ 20) ∧ wr = w) (fun k _ => n - (intOf k).toNat)
    case atStart => exact ⟨0, Nat.zero_le _, rfl, fun x hx => by simp at hx, rfl⟩
    case round =>
      obtain ⟨i, hi, rfl, ha, rfl⟩ := hrel
      have HA := Lib.hid ha
      clear ha
      by_cases hlt : i < n
      · obtain ⟨b, o, hA, hc⟩ := HX.out.at_ (by omega)
        obtain ⟨x, hx⟩ : ∃ x, l[i]? = some x := ⟨_, List.getElem?_eq_getElem (by rw [Hlen.out]; exact hlt)⟩
        obtain ⟨s0, s1⟩ := hc i x hx
        rw [hA]
        have Hx := Lib.hid hx
        clear hc hA hx
        by_cases h20 : x.n ≤ 20
        · have hq2 : decide ((20 : Int) < (x.n : Int)) = false := by rw [decide_eq_false_iff_not]; omega
          have HA2 : Hid (∀ y ∈ l.take (i + 1), y.n ≤ 20) := fun y hy => by
            rw [take_succ_at Hx.out] at hy
            rcases List.mem_append.1 hy with hy | hy
            · exact HA.out y hy
            · rw [List.mem_singleton.1 hy]; exact h20
          clear h20 HA
          go_wp2
          go_roundw
          case rel => exact ⟨i + 1, by omega, by go_num, HA2.out, by trivial⟩
          case measure => simp [intOf]; omega
        · have hq2 : decide ((20 : Int) < (x.n : Int)) = true := by rw [decide_eq_true_eq]; omega
          have Hno : Hid (fewB l = false) := by
            show _ = _
            unfold fewB
            rw [H40.out, Bool.true_and]
            exact List.all_eq_false.2 ⟨x, List.mem_of_getElem? Hx.out, by simp; omega⟩
          clear h20 HA
          go_wp2
          go_ret
          exact ⟨by rw [Hno.out]; rfl, rfl⟩
      · obtain rfl : i = n := by omega
        have Hyes : Hid (fewB l = true) := by
          show _ = _
          unfold fewB
          rw [H40.out, Bool.true_and, List.all_eq_true]
          intro x hx
          have := HA.out
          rw [List.take_of_length_le (by rw [Hlen.out]; omega)] at this
          exact decide_eq_true (this x hx)
        clear HA
        go_wp2
        go_ret
        exact ⟨by rw [Hyes.out]; rfl, rfl⟩
  · have hq : decide ((40 : Int) < (n : Int)) = true := by rw [decide_eq_true_eq]; omega
    have Hno : Hid (fewB l = false) := by
      show _ = _
      unfold fewB
      rw [decide_eq_false (by rw [Hlen.out]; exact h40)]
      rfl
    clear h40
    go_enter Try.func9, Try.ntmps9
    go_wp2
    go_ret
    exact ⟨by rw [Hno.out]; rfl, rfl⟩

theorem wtElem : ElemN Try.prog 22 29 (.agg #[.int .i64 0, .slice none 0 0]) 2 32 := ElemN.mk_ Try.underlying22 rfl (by decide) (by kernel_rfl)
/-- An append that has no room: a new row. -/
theorem run_appGrow {P : Program} {w : World} {t e : TypeId} {z : Value} {size bytes : Nat} (he : ElemN P t e z size bytes) (ty : TypeId) {b : Addr} {n cap : Nat} {olds : List Value} (hlo : olds.length = n * size) (holds : ∀ j u, olds[j]? = some u → w.cell? (b.add j) = some u)
    {A2 : Option Addr} {m c2 : Nat} {news : List Value} (hs : SrcN w A2 m size news) (hm : 0 < m) (hg : cap < n + m) (h63 : n + m ≤ maxLen) (hb : (n + m) * bytes ≤ 140737488355328) :
    ∃ A' c' w', (Builtin.append_ #[t, t] ty #[.slice (some b) n cap, .slice A2 m c2]).run P w = .ok (.slice A' (n + m) c') w' ∧ OwN w' w.heap.size e size A' (n + m) c' (olds ++ news) ∧ Mod (fun _ => False) w w' := by
  obtain ⟨ht, hz1, hsz0, i, hi, hz, hsz, hby⟩ := he
  obtain ⟨ad, rfl, hc⟩ := hs.2.2 hm
  obtain ⟨v', w', hr, h2, h3⟩ := run_append_arg_grows (P := P) w t ty e i z size bytes ht hi hz hsz hby hz1 hsz0 b n cap olds hlo holds ad m c2 news hs.1 hc hg h63 hb
  obtain ⟨A', c', rfl⟩ : ∃ A' c', v' = .slice A' (n + m) c' := by
    rcases h2.2 with ⟨rfl, h0⟩ | ⟨g, cap, cur, rfl, _⟩
    · omega
    · exact ⟨_, _, rfl⟩
  exact ⟨A', c', w', hr, h2, ⟨h3.os, h3.tape, h3.output, h3.size, fun k hk _ => h3.block k hk (by simp)⟩⟩

/-- The cells of those that wait. -/
def wcells (l : List Wt) : List Value := l.flatMap Wt.cells
theorem wcells_at : ∀ {l : List Wt} {j : Nat} {x : Wt}, l[j]? = some x → (wcells l)[j * 2]? = some (.int .i64 x.tx) ∧ (wcells l)[j * 2 + 1]? = some (.slice x.A x.n x.c)
  | y :: l, 0, x, h => by
    injection h with h
    subst h
    exact ⟨rfl, rfl⟩
  | y :: l, j + 1, x, h => by
    have := wcells_at (l := l) (j := j) (x := x) (by simpa using h)
    have e1 : (j + 1) * 2 = j * 2 + 2 := by omega
    have e2 : wcells (y :: l) = .int .i64 y.tx :: .slice y.A y.n y.c :: wcells l := by simp [wcells, Wt.cells]
    rw [e1, e2]
    exact this
theorem wcells_len (l : List Wt) : (wcells l).length = l.length * 2 := by
  induction l with
  | nil => rfl
  | cons y l ih =>
    have e2 : wcells (y :: l) = .int .i64 y.tx :: .slice y.A y.n y.c :: wcells l := by simp [wcells, Wt.cells]
    rw [e2]
    simp only [List.length_cons, ih]
    omega
theorem wcells_append (l m : List Wt) : wcells (l ++ m) = wcells l ++ wcells m := by simp [wcells]
/-- A row of the call's own reads as those that wait. -/
theorem wl_of_own {w : World} {base : Nat} {A : Option Addr} {n c : Nat} {l : List Wt} (h : OwN w base 29 2 A n c (wcells l)) (hl : l.length = n) (hr : ∀ x ∈ l, Il w x.A x.n x.c x.zs) : Wl w A n c l := by
  refine ⟨hl, OwN.cap h, fun hn => ?_, hr⟩
  obtain ⟨g, rfl, hc⟩ := OwN.cells h hn
  refine ⟨g, 0, rfl, fun j x hx => ?_⟩
  have hj := (List.getElem?_eq_some_iff.1 hx).1
  obtain ⟨h1, h2⟩ := wcells_at hx
  rw [Nat.zero_add]
  exact ⟨by rw [hc _ (by omega), h1], by rw [hc _ (by omega), h2]⟩
theorem OwN.of_block {w : World} {base : Nat} {e : TypeId} {size g n : Nat} {cur : List Value} (hb : base ≤ g) (hg : w.heap[g]? = some (.cells cur.toArray e (0, 0))) (hl : cur.length = n * size) (hm : n ≤ maxLen) :
    OwN w base e size (some ⟨g, 0, none⟩) n n cur :=
  ⟨hl, .inr ⟨g, n, cur.toArray, rfl, hb, hg, Nat.le_refl _, hm, by simpa using hl, by rw [← hl]; simp⟩⟩
theorem Il.one_ (w : World) (z : Int) : Il (w.alloc (.cells #[.int .i64 z] 3)) (some ⟨w.heap.size, 0, none⟩) 1 1 [z] := by
  refine ⟨rfl, Nat.le_refl _, fun _ => ⟨_, _, rfl, fun j y hy => ?_⟩⟩
  have hj := (List.getElem?_eq_some_iff.1 hy).1
  obtain rfl : j = 0 := by simpa using hj
  simp at hy
  subst hy
  rw [Nat.zero_add, cell_of_row _ _ _ _ _ _ (heap_alloc_new w _)]
  rfl

theorem aw_acy : stl [((1 : Int), (2 : Int)), (2, 3)] = true := stl_true.2 (by
  have key : ∀ {a b : Int}, Rch [((1 : Int), (2 : Int)), (2, 3)] a b → a < b := by
    intro a b h
    induction h with
    | one h => simp at h; omega
    | step h _ ih => simp at h; omega
  intro x hx
  have := key hx
  omega)
theorem aw_13 : rch [((1 : Int), (2 : Int)), (2, 3)] 1 3 = true := rch_true.2 (.step (c := 2) (by simp) (.one (by simp)))
theorem aw_31 : rch [((1 : Int), (2 : Int)), (2, 3)] 3 1 = false := rch_false.2 (fun h => by
  obtain ⟨c, hc, _⟩ := rch_iff.1 h
  simp at hc)
theorem aw_22 : rch [((1 : Int), (2 : Int)), (2, 3), (3, 1)] 2 2 = true := rch_true.2 (.step (c := 3) (by simp) (.step (c := 1) (by simp) (.one (by simp))))
theorem aw_cyc : stl [((1 : Int), (2 : Int)), (2, 3), (3, 1)] = false := stl_false.2 (fun h => h 2 (rch_true.1 aw_22))

/-- An append whose run is known. -/
theorem wpList_appRun {P : Program} {w w' : World} {ops : Array Oper} {rest : List Oper} {o : Oper} {a : Act} {Q : Exit → Act → World → Prop} (s x : Operand) {t : TypeId} {u v r : Value} (hgd : o.guard = none)
    (ho : o.op = .call { callee := .builtin .append, args := #[s, x], argTypes := #[t, t] }) (hes : a.eval s = u) (hex : a.eval x = v) (hr : (Builtin.append_ #[t, t] o.type #[u, v]).run P w = .ok r w')
    (h : wpList P ops Q rest (a.put o.dst r) w') : wpList P ops Q (o :: rest) a w := by
  refine wpList_plain hgd fun K hK => ?_
  unfold Oper.wp execOp
  simp only [ho, resolve, invoke, builtin, Sem.run_bind, Sem.run_pure, Result.andThen_ok, List.map_toArray, List.map_cons, List.map_nil, hes, hex, hr]
  exact hK _ _ h

set_option maxRecDepth 100000 in
set_option maxHeartbeats 3200000 in
theorem awake_ok (w : World) : Calls Try.prog 8 #[] w fun e w' => e = .returned (.bool true) ∧ Mod (fun _ => False) w w' := by
  obtain ⟨X1, hX1⟩ : ∃ X1, w.alloc (.cells #[.int .i64 2] 3) = X1 := ⟨_, rfl⟩
  obtain ⟨X2, hX2⟩ : ∃ X2, X1.alloc (.cells #[.int .i64 3] 3) = X2 := ⟨_, rfl⟩
  obtain ⟨X3, hX3⟩ : ∃ X3, X2.alloc (.cells #[.int .i64 1, .slice (some ⟨w.heap.size, 0, none⟩) 1 1, .int .i64 2, .slice (some ⟨X1.heap.size, 0, none⟩) 1 1] 29) = X3 := ⟨_, rfl⟩
  obtain ⟨X4, hX4⟩ : ∃ X4, X3.alloc (.cells #[.int .i64 1] 3) = X4 := ⟨_, rfl⟩
  obtain ⟨X5, hX5⟩ : ∃ X5, X4.alloc (.cells #[.int .i64 3, .slice (some ⟨X3.heap.size, 0, none⟩) 1 1] 29) = X5 := ⟨_, rfl⟩
  have m1 : Mod (fun _ => False) w X1 := by rw [← hX1]; exact (Mod.refl _ _).alloc _
  have m2 : Mod (fun _ => False) X1 X2 := by rw [← hX2]; exact (Mod.refl _ _).alloc _
  have m3 : Mod (fun _ => False) X2 X3 := by rw [← hX3]; exact (Mod.refl _ _).alloc _
  have m4 : Mod (fun _ => False) X3 X4 := by rw [← hX4]; exact (Mod.refl _ _).alloc _
  have m5 : Mod (fun _ => False) X4 X5 := by rw [← hX5]; exact (Mod.refl _ _).alloc _
  have m35 := m4.trans m5 (fun _ _ h => h)
  have i1 : Il X3 (some ⟨w.heap.size, 0, none⟩) 1 1 [2] := by rw [← hX1] at m2; exact ((Il.one_ w 2).keep m2).keep m3
  have i2 : Il X3 (some ⟨X1.heap.size, 0, none⟩) 1 1 [3] := by rw [← hX2] at m3; exact (Il.one_ X1 3).keep m3
  have i3 : Il X5 (some ⟨X3.heap.size, 0, none⟩) 1 1 [1] := by rw [← hX4] at m5; exact (Il.one_ X3 1).keep m5
  have hrow : X3.heap[X2.heap.size]? = some (.cells #[.int .i64 1, .slice (some ⟨w.heap.size, 0, none⟩) 1 1, .int .i64 2, .slice (some ⟨X1.heap.size, 0, none⟩) 1 1] 29 (0, 0)) := by rw [← hX3]; exact heap_alloc_new X2 _
  let l2 : List Wt := [⟨1, some ⟨w.heap.size, 0, none⟩, 1, 1, [2]⟩, ⟨2, some ⟨X1.heap.size, 0, none⟩, 1, 1, [3]⟩]
  let x3 : Wt := ⟨3, some ⟨X3.heap.size, 0, none⟩, 1, 1, [1]⟩
  have hown : OwN X3 0 29 2 (some ⟨X2.heap.size, 0, none⟩) 2 2 (wcells l2) := OwN.of_block (Nat.zero_le _) hrow rfl (by unfold maxLen; omega)
  have hw3 : Wl X3 (some ⟨X2.heap.size, 0, none⟩) 2 2 l2 := wl_of_own hown rfl (fun x hx => by
    rcases List.mem_cons.1 hx with rfl | hx
    · exact i1
    · rw [List.mem_singleton.1 hx]; exact i2)
  have hsrc : SrcN X5 (some ⟨X4.heap.size, 0, none⟩) 1 2 [.int .i64 3, .slice (some ⟨X3.heap.size, 0, none⟩) 1 1] := by
    rw [← hX5]
    exact SrcN.lit X4 [.int .i64 3, .slice (some ⟨X3.heap.size, 0, none⟩) 1 1] 29 (by simp [Value.oneCell'])
  obtain ⟨A', c', w6, hrA, h6, hm6⟩ := run_appGrow (P := Try.prog) wtElem 22 (b := ⟨X2.heap.size, 0, none⟩) (n := 2) (cap := 2) (olds := wcells l2) rfl (fun j u hu => by
    have hb5 := (m35.block _ (Array.getElem?_eq_some_iff.1 hrow).1 id).trans hrow
    rw [show (⟨X2.heap.size, 0, none⟩ : Addr).add j = ⟨X2.heap.size, 0 + j, none⟩ by unfold Addr.add; split <;> simp_all, cell_of_row _ _ _ _ _ _ hb5, Nat.zero_add, List.getElem?_toArray]
    exact hu) hsrc (c2 := 1) (by omega) (by omega) (by unfold maxLen; omega) (by omega)
  have hw6 : Wl w6 A' 3 c' (l2 ++ [x3]) := wl_of_own (by rw [wcells_append]; exact h6) rfl (fun x hx => by
    rcases List.mem_append.1 hx with hx | hx
    · exact ((hw3.row x hx).keep m35).keep hm6
    · rw [List.mem_singleton.1 hx]; exact i3.keep hm6)
  have hl6 : Wl w6 (some ⟨X2.heap.size, 0, none⟩) 2 2 l2 := (hw3.keep m35).keep hm6
  have o1 : I64 1 := by unfold I64; omega
  have o2 : I64 2 := by unfold I64; omega
  have o3 : I64 3 := by unfold I64; omega
  have k2 : ∀ x ∈ l2, x.ok := fun x hx => by
    rcases List.mem_cons.1 hx with rfl | hx
    · exact ⟨o1, fun z hz => by rw [List.mem_singleton.1 hz]; exact o2⟩
    · rw [List.mem_singleton.1 hx]; exact ⟨o2, fun z hz => by rw [List.mem_singleton.1 hz]; exact o3⟩
  have k3 : ∀ x ∈ l2 ++ [x3], x.ok := fun x hx => by
    rcases List.mem_append.1 hx with hx | hx
    · exact k2 x hx
    · rw [List.mem_singleton.1 hx]; exact ⟨o3, fun z hz => by rw [List.mem_singleton.1 hz]; exact o1⟩
  have f2 : Few l2 := ⟨by show 2 ≤ 1000; omega, by show (edg [((1 : Int), [(2 : Int)]), (2, [3])]).length ≤ 1000; decide⟩
  have f3 : Few (l2 ++ [x3]) := ⟨by show 3 ≤ 1000; omega, by show (edg [((1 : Int), [(2 : Int)]), (2, [3]), (3, [1])]).length ≤ 1000; decide⟩
  have e2 : edg (ps l2) = [((1 : Int), (2 : Int)), (2, 3)] := rfl
  have e3 : edg (ps (l2 ++ [x3])) = [((1 : Int), (2 : Int)), (2, 3), (3, 1)] := rfl
  have R1 := Lib.hid (fun V (hV : Wl V (some ⟨X2.heap.size, 0, none⟩) 2 2 l2) => reach_ok V _ 2 2 l2 hV f2 k2 1 3 o1)
  have R2 := Lib.hid (fun V (hV : Wl V (some ⟨X2.heap.size, 0, none⟩) 2 2 l2) => reach_ok V _ 2 2 l2 hV f2 k2 3 1 o3)
  have S1 := Lib.hid (fun V (hV : Wl V (some ⟨X2.heap.size, 0, none⟩) 2 2 l2) => still_ok V _ 2 2 l2 hV f2 k2)
  have S2 := Lib.hid (fun V (hV : Wl V A' 3 c' (l2 ++ [x3])) => still_ok V _ 3 c' _ hV f3 k3)
  have C2 := Lib.hid (fun V (hV : Wl V A' 3 c' (l2 ++ [x3])) => circle_ok V _ 3 c' _ hV f3 k3 2 o2)
  rw [e2, aw_13] at R1
  rw [e2, aw_31] at R2
  rw [e2, aw_acy] at S1
  rw [e3, aw_cyc] at S2
  rw [e3, aw_22] at C2
  have HM6 : Hid (Mod (fun _ => False) w w6) := (((m1.trans m2 (fun _ _ h => h)).trans m3 (fun _ _ h => h)).trans m35 (fun _ _ h => h)).trans hm6 (fun _ _ h => h)
  have HL6 := Lib.hid hl6
  have HW6 := Lib.hid hw6
  clear m1 m2 m3 m4 m5 m35 i1 i2 i3 hrow hown hw3 hsrc h6 hm6 hw6 hl6 o1 o2 o3 k2 k3 f2 f3 e2 e3
  generalize l2 = l2 at *
  generalize x3 = x3 at *
  go_enter Try.func8, Try.ntmps8
  go_wp2_with (first | (at_builtin; refine wpList_appRun (.tmp 9) (.tmp 12) rfl rfl rfl rfl hrA ?_) | fail)
  refine (R1.out _ HL6.out).mono ?_
  rintro e w7 ⟨rfl, hm⟩
  have HL7 := Lib.hid (HL6.out.keep hm)
  have HW7 := Lib.hid (HW6.out.keep hm)
  have HM7 := Lib.hid (HM6.out.trans hm (fun _ _ h => h))
  clear hm HL6 HW6 HM6 R1
  go_wp2_with fail
  refine (R2.out _ HL7.out).mono ?_
  rintro e w8 ⟨rfl, hm⟩
  have HL8 := Lib.hid (HL7.out.keep hm)
  have HW8 := Lib.hid (HW7.out.keep hm)
  have HM8 := Lib.hid (HM7.out.trans hm (fun _ _ h => h))
  clear hm HL7 HW7 HM7 R2
  go_wp2_with fail
  refine (S1.out _ HL8.out).mono ?_
  rintro e w9 ⟨rfl, hm⟩
  have HW9 := Lib.hid (HW8.out.keep hm)
  have HM9 := Lib.hid (HM8.out.trans hm (fun _ _ h => h))
  clear hm HL8 HW8 HM8 S1
  go_wp2_with fail
  refine (S2.out _ HW9.out).mono ?_
  rintro e w10 ⟨rfl, hm⟩
  have HW10 := Lib.hid (HW9.out.keep hm)
  have HM10 := Lib.hid (HM9.out.trans hm (fun _ _ h => h))
  clear hm HW9 HM9 S2
  go_wp2_with fail
  refine (C2.out _ HW10.out).mono ?_
  rintro e w11 ⟨rfl, hm⟩
  have HM11 := Lib.hid (HM10.out.trans hm (fun _ _ h => h))
  clear hm HW10 HM10 C2
  go_wp2
  go_ret
  exact ⟨rfl, HM11.out⟩
end Go.Proofs.Ytbdfolopnocjmaa
