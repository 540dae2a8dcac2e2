/-
  WaitOrder: in which order those that wait stand does not matter, nor whether one that waits for two stands twice.
-/
import Derived.Test.YtbdfolopnocjmaaGLaw
namespace Go.Proofs.Ytbdfolopnocjmaa
open Go Go.RowKit

/-- One that waits for one, its row in a block of its own. -/
def Mrow (w : World) (y : Wt) : Prop := ∃ g z, y = ⟨y.tx, some ⟨g, 0, none⟩, 1, 1, [z]⟩ ∧ w.heap[g]? = some (.cells #[.int .i64 z] 3 (0, 0))
theorem Mrow.il {w : World} {y : Wt} (h : Mrow w y) : Il w y.A y.n y.c y.zs := by
  obtain ⟨g, z, e, hg⟩ := h
  rw [e]
  refine ⟨rfl, Nat.le_refl _, fun _ => ⟨g, 0, rfl, fun j u hu => ?_⟩⟩
  have hj := (List.getElem?_eq_some_iff.1 hu).1
  obtain rfl : j = 0 := by simpa using hj
  simp at hu
  subst hu
  rw [Nat.zero_add, cell_of_row _ _ _ _ _ _ hg]
  rfl
theorem Mrow.keep {w w' : World} {y : Wt} (h : Mrow w y) (hm : Mod (fun _ => False) w w') : Mrow w' y := by
  obtain ⟨g, z, e, hg⟩ := h
  exact ⟨g, z, e, (hm.block g (Array.getElem?_eq_some_iff.1 hg).1 id).trans hg⟩
theorem own_typed {W : World} {base : Nat} {e : TypeId} {size : Nat} {A : Option Addr} {n c : Nat} {vs : List Value} (h : OwN W base e size A n c vs) {k : Nat} (hk : blkOf A = some k) : ∃ cur, W.heap[k]? = some (.cells cur e (0, 0)) := by
  rcases h.2 with ⟨hv, _⟩ | ⟨g, cap, cur, hv, hb, hgg, rest⟩
  · injection hv with hA; subst hA; simp [blkOf] at hk
  · injection hv with hA
    subst hA
    simp [blkOf] at hk
    subst hk
    exact ⟨cur, hgg⟩
/-- The list that is made: it has the edges E. -/
structure Om (w : World) (base : Nat) (A : Option Addr) (c : Nat) (M : List Wt) (E : List (Int × Int)) : Prop where
  own : OwN w base 29 2 A M.length c (wcells M)
  rows : ∀ y ∈ M, Mrow w y
  mem : ∀ e, e ∈ edg (ps M) ↔ e ∈ E
  len : M.length = E.length
theorem Om.keep {w w' : World} {base c : Nat} {A : Option Addr} {M : List Wt} {E : List (Int × Int)} (h : Om w base A c M E) (hm : Mod (fun _ => False) w w') : Om w' base A c M E :=
  ⟨h.own.mod hm (fun _ _ => id), fun y hy => (h.rows y hy).keep hm, h.mem, h.len⟩
theorem Om.edges {w : World} {base c : Nat} {A : Option Addr} {M : List Wt} {E : List (Int × Int)} (h : Om w base A c M E) : (edg (ps M)).length = M.length := by
  have : ∀ (M : List Wt), (∀ y ∈ M, y.zs.length = 1) → (edg (ps M)).length = M.length := by
    intro M
    induction M with
    | nil => intro _; rfl
    | cons y M ih =>
      intro hy
      have e2 : edg (ps (y :: M)) = y.zs.map (fun z => (y.tx, z)) ++ edg (ps M) := by simp [edg, ps, Wt.p]
      rw [e2, List.length_append, List.length_map, hy y (by simp), ih (fun u hu => hy u (List.mem_cons_of_mem _ hu)), List.length_cons]
      omega
  exact this M (fun y hy => by obtain ⟨g, z, e, _⟩ := h.rows y hy; rw [e]; rfl)
theorem Om.wl {w : World} {base c : Nat} {A : Option Addr} {M : List Wt} {E : List (Int × Int)} (h : Om w base A c M E) : Wl w A M.length c M := wl_of_own h.own rfl (fun y hy => (h.rows y hy).il)
theorem Om.step {wz X1 X2 : World} {base c : Nat} {A : Option Addr} {M : List Wt} {E : List (Int × Int)} (h : Om wz base A c M E) (hb : base ≤ wz.heap.size) (hE : E.length ≤ 900) (tx z : Int)
    (h1 : wz.alloc (.cells #[.int .i64 z] 3) = X1) (h2 : X1.alloc (.cells #[.int .i64 tx, .slice (some ⟨wz.heap.size, 0, none⟩) 1 1] 29) = X2) :
    Mod (fun _ => False) wz X1 ∧ Mod (fun _ => False) wz X2 ∧ ∃ A' c2 w6, (Builtin.append_ #[22, 22] 22 #[.slice A M.length c, .slice (some ⟨X1.heap.size, 0, none⟩) 1 1]).run Try.prog X2 = .ok (.slice A' (M.length + 1) c2) w6 ∧
      Om w6 base A' c2 (M ++ [⟨tx, some ⟨wz.heap.size, 0, none⟩, 1, 1, [z]⟩]) (E ++ [(tx, z)]) ∧ Mod (fun k => base ≤ k) wz w6 := by
  have m1 : Mod (fun _ => False) wz X1 := by rw [← h1]; exact (Mod.refl _ _).alloc _
  have m2 : Mod (fun _ => False) X1 X2 := by rw [← h2]; exact (Mod.refl _ _).alloc _
  have m12 := m1.trans m2 (fun _ _ h => h)
  have hg1 : X1.heap[wz.heap.size]? = some (.cells #[.int .i64 z] 3 (0, 0)) := by rw [← h1]; exact heap_alloc_new wz _
  have hg2 := (m2.block _ (Array.getElem?_eq_some_iff.1 hg1).1 id).trans hg1
  have hsrc : SrcN X2 (some ⟨X1.heap.size, 0, none⟩) 1 2 [.int .i64 tx, .slice (some ⟨wz.heap.size, 0, none⟩) 1 1] := by
    rw [← h2]
    exact SrcN.lit X1 [.int .i64 tx, .slice (some ⟨wz.heap.size, 0, none⟩) 1 1] 29 (by simp [Value.oneCell'])
  have ho2 := h.own.mod m12 (fun _ _ => id)
  have hl := h.len
  obtain ⟨A', c2, w6, hr, h6, hg, hloc⟩ := run_appN (P := Try.prog) wtElem 22 ho2 hsrc (c2 := 1) (by omega) (by unfold maxLen; omega) (Nat.le_trans hb m12.size)
  refine ⟨m1, m12, A', c2, w6, hr, ⟨?_, ?_, ?_, ?_⟩, ?_⟩
  · rw [wcells_append, List.length_append]; exact h6
  · have far : ∀ {g : Nat} {u : Int}, X2.heap[g]? = some (.cells #[.int .i64 u] 3 (0, 0)) → w6.heap[g]? = some (.cells #[.int .i64 u] 3 (0, 0)) := fun {g u} hgu => by
      refine ((grown_mod hg).block g (Array.getElem?_eq_some_iff.1 hgu).1 (fun e => ?_)).trans hgu
      obtain ⟨cur, hc⟩ := own_typed ho2 e
      rw [hgu] at hc
      injection hc with hc
      injection hc with _ hc
      exact absurd hc (by decide)
    intro y hy
    rcases List.mem_append.1 hy with hy | hy
    · obtain ⟨g, u, e, hgu⟩ := (h.rows y hy).keep m12
      exact ⟨g, u, e, far hgu⟩
    · rw [List.mem_singleton.1 hy]
      exact ⟨wz.heap.size, z, rfl, far hg2⟩
  · intro e
    rw [edg_snoc, List.mem_append, List.mem_append, h.mem e]
  · simp [hl]
  · exact (m12.mono (fun _ _ h => h.elim)).trans (grown_mod hg) (fun i _ e => (OwN.lt ho2 i e).1)

/-- What the region reads. -/
def Sr (g o B1 o1 : Nat) (tx t : Int) (A : Option Addr) (n c : Nat) (w : World) : Prop := w.cell? ⟨g, o, none⟩ = some (.int .i64 tx) ∧ w.cell? ⟨g, o + 1, none⟩ = some (.slice A n c) ∧ w.cell? ⟨B1, o1, none⟩ = some (.int .i64 t)
theorem edg_drop {l : List Wt} {i : Nat} {x : Wt} (hx : l[i]? = some x) : edg (ps (l.drop i)) = x.zs.map (fun z => (x.tx, z)) ++ edg (ps (l.drop (i + 1))) := by
  obtain ⟨hi, e⟩ := List.getElem?_eq_some_iff.1 hx
  rw [List.drop_eq_getElem_cons hi, e]
  simp [edg, ps, Wt.p]
theorem edg_drop_len (l : List Wt) (i : Nat) : (edg (ps (l.drop i))).length ≤ (edg (ps l)).length := by
  have : edg (ps l) = edg (ps (l.take i)) ++ edg (ps (l.drop i)) := by
    show edg (l.map Wt.p) = edg ((l.take i).map Wt.p) ++ edg ((l.drop i).map Wt.p)
    rw [← edg_append, ← List.map_append, List.take_append_drop]
  rw [this, List.length_append]
  omega
theorem Om.cong {w : World} {base c : Nat} {A : Option Addr} {M : List Wt} {E E' : List (Int × Int)} (h : Om w base A c M E) (hm : ∀ e, e ∈ E ↔ e ∈ E') (hl : E.length = E'.length) : Om w base A c M E' :=
  ⟨h.own, h.rows, fun e => (h.mem e).trans (hm e), h.len.trans hl⟩

set_option linter.unusedVariables false in
set_option maxRecDepth 100000 in
set_option maxHeartbeats 6400000 in
theorem order_walk (W : World) (A0 : Option Addr) (n c0 : Nat) (l : List Wt) (h : Wl W A0 n c0 l) (hk : ∀ x ∈ l, x.ok) (a b : Int) (ha : I64 a) (hb : I64 b) :
    Calls Try.prog 7 #[.slice A0 n c0, .int .i64 a, .int .i64 b] W fun e w' => e = .returned (.bool true) ∧ Below W.heap.size W w' := by
  have HX := Lib.hid h
  have HFw := Lib.hid (fun V (hV : Wl V A0 n c0 l) => few_ok V A0 n c0 l hV)
  cases hfw : fewB l with
  | false =>
    rw [hfw] at HFw
    clear hfw h hk
    go_enter Try.func7, Try.ntmps7
    go_wp2_with fail
    refine (awake_ok _).mono ?_
    rintro e w1 ⟨rfl, hm1⟩
    have HM1 := Lib.hid hm1
    have HX1 := Lib.hid (HX.out.keep hm1)
    clear hm1
    go_wp2_with fail
    refine (HFw.out _ HX1.out).mono ?_
    rintro e w2 ⟨rfl, hw⟩
    subst w2
    clear HFw
    go_wp2
    go_ret
    exact ⟨rfl, HM1.out.below (Nat.le_refl _) (fun _ _ => id)⟩
  | true =>
    rw [hfw] at HFw
    obtain ⟨hl40, he800, hf⟩ := few_of h hfw
    have hn : n ≤ 40 := by rw [← h.len]; exact hl40
    have R1 := Lib.hid (fun V (hV : Wl V A0 n c0 l) => reach_ok V A0 n c0 l hV hf hk a b ha)
    have S1 := Lib.hid (fun V (hV : Wl V A0 n c0 l) => still_ok V A0 n c0 l hV hf hk)
    have HM : Hid (∀ V base A c M, Om V base A c M (edg (ps l)) → ∀ U, Wl U A M.length c M →
        Calls Try.prog 10 #[.slice A M.length c, .int .i64 a, .int .i64 b] U (fun e w' => e = .returned (.bool (rch (edg (ps l)) a b)) ∧ Mod (fun _ => False) U w') ∧
        Calls Try.prog 13 #[.slice A M.length c] U (fun e w' => e = .returned (.bool (stl (edg (ps l)))) ∧ Mod (fun _ => False) U w')) := fun V base A c M hM U hU => by
      have hmo : ∀ x ∈ M, x.ok := fun y hy => by
        obtain ⟨g, z, e, _⟩ := hM.rows y hy
        have hin : (y.tx, z) ∈ edg (ps M) := mem_edg.2 ⟨y.p, List.mem_map.2 ⟨y, hy, rfl⟩, rfl, by rw [e]; simp [Wt.p]⟩
        obtain ⟨h1, h2⟩ := edg_i64 hk ((hM.mem _).1 hin)
        exact ⟨h1, fun u hu => by rw [e] at hu; rw [List.mem_singleton.1 hu]; exact h2⟩
      have hmf : Few M := ⟨by rw [hM.len]; omega, by rw [hM.edges, hM.len]; omega⟩
      have h1 := reach_ok U A M.length c M hU hmf hmo a b ha
      have h2 := still_ok U A M.length c M hU hmf hmo
      rw [rch_eq hM.mem] at h1
      rw [stl_eq hM.mem] at h2
      exact ⟨h1, h2⟩
    have HL := Lib.hid h.len
    have H20 := Lib.hid (few_n hfw)
    have H8 := Lib.hid he800
    generalize rch (edg (ps l)) a b = r1 at *
    generalize stl (edg (ps l)) = s1 at *
    have q1 : (r1 == r1) = true := by simp
    have q2 : (s1 == s1) = true := by simp
    clear h hk hfw hf hl40 he800
    go_enter Try.func7, Try.ntmps7
    go_wp2_with fail
    refine (awake_ok _).mono ?_
    rintro e w1 ⟨rfl, hm1⟩
    have HM1 := Lib.hid hm1
    have HX1 := Lib.hid (HX.out.keep hm1)
    clear hm1
    go_wp2_with fail
    refine (HFw.out _ HX1.out).mono ?_
    rintro e w2 ⟨rfl, hw⟩
    subst w2
    clear HFw
    go_wp2
    go_loopw [9, 10] (fun sv iv wr => ∃ (ip : Nat) (A : Option Addr) (M : List Wt) (c : Nat), ip ≤ n ∧ sv = .slice A M.length c ∧ iv = .int .i64 ((ip : Int) - 1) ∧ Om wr W.heap.size A c M (edg (ps (l.drop ip))) ∧ Mod (fun _ => False) W wr) (fun _ iv _ => (intOf iv + 1).toNat)
    case atStart =>
      refine ⟨n, none, [], 0, Nat.le_refl _, rfl, rfl, ⟨OwN.nil _ _ _ _, fun y hy => (by cases hy), fun e => ?_, ?_⟩, HM1.out⟩
      · rw [List.drop_of_length_le (by rw [HL.out]; exact Nat.le_refl _)]
      · rw [List.drop_of_length_le (by rw [HL.out]; exact Nat.le_refl _)]; rfl
    case round =>
      obtain ⟨ip, A, M, c, hip, rfl, rfl, hom, hm⟩ := hrel
      have HO := Lib.hid hom
      have HMr := Lib.hid hm
      clear hom hm HM1 HX1
      by_cases h0 : ip = 0
      · subst h0
        have q0 : decide ((0 : Int) ≤ ((0 : Nat) : Int) - 1) = false := rfl
        have HO2 : Hid (Om wr W.heap.size A c M (edg (ps l))) := HO.out
        have HXr := Lib.hid (HX.out.keep HMr.out)
        have HYr := Lib.hid HO2.out.wl
        have HC := Lib.hid (fun U hU => HM.out _ _ _ _ _ HO2.out U hU)
        clear HO HM HO2
        go_wp2_with fail
        refine (R1.out _ HXr.out).mono ?_
        rintro e w3 ⟨rfl, hm⟩
        have HX3 := Lib.hid (HXr.out.keep hm)
        have HY3 := Lib.hid (HYr.out.keep hm)
        have HM3 := Lib.hid (HMr.out.trans hm (fun _ _ h => h))
        clear hm HXr HYr HMr
        go_wp2_with fail
        refine ((HC.out _ HY3.out).1).mono ?_
        rintro e w4 ⟨rfl, hm⟩
        have HX4 := Lib.hid (HX3.out.keep hm)
        have HY4 := Lib.hid (HY3.out.keep hm)
        have HM4 := Lib.hid (HM3.out.trans hm (fun _ _ h => h))
        clear hm HX3 HY3 HM3
        go_wp2_with fail
        refine (S1.out _ HX4.out).mono ?_
        rintro e w5 ⟨rfl, hm⟩
        have HY5 := Lib.hid (HY4.out.keep hm)
        have HM5 := Lib.hid (HM4.out.trans hm (fun _ _ h => h))
        clear hm HX4 HY4 HM4
        go_wp2_with fail
        refine ((HC.out _ HY5.out).2).mono ?_
        rintro e w6 ⟨rfl, hm⟩
        have HM6 := Lib.hid (HM5.out.trans hm (fun _ _ h => h))
        clear hm HY5 HM5
        go_wp2
        go_ret
        exact ⟨rfl, HM6.out.below (Nat.le_refl _) (fun _ _ => id)⟩
      · obtain ⟨i, rfl⟩ : ∃ i, ip = i + 1 := ⟨ip - 1, by omega⟩
        have ei : (((i + 1 : Nat) : Int)) - 1 = (i : Int) := by omega
        rw [ei]
        obtain ⟨x, hx⟩ : ∃ x, l[i]? = some x := ⟨_, List.getElem?_eq_getElem (by rw [HL.out]; omega)⟩
        obtain ⟨g, o, hA, _⟩ := (HX.out.keep HMr.out).at_ (by omega)
        have HA0 := Lib.hid hA
        have hcell : ∀ X, Mod (fun _ => False) W X → X.cell? ⟨g, o + i * 2, none⟩ = some (.int .i64 x.tx) ∧ X.cell? ⟨g, o + i * 2 + 1, none⟩ = some (.slice x.A x.n x.c) := fun X hX => by
          obtain ⟨b', o', hA', hc'⟩ := (HX.out.keep hX).at_ (by omega)
          rw [HA0.out] at hA'
          injection hA' with hA'
          injection hA' with e1 e2
          subst e1
          subst e2
          exact hc' i x hx
        have Hcx := Lib.hid hcell
        have Hx := Lib.hid hx
        have Hxl := Lib.hid (List.mem_of_getElem? hx)
        have hxn : x.n ≤ 20 := H20.out x Hxl.out
        have hin : (i : Int) < (n : Int) := by omega
        have hi0 : (0 : Int) ≤ (i : Int) := by omega
        have hi1 : decide ((0 : Int) ≤ (i : Int)) = true := by rw [decide_eq_true_eq]; omega
        have Hed : Hid (edg (ps (l.drop i)) = x.zs.map (fun z => (x.tx, z)) ++ edg (ps (l.drop (i + 1)))) := edg_drop hx
        have Hel : Hid ((edg (ps (l.drop i))).length ≤ 800) := Nat.le_trans (edg_drop_len l i) H8.out
        have Hzl : Hid (x.zs.length = x.n) := (HX.out.row x Hxl.out).len
        rw [hA]
        clear hA hx hcell h0 ei
        go_wp2
        go_loopw [9, 11] (fun sv kv wr => ∃ (k : Nat) (A : Option Addr) (M : List Wt) (c : Nat), k ≤ x.n ∧ sv = .slice A M.length c ∧ kv = .int .i64 k ∧ Om wr W.heap.size A c M (edg (ps (l.drop (i + 1))) ++ (x.zs.take k).map (fun z => (x.tx, z))) ∧ Mod (fun _ => False) W wr) (fun _ kv _ => x.n - (intOf kv).toNat)
        case atStart => exact ⟨0, A, M, c, Nat.zero_le _, rfl, rfl, HO.out.cong (fun e => by simp) (by simp), HMr.out⟩
        case round =>
          obtain ⟨k, A, M, c, hk, rfl, rfl, hom, hm⟩ := hrel
          have HO2 := Lib.hid hom
          have HM2 := Lib.hid hm
          obtain ⟨r0, r1⟩ := Hcx.out _ hm
          clear hom hm HO HMr
          by_cases hlt : k < x.n
          · have hIl := HX.out.row x Hxl.out
            obtain ⟨t, ht⟩ : ∃ t, x.zs[k]? = some t := ⟨_, List.getElem?_eq_getElem (by rw [Hzl.out]; exact hlt)⟩
            obtain ⟨B1, o1, hxA, _⟩ := (hIl.keep HM2.out).2.2 (by omega)
            have hsr : ∀ X, Mod (fun _ => False) W X → Sr g (o + i * 2) B1 (o1 + k) x.tx t (some ⟨B1, o1, none⟩) x.n x.c X := fun X hX => by
              obtain ⟨u0, u1⟩ := Hcx.out X hX
              rw [hxA] at u1
              refine ⟨u0, u1, ?_⟩
              obtain ⟨b', o', hA', hc'⟩ := (hIl.keep hX).2.2 (by omega)
              rw [hxA] at hA'
              injection hA' with hA'
              injection hA' with e1 e2
              subst e1
              subst e2
              exact hc' k t ht
            rw [hxA] at r1
            have hlen : (edg (ps (l.drop (i + 1))) ++ (x.zs.take k).map (fun z => (x.tx, z))).length ≤ 800 := by
              have h1 := Hel.out
              rw [Hed.out, List.length_append, List.length_map] at h1
              rw [List.length_append, List.length_map, List.length_take]
              omega
            obtain ⟨X1, hX1⟩ : ∃ X1, wr.drew.alloc (.cells #[.int .i64 t] 3) = X1 := ⟨_, rfl⟩
            obtain ⟨X2, hX2⟩ : ∃ X2, X1.alloc (.cells #[.int .i64 x.tx, .slice (some ⟨wr.heap.size, 0, none⟩) 1 1] 29) = X2 := ⟨_, rfl⟩
            obtain ⟨m1, m2, A6, c6, w6, hrA, hom6, hm6⟩ := (HO2.out.keep (Mod.refl _ wr).drew).step (HM2.out.drew).size (by omega) x.tx t hX1 hX2
            have hM6 : Mod (fun _ => False) W w6 := (HM2.out.drew).trans hm6 (fun j hj e => by omega)
            have HS0 := Lib.hid (hsr wr.drew HM2.out.drew)
            have HS1 := Lib.hid (hsr X1 (HM2.out.drew.trans m1 (fun _ _ h => h)))
            have HS2 := Lib.hid (hsr X2 (HM2.out.drew.trans m2 (fun _ _ h => h)))
            have HS6 := Lib.hid (hsr w6 hM6)
            have HO6 := Lib.hid hom6
            have HM6 := Lib.hid hM6
            have Ht := Lib.hid ht
            have hkn : (k : Int) < (x.n : Int) := by omega
            have hk0 : (0 : Int) ≤ (k : Int) := by omega
            clear hIl ht hxA hsr hlen m1 m2 hom6 hm6 hM6
            go_wp2_with fail
            refine wp_region_held (S := (Sr g (o + i * 2) B1 (o1 + k) x.tx t (some ⟨B1, o1, none⟩) x.n x.c)) (by kernel_rfl) ?_
            have hI := HS0.out
            refine rg_take (n := 18) (v := ?_) 0 (some 39) rfl rfl (by kernel_rfl) (by kernel_rfl) (by kernel_rfl) (fun _ _ _ h => h) (by rfl) hI ?_ ?_
            rotate_left
            · ((intro w hSw; obtain ⟨q0, q1, q2⟩ := hSw; go_simp); (try with_reducible rfl))
            try simp only [Act.put, List.setIfInBounds_toArray, List.set_cons_zero, List.set_cons_succ]
            refine rg_take (n := 17) (v := ?_) 1 (some 40) rfl rfl (by kernel_rfl) (by kernel_rfl) (by kernel_rfl) (fun _ _ _ h => h) (by rfl) hI ?_ ?_
            rotate_left
            · ((intro w hSw; obtain ⟨q0, q1, q2⟩ := hSw; go_simp); (try with_reducible rfl))
            try simp only [Act.put, List.setIfInBounds_toArray, List.set_cons_zero, List.set_cons_succ]
            refine rg_take (n := 16) (v := ?_) 2 (some 41) rfl rfl (by kernel_rfl) (by kernel_rfl) (by kernel_rfl) (fun _ _ _ h => h) (by rfl) hI ?_ ?_
            rotate_left
            · ((intro w hSw; obtain ⟨q0, q1, q2⟩ := hSw; go_simp); (try with_reducible rfl))
            try simp only [Act.put, List.setIfInBounds_toArray, List.set_cons_zero, List.set_cons_succ]
            refine rg_take (n := 15) (v := ?_) 3 (some 42) rfl rfl (by kernel_rfl) (by kernel_rfl) (by kernel_rfl) (fun _ _ _ h => h) (by rfl) hI ?_ ?_
            rotate_left
            · ((intro w hSw; obtain ⟨q0, q1, q2⟩ := hSw; go_simp); (try with_reducible rfl))
            try simp only [Act.put, List.setIfInBounds_toArray, List.set_cons_zero, List.set_cons_succ]
            refine rg_take (n := 14) (v := ?_) 4 (some 43) rfl rfl (by kernel_rfl) (by kernel_rfl) (by kernel_rfl) (fun _ _ _ h => h) (by rfl) hI ?_ ?_
            rotate_left
            · ((intro w hSw; obtain ⟨q0, q1, q2⟩ := hSw; go_simp); (try with_reducible rfl))
            try simp only [Act.put, List.setIfInBounds_toArray, List.set_cons_zero, List.set_cons_succ]
            refine rg_take (n := 13) (v := ?_) 5 (some 44) rfl rfl (by kernel_rfl) (by kernel_rfl) (by kernel_rfl) (fun _ _ _ h => h) (by rfl) hI ?_ ?_
            rotate_left
            · ((intro w hSw; obtain ⟨q0, q1, q2⟩ := hSw; go_simp); (try with_reducible rfl))
            try simp only [Act.put, List.setIfInBounds_toArray, List.set_cons_zero, List.set_cons_succ]
            refine rg_take (n := 12) (v := ?_) 6 (some 45) rfl rfl (by kernel_rfl) (by kernel_rfl) (by kernel_rfl) (fun _ _ _ h => h) (by rfl) hI ?_ ?_
            rotate_left
            · ((intro w hSw; obtain ⟨q0, q1, q2⟩ := hSw; go_simp); (try with_reducible rfl))
            try simp only [Act.put, List.setIfInBounds_toArray, List.set_cons_zero, List.set_cons_succ]
            refine rg_take (n := 11) (v := ?_) 7 (some 46) rfl rfl (by kernel_rfl) (by kernel_rfl) (by kernel_rfl) (fun _ _ _ h => h) (by rfl) hI ?_ ?_
            rotate_left
            · ((intro w hSw; obtain ⟨q0, q1, q2⟩ := hSw; go_simp); (try with_reducible rfl))
            try simp only [Act.put, List.setIfInBounds_toArray, List.set_cons_zero, List.set_cons_succ]
            refine rg_take (n := 10) (v := ?_) 8 (some 47) rfl rfl (by kernel_rfl) (by kernel_rfl) (by kernel_rfl) (fun _ _ _ h => h) (by rfl) hI ?_ ?_
            rotate_left
            · ((intro w hSw; obtain ⟨q0, q1, q2⟩ := hSw; go_simp); (try with_reducible rfl))
            try simp only [Act.put, List.setIfInBounds_toArray, List.set_cons_zero, List.set_cons_succ]
            refine rg_take (n := 9) (v := ?_) 9 (some 48) rfl rfl (by kernel_rfl) (by kernel_rfl) (by kernel_rfl) (fun _ _ _ h => h) (by rfl) hI ?_ ?_
            rotate_left
            · ((intro w hSw; obtain ⟨q0, q1, q2⟩ := hSw; go_simp); (try with_reducible rfl))
            try simp only [Act.put, List.setIfInBounds_toArray, List.set_cons_zero, List.set_cons_succ]
            refine rg_take (n := 8) (v := ?_) 10 (some 49) rfl rfl (by kernel_rfl) (by kernel_rfl) (by kernel_rfl) (fun _ _ _ h => h) (by rfl) hI ?_ ?_
            rotate_left
            · ((intro w hSw; obtain ⟨q0, q1, q2⟩ := hSw; go_simp); (try with_reducible rfl))
            try simp only [Act.put, List.setIfInBounds_toArray, List.set_cons_zero, List.set_cons_succ]
            refine rg_take (n := 7) (v := ?_) 11 (some 50) rfl rfl (by kernel_rfl) (by kernel_rfl) (by kernel_rfl) (fun _ _ _ h => h) (by rfl) hI ?_ ?_
            rotate_left
            · ((intro w hSw; obtain ⟨q0, q1, q2⟩ := hSw; go_simp); (try with_reducible rfl))
            try simp only [Act.put, List.setIfInBounds_toArray, List.set_cons_zero, List.set_cons_succ]
            refine rg_take (n := 6) (v := ?_) 12 (some 51) rfl rfl (by kernel_rfl) (by kernel_rfl) (by kernel_rfl) (fun _ _ _ h => h) (by rfl) hI ?_ ?_
            rotate_left
            · ((intro w hSw; obtain ⟨q0, q1, q2⟩ := hSw; go_simp); (try with_reducible rfl))
            try simp only [Act.put, List.setIfInBounds_toArray, List.set_cons_zero, List.set_cons_succ]
            refine rg_take (n := 5) (v := ?_) 13 (some 52) rfl rfl (by kernel_rfl) (by kernel_rfl) (by kernel_rfl) (fun _ _ _ h => h) (by rfl) hI ?_ ?_
            rotate_left
            · ((intro w hSw; obtain ⟨q0, q1, q2⟩ := hSw; go_simp); (try with_reducible rfl))
            try simp only [Act.put, List.setIfInBounds_toArray, List.set_cons_zero, List.set_cons_succ]
            refine rg_run (n := 4) (v := .slice (some ⟨wr.heap.size, 0, none⟩) 1 1) (w2 := X1) 14 (some 53) rfl rfl (by kernel_rfl) (by rfl) HS1.out ?_ ?_
            · (go_simp; (try with_reducible rfl))
            try simp only [Act.put, List.setIfInBounds_toArray, List.set_cons_zero, List.set_cons_succ]
            clear hI
            have hI := HS1.out
            refine rg_take (n := 3) (v := ?_) 15 (some 54) rfl rfl (by kernel_rfl) (by kernel_rfl) (by kernel_rfl) (fun _ _ _ h => h) (by rfl) hI ?_ ?_
            rotate_left
            · ((intro w hSw; obtain ⟨q0, q1, q2⟩ := hSw; go_simp); (try with_reducible rfl))
            try simp only [Act.put, List.setIfInBounds_toArray, List.set_cons_zero, List.set_cons_succ]
            refine rg_run (n := 2) (v := .slice (some ⟨X1.heap.size, 0, none⟩) 1 1) (w2 := X2) 16 (some 55) rfl rfl (by kernel_rfl) (by rfl) HS2.out ?_ ?_
            · (go_simp; (try with_reducible rfl))
            try simp only [Act.put, List.setIfInBounds_toArray, List.set_cons_zero, List.set_cons_succ]
            clear hI
            have hI := HS2.out
            refine rg_run (n := 1) (v := .slice A6 (M.length + 1) c6) (w2 := w6) 17 (some 56) rfl rfl (by kernel_rfl) (by rfl) HS6.out ?_ ?_
            · exact exec_app rfl rfl rfl hrA
            try simp only [Act.put, List.setIfInBounds_toArray, List.set_cons_zero, List.set_cons_succ]
            clear hI
            have hI := HS6.out
            refine rg_take (n := 0) (v := ?_) 18 (some 9) rfl rfl (by kernel_rfl) (by kernel_rfl) (by kernel_rfl) (fun _ _ _ h => h) (by rfl) hI ?_ ?_
            rotate_left
            · ((intro w hSw; obtain ⟨q0, q1, q2⟩ := hSw; go_simp); (try with_reducible rfl))
            try simp only [Act.put, List.setIfInBounds_toArray, List.set_cons_zero, List.set_cons_succ]
            refine wpAnyH_done (by kernel_rfl) ?_ _
            clear hI
            clear r0 r1 hX1 hX2 hrA HS0 HS1 HS2 HS6 HO2 HM2
            go_wp2
            go_roundw
            case rel =>
              refine ⟨k + 1, A6, M ++ [⟨x.tx, some ⟨wr.heap.size, 0, none⟩, 1, 1, [t]⟩], c6, by omega, by simp, by go_num, ?_, HM6.out⟩
              rw [take_succ_at Ht.out, List.map_append, ← List.append_assoc]
              exact HO6.out
            case measure => simp [intOf]; omega
          · obtain rfl : k = x.n := by omega
            have HO3 : Hid (Om wr W.heap.size A c M (edg (ps (l.drop i)))) := by
              have h1 := HO2.out
              have e : x.zs.take x.n = x.zs := List.take_of_length_le (by rw [Hzl.out]; exact Nat.le_refl _)
              rw [e] at h1
              refine h1.cong (fun e => ?_) ?_
              · rw [Hed.out, List.mem_append, List.mem_append]; exact Or.comm
              · rw [Hed.out, List.length_append, List.length_append]; omega
            clear HO2
            go_wp2
            go_roundw
            case rel => exact ⟨i, A, M, c, by omega, rfl, by go_num, HO3.out, HM2.out⟩
            case measure => first | (simp [intOf]; done) | (simp [intOf]; omega)
end Go.Proofs.Ytbdfolopnocjmaa
