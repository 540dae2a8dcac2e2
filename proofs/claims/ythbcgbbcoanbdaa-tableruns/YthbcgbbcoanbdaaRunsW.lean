/-
  TableRuns: any calls, of a table that New makes, make the tables that the document says.
-/
import Derived.Test.YthbcgbbcoanbdaaRDoes
import Derived.Test.YthbcgbbcoanbdaaRNew2
import Derived.Test.YthbcgbbcoanbdaaRSame
import Derived.Deep.RegionHeld3
import Derived.Deep.DeepCutAuto
namespace Go.Proofs.Ythbcgbbcoanbdaa
open Go Go.RowKit

theorem l_same {w W : World} {b b' : Nat} {y y' : TV} {T : Tb} (h : Tbl w W b y T) (h' : Tbl w W b' y' T) (hl : T.pg.length ≤ 1000 ∧ T.sg.length ≤ 1000) :
    Calls Try.prog 11 #[.agg #[.slice y.P y.n y.c, .slice y.S y.m y.d, .int .i64 y.t.sl, .int .i64 y.t.nw], .agg #[.slice y'.P y'.n y'.c, .slice y'.S y'.m y'.d, .int .i64 y'.t.sl, .int .i64 y'.t.nw]] W fun e w' => e = .returned (.bool true) ∧ Mod (fun _ => False) W w' := by
  have n1 := h.n
  have n2 := h'.n
  have m1 := h.m
  have m2 := h'.m
  have t1 := h.t
  have t2 := h'.t
  have a1 := h.at_
  have a2 := h'.at_
  obtain ⟨P, n, c, S, m, d, t⟩ := y
  obtain ⟨P', n', c', S', m', d', t'⟩ := y'
  replace n1 : n = T.pg.length := n1
  replace n2 : n' = T.pg.length := n2
  replace m1 : m = T.sg.length := m1
  replace m2 : m' = T.sg.length := m2
  replace t1 : t = T := t1
  replace t2 : t' = T := t2
  subst t1
  subst t2
  subst n1
  subst n2
  subst m1
  subst m2
  exact same_ok W P P' S S' _ _ c c' d d' _ a1 a2 hl.1 hl.2
def orNo (E : Int) (T : Tb) : Tb := if E = 0 then T else noTb
def TbAn2 (w w' : World) (E : Int) (T : Tb) (e : Ending) : Prop :=
  ∃ y : TV, e = .returned (.tuple #[.agg #[.slice y.P y.n y.c, .slice y.S y.m y.d, .int .i64 y.t.sl, .int .i64 y.t.nw], .int .i64 E]) ∧ y.At w' ∧ y.t = T ∧ Mod (fun _ => False) w w'
/-- A table that a call has answered, in a box that was made in w or behind it. -/
structure TbIn (w0 w W : World) (b : Nat) (z : TV) (T : Tb) : Prop where
  tbl : Tbl w0 W b z T
  mod : Mod (fun _ => False) w W
  lo : w.heap.size ≤ b
theorem TbIn.late {w0 w w7 : World} {z : TV} {T : Tb} (ho : Mod (fun _ => False) w0 w) (hm : Mod (fun _ => False) w w7) (hz : z.At w7) (ht : z.t = T) :
    TbIn w0 w (w7.alloc (.cells #[.slice z.P z.n z.c, .slice z.S z.m z.d, .int .i64 z.t.sl, .int .i64 z.t.nw] 27)) w7.heap.size z T := ⟨Tbl.new (ho.trans hm (fun _ _ h => h)) hz ht, hm.alloc _, hm.size⟩
theorem TbIn.early {w0 w w7 : World} {z : TV} {T : Tb} (ho : Mod (fun _ => False) w0 w) (hm : Mod (fun _ => False) (w.drew.alloc (.cells #[.slice none 0 0, .slice none 0 0, .int .i64 0, .int .i64 0] 27)) w7) (hz : z.At w7) (ht : z.t = T) :
    TbIn w0 w ((((w7.setCell ⟨w.heap.size, 0, none⟩ (.slice z.P z.n z.c)).setCell ⟨w.heap.size, 1, none⟩ (.slice z.S z.m z.d)).setCell ⟨w.heap.size, 2, none⟩ (.int .i64 z.t.sl)).setCell ⟨w.heap.size, 3, none⟩ (.int .i64 z.t.nw)) w.heap.size z T := by
  have hb : TBx w7 w.heap.size z0 := (TBx.new w.drew z0).keep hm
  have hw : Mod (fun _ => False) w w7 := ((Mod.refl (fun _ => False) w).drew.alloc _).trans hm (fun _ _ h => h)
  have hm2 : Mod (fun _ => False) w (stT w7 w.heap.size z) := ((hw.mono (G := fun k => w.heap.size ≤ k) (fun _ _ h => h.elim)).trans (stT_mod w7 w.heap.size z) (fun k _ e => by show w.heap.size ≤ k; omega)).mono (fun k hk e => by omega)
  exact ⟨⟨hb.set z, hz.store hb (stT_mod w7 _ z), ht, ho.trans hm2 (fun _ _ h => h), ho.size⟩, hm2, Nat.le_refl _⟩
theorem l_rdoes {w W : World} {b : Nat} {z : TV} {T : Tb} (h : Tbl w W b z T) (hm : T.May) (y : OpD) :
    Calls Try.prog 13 #[.agg #[.slice z.P z.n z.c, .slice z.S z.m z.d, .int .i64 z.t.sl, .int .i64 z.t.nw], .agg #[.int .i64 y.kind, .int .i64 y.page, .int .i64 y.at_, .int .i64 y.seg, .int .i64 y.p.a, .int .i64 y.p.b, .int .i64 y.p.c]] W fun e w' => TbAns W w' (doesE T y) (doesT T y) e := by
  have := rdoes_ok W z h.at_ (by rw [h.t]; exact hm) y
  rw [h.t] at this ⊢
  exact this
theorem atS_rep {v : Tr} {k i : Nat} (h : i < k) : atS (List.replicate k v) i = v := by
  unfold atS
  rw [List.getD_eq_getElem?_getD, List.getElem?_replicate, if_pos h]
  rfl
theorem new_may {p s k : Int} (h : newE p s k = 0) : (newT p s k).May := by
  unfold newE at h
  have hz : sizB p s k = true := by
    cases hs : sizB p s k with
    | true => rfl
    | false => rw [hs] at h; simp at h
  unfold sizB at hz
  simp only [Bool.and_eq_true, inB_iff] at hz
  obtain ⟨⟨⟨p1, p2⟩, s1, s2⟩, k1, k2⟩ := hz
  have lp : (newT p s k).pg.length = p.toNat := List.length_replicate
  have ls : (newT p s k).sg.length = s.toNat := List.length_replicate
  refine ⟨by rw [lp]; omega, by rw [lp]; omega, by rw [ls]; omega, by rw [ls]; omega, k1, k2, Int.le_refl _, (by show (0 : Int) ≤ _; decide), fun i hi => ?_, ?_, fun i hi => ?_⟩
  · have e : atS (newT p s k).sg i = noT := atS_rep (by rw [ls] at hi; exact hi)
    unfold sgF
    rw [e]
    exact segB_iff.2 (.inl rfl)
  · have : cnt (stF 1 (newT p s k)) (newT p s k).sg.length = 0 := cnt_none.2 (fun i hi => by
      have e : atS (newT p s k).sg i = noT := atS_rep (by rw [ls] at hi; exact hi)
      unfold stF
      rw [e]
      rfl)
    omega
  · have e : atS (newT p s k).pg i = emT := atS_rep (by rw [lp] at hi; exact hi)
    exact pgB_mk (.inl e)

set_option maxRecDepth 100000 in
set_option maxHeartbeats 6400000 in
theorem runs_walk (p s k : Int) (A : Option Addr) (n c : Nat) (l : List OpD) (W : World) (hl : OpsAt W A n c l) :
    Calls Try.prog 3 #[.int .i64 p, .int .i64 s, .int .i64 k, .slice A n c] W fun e w' => e = .returned (.bool true) ∧ Below W.heap.size W w' := by
  by_cases hn : n ≤ 80
  rotate_left
  · have hd : decide ((80 : Int) < (n : Int)) = true := by rw [decide_eq_true_eq]; omega
    clear hl
    go_enter Try.func3, Try.ntmps3
    go_wp2_with fail
    refine (awake_ok _).mono ?_
    rintro e w1 ⟨rfl, hm1⟩
    go_wp2
    go_ret
    exact ⟨rfl, hm1.below (Nat.le_refl _) (fun _ _ => id)⟩
  have hd : decide ((80 : Int) < (n : Int)) = false := by rw [decide_eq_false_iff_not]; omega
  have HN := Lib.hid (fun V => new_ok V p s k)
  have HR := Lib.hid (fun V => rnew_ok V p s k)
  have Hl0 := Lib.hid hl
  by_cases hz : newE p s k = 0
  rotate_left
  · have hE0 : (newE p s k == 0) = false := by simpa using hz
    have hEE : (newE p s k != newE p s k) = false := by simp
    have Hz := Lib.hid hz
    have L : Hid (noTb.pg.length ≤ 1000 ∧ noTb.sg.length ≤ 1000) := Lib.hid ⟨Nat.zero_le _, Nat.zero_le _⟩
    clear hz
    generalize newE p s k = E at *
    go_enter Try.func3, Try.ntmps3
    go_wp2_with fail
    refine (awake_ok _).mono ?_
    rintro e w1 ⟨rfl, hm1⟩
    have Hm1 := Lib.hid hm1
    have Hl1 := Lib.hid (hl.keep hm1)
    clear hm1 hl
    go_wp2_with fail
    refine (HN.out w1).mono ?_
    rintro e w2 ⟨z, rfl, ha, ht, hm2⟩
    rw [if_neg Hz.out] at ht
    have HA := Lib.hid (Tbl.new (T := noTb) (Hm1.out.trans hm2 (fun _ _ h => h)) ha ht)
    obtain ⟨v2, hv2⟩ : ∃ v2, w2.alloc (.cells #[.slice z.P z.n z.c, .slice z.S z.m z.d, .int .i64 z.t.sl, .int .i64 z.t.nw] 27) = v2 := ⟨_, rfl⟩
    rw [hv2] at HA
    have hmv2 : Mod (fun _ => False) w2 v2 := by rw [← hv2]; exact (Mod.refl _ w2).alloc _
    have Hl2 := Lib.hid ((Hl1.out.keep hm2).keep hmv2)
    clear ha ht hm2 hmv2 Hl1
    go_wp2_with fail
    clear hv2
    refine (HR.out v2).mono ?_
    rintro e w3 ⟨y, rfl, ha, ht, hm3⟩
    rw [if_neg Hz.out] at ht
    have HA3 := Lib.hid (HA.out.keep hm3)
    have HB := Lib.hid (Tbl.new (T := noTb) (HA3.out.old) ha ht)
    obtain ⟨v3, hv3⟩ : ∃ v3, w3.alloc (.cells #[.slice y.P y.n y.c, .slice y.S y.m y.d, .int .i64 y.t.sl, .int .i64 y.t.nw] 27) = v3 := ⟨_, rfl⟩
    rw [hv3] at HB
    have hmv3 : Mod (fun _ => False) w3 v3 := by rw [← hv3]; exact (Mod.refl _ w3).alloc _
    have HA4 := Lib.hid (HA3.out.keep hmv3)
    have Hl4 := Lib.hid ((Hl2.out.keep hm3).keep hmv3)
    have hne : w2.heap.size < w3.heap.size := Nat.lt_of_lt_of_le HA.out.bx.lt hm3.size
    have Hne := Lib.hid hne
    clear ha ht hm3 hmv3 hne Hl2
    obtain ⟨c0, c1, c2, c3⟩ := HA4.out.bx.cells
    obtain ⟨d0, d1, d2, d3⟩ := HB.out.bx.cells
    have HS := Lib.hid (l_same HA4.out HB.out L.out)
    go_wp2_with fail
    clear hv3 c0 c1 c2 c3 d0 d1 d2 d3
    refine HS.out.mono ?_
    rintro e w4 ⟨rfl, hm4⟩
    have HA5 := Lib.hid (HA4.out.keep hm4)
    have HB5 := Lib.hid (HB.out.keep hm4)
    have Hl5 := Lib.hid (Hl4.out.keep hm4)
    clear hm4 HS HA HA3 HA4 HB Hl4 Hm1
    generalize w2.heap.size = b10 at *
    generalize w3.heap.size = b12 at *
    go_wp2_with fail
    go_loopw [15] (fun i wr => i = .int .i64 0 ∧ Mod (fun _ => False) W wr) (fun i _ => n - (intOf i).toNat)
    case atStart => exact ⟨rfl, HA5.out.old⟩
    case round =>
      obtain ⟨rfl, hmr⟩ := hrel
      by_cases h0 : 0 < n
      · have h1 : (0 : Int) < (n : Int) := by omega
        go_wp2
        go_ret
        exact ⟨rfl, hmr.below (Nat.le_refl _) (fun _ _ => id)⟩
      · obtain rfl : n = 0 := by omega
        go_wp2
        go_ret
        exact ⟨rfl, hmr.below (Nat.le_refl _) (fun _ _ => id)⟩
  have HM0 := Lib.hid (new_may hz)
  have L : Hid ((newT p s k).pg.length ≤ 1000 ∧ (newT p s k).sg.length ≤ 1000) := Lib.hid ⟨Nat.le_trans HM0.out.p2 (by decide), Nat.le_trans HM0.out.s2 (by decide)⟩
  rw [hz] at HN HR
  clear hz
  generalize newT p s k = T0 at *
  go_enter Try.func3, Try.ntmps3
  go_wp2_with fail
  refine (awake_ok _).mono ?_
  rintro e w1 ⟨rfl, hm1⟩
  have Hm1 := Lib.hid hm1
  have Hl1 := Lib.hid (hl.keep hm1)
  clear hm1 hl
  go_wp2_with fail
  refine (HN.out w1).mono ?_
  rintro e w2 ⟨z, rfl, ha, ht, hm2⟩
  rw [if_pos rfl] at ht
  have HA := Lib.hid (Tbl.new (T := T0) (Hm1.out.trans hm2 (fun _ _ h => h)) ha ht)
  obtain ⟨v2, hv2⟩ : ∃ v2, w2.alloc (.cells #[.slice z.P z.n z.c, .slice z.S z.m z.d, .int .i64 z.t.sl, .int .i64 z.t.nw] 27) = v2 := ⟨_, rfl⟩
  rw [hv2] at HA
  have hmv2 : Mod (fun _ => False) w2 v2 := by rw [← hv2]; exact (Mod.refl _ w2).alloc _
  have Hl2 := Lib.hid ((Hl1.out.keep hm2).keep hmv2)
  clear ha ht hm2 hmv2 Hl1
  go_wp2_with fail
  clear hv2
  refine (HR.out v2).mono ?_
  rintro e w3 ⟨y, rfl, ha, ht, hm3⟩
  rw [if_pos rfl] at ht
  have HA3 := Lib.hid (HA.out.keep hm3)
  have HB := Lib.hid (Tbl.new (T := T0) (HA3.out.old) ha ht)
  obtain ⟨v3, hv3⟩ : ∃ v3, w3.alloc (.cells #[.slice y.P y.n y.c, .slice y.S y.m y.d, .int .i64 y.t.sl, .int .i64 y.t.nw] 27) = v3 := ⟨_, rfl⟩
  rw [hv3] at HB
  have hmv3 : Mod (fun _ => False) w3 v3 := by rw [← hv3]; exact (Mod.refl _ w3).alloc _
  have HA4 := Lib.hid (HA3.out.keep hmv3)
  have Hl4 := Lib.hid ((Hl2.out.keep hm3).keep hmv3)
  have hne : w2.heap.size < w3.heap.size := Nat.lt_of_lt_of_le HA.out.bx.lt hm3.size
  have Hne := Lib.hid hne
  clear ha ht hm3 hmv3 hne Hl2
  obtain ⟨c0, c1, c2, c3⟩ := HA4.out.bx.cells
  obtain ⟨d0, d1, d2, d3⟩ := HB.out.bx.cells
  have HS := Lib.hid (l_same HA4.out HB.out L.out)
  go_wp2_with fail
  clear hv3 c0 c1 c2 c3 d0 d1 d2 d3
  refine HS.out.mono ?_
  rintro e w4 ⟨rfl, hm4⟩
  have HA5 := Lib.hid (HA4.out.keep hm4)
  have HB5 := Lib.hid (HB.out.keep hm4)
  have Hl5 := Lib.hid (Hl4.out.keep hm4)
  clear hm4 HS HA HA3 HA4 HB Hl4 Hm1
  generalize w2.heap.size = b10 at *
  generalize w3.heap.size = b12 at *
  go_wp2_with fail
  clear L
  go_loopw [15] (fun i wr => ∃ (j : Nat) (T : Tb) (y y' : TV), j ≤ n ∧ i = .int .i64 j ∧ Tbl W wr b10 y T ∧ Tbl W wr b12 y' T ∧ T.May) (fun i _ => n - (intOf i).toNat)
  case atStart => exact ⟨0, T0, z, y, Nat.zero_le _, rfl, HA5.out, HB5.out, HM0.out⟩
  case round =>
    obtain ⟨j, T, y, y', hj, rfl, ht1, ht2, hmay⟩ := hrel
    have H1 := Lib.hid ht1
    have H2 := Lib.hid ht2
    have HMAY := Lib.hid hmay
    have L : Hid (T.pg.length ≤ 1000 ∧ T.sg.length ≤ 1000) := Lib.hid ⟨Nat.le_trans hmay.p2 (by decide), Nat.le_trans hmay.s2 (by decide)⟩
    clear ht1 ht2 hmay
    by_cases hlt : j < n
    rotate_left
    · obtain rfl : j = n := by omega
      go_wp2
      go_ret
      exact ⟨rfl, H1.out.old.below (Nat.le_refl _) (fun _ _ => id)⟩
    obtain ⟨q, hq⟩ : ∃ q, l[j]? = some q := ⟨_, List.getElem?_eq_getElem (by rw [Hl5.out.len]; exact hlt)⟩
    have Hk : Hid (∃ b o, A = some ⟨b, o, none⟩ ∧ ∀ w', Mod (fun _ => False) W w' → q.In w' b (o + j * 7)) := by
      obtain ⟨b, o, hA, hc⟩ := Hl5.out.cells (by omega)
      refine ⟨b, o, hA, fun w' hm' => ?_⟩
      obtain ⟨b', o', hA', hc'⟩ := (Hl0.out.keep hm').cells (by omega)
      rw [hA] at hA'
      injection hA' with hA'
      injection hA' with e1 e2
      subst e1; subst e2
      exact hc' j q hq
    obtain ⟨b, o, hA, hcs⟩ := Hk.out
    subst hA
    have Hcs := Lib.hid hcs
    obtain ⟨o0, o1, o2, o3, o4, o5, o6⟩ := hcs wr H1.out.old
    obtain ⟨c0, c1, c2, c3⟩ := H1.out.bx.cells
    have hji : (j : Int) < (n : Int) := by omega
    have hj0 : (0 : Int) ≤ (j : Int) := by omega
    have Hmk := Lib.hid (fun (h0 : doesE T q = 0) => does_may h0 HMAY.out)
    have HD : Hid (∀ V, Mod (fun _ => False) wr V → Calls Try.prog 12 #[.agg #[.slice y.P y.n y.c, .slice y.S y.m y.d, .int .i64 y.t.sl, .int .i64 y.t.nw], .agg #[.int .i64 q.kind, .int .i64 q.page, .int .i64 q.at_, .int .i64 q.seg, .int .i64 q.p.a, .int .i64 q.p.b, .int .i64 q.p.c]] V fun e w' => TbAn2 V w' (doesE T q) (orNo (doesE T q) (doesT T q)) e) := fun V hV => (l_does (H1.out.keep hV) L.out q).mono (fun e w' h => h)
    have HRD : Hid (∀ V, Tbl W V b12 y' T → Calls Try.prog 13 #[.agg #[.slice y'.P y'.n y'.c, .slice y'.S y'.m y'.d, .int .i64 y'.t.sl, .int .i64 y'.t.nw], .agg #[.int .i64 q.kind, .int .i64 q.page, .int .i64 q.at_, .int .i64 q.seg, .int .i64 q.p.a, .int .i64 q.p.b, .int .i64 q.p.c]] V fun e w' => TbAn2 V w' (doesE T q) (orNo (doesE T q) (doesT T q)) e) := fun V hV => (l_rdoes hV HMAY.out q).mono (fun e w' h => h)
    clear hcs Hk hq
    generalize hE : doesE T q = E at *
    generalize doesT T q = T' at *
    clear hE
    have HI : Hid (∀ V, Mod (fun _ => False) wr V → (fun w' => (w'.cell? ⟨b10, 0, none⟩ = some (.slice y.P y.n y.c) ∧ w'.cell? ⟨b10, 1, none⟩ = some (.slice y.S y.m y.d) ∧ w'.cell? ⟨b10, 2, none⟩ = some (.int .i64 y.t.sl) ∧ w'.cell? ⟨b10, 3, none⟩ = some (.int .i64 y.t.nw)) ∧ w'.cell? ⟨b, o + j * 7, none⟩ = some (.int .i64 q.kind) ∧ w'.cell? ⟨b, o + j * 7 + 1, none⟩ = some (.int .i64 q.page) ∧ w'.cell? ⟨b, o + j * 7 + 2, none⟩ = some (.int .i64 q.at_) ∧ w'.cell? ⟨b, o + j * 7 + 3, none⟩ = some (.int .i64 q.seg) ∧ w'.cell? ⟨b, o + j * 7 + 4, none⟩ = some (.int .i64 q.p.a) ∧ w'.cell? ⟨b, o + j * 7 + 5, none⟩ = some (.int .i64 q.p.b) ∧ w'.cell? ⟨b, o + j * 7 + 6, none⟩ = some (.int .i64 q.p.c)) V) := fun V hV => ⟨(H1.out.keep hV).bx.cells, Hcs.out V (H1.out.keep hV).old⟩
    have Hea : Hid (∀ (R : Prop) (w7 : World), Mod (fun _ => False) (wr.drew.alloc (.cells #[.slice none 0 0, .slice none 0 0, .int .i64 0, .int .i64 0] 27)) w7 → (w7.cell? ⟨wr.heap.size, 0, none⟩ = some (.slice none 0 0) → w7.cell? ⟨wr.heap.size, 1, none⟩ = some (.slice none 0 0) → w7.cell? ⟨wr.heap.size, 2, none⟩ = some (.int .i64 0) → w7.cell? ⟨wr.heap.size, 3, none⟩ = some (.int .i64 0) → w7.frozen? ⟨wr.heap.size, 0, none⟩ = false → w7.frozen? ⟨wr.heap.size, 1, none⟩ = false → w7.frozen? ⟨wr.heap.size, 2, none⟩ = false → w7.frozen? ⟨wr.heap.size, 3, none⟩ = false → R) → R) := fun R w7 hm h => by
      have hb : TBx w7 wr.heap.size z0 := (TBx.new wr.drew z0).keep hm
      exact h hb.cells.1 hb.cells.2.1 hb.cells.2.2.1 hb.cells.2.2.2 (hb.frozen 0) (hb.frozen 1) (hb.frozen 2) (hb.frozen 3)
    have Hold := Lib.hid H1.out.old
    go_upto_region 12 with fail
    go_cut [16, 17] (fun p e wx => ∃ bx z, p = .pointer (some ⟨bx, 0, none⟩) ∧ e = .int .i64 E ∧ TbIn W wr wx bx z (orNo E T'))
    case first =>
      go_region_held3 (fun w' => (w'.cell? ⟨b10, 0, none⟩ = some (.slice y.P y.n y.c) ∧ w'.cell? ⟨b10, 1, none⟩ = some (.slice y.S y.m y.d) ∧ w'.cell? ⟨b10, 2, none⟩ = some (.int .i64 y.t.sl) ∧ w'.cell? ⟨b10, 3, none⟩ = some (.int .i64 y.t.nw)) ∧ w'.cell? ⟨b, o + j * 7, none⟩ = some (.int .i64 q.kind) ∧ w'.cell? ⟨b, o + j * 7 + 1, none⟩ = some (.int .i64 q.page) ∧ w'.cell? ⟨b, o + j * 7 + 2, none⟩ = some (.int .i64 q.at_) ∧ w'.cell? ⟨b, o + j * 7 + 3, none⟩ = some (.int .i64 q.seg) ∧ w'.cell? ⟨b, o + j * 7 + 4, none⟩ = some (.int .i64 q.p.a) ∧ w'.cell? ⟨b, o + j * 7 + 5, none⟩ = some (.int .i64 q.p.b) ∧ w'.cell? ⟨b, o + j * 7 + 6, none⟩ = some (.int .i64 q.p.c)) (first | exact HI.out _ (Mod.refl (fun _ => False) wr).drew | exact HI.out _ ((Mod.refl (fun _ => False) wr).drew.alloc _) | exact HI.out _ ((Mod.refl (fun _ => False) wr).drew.trans hm4 (fun _ _ h => h)) | exact HI.out _ (((Mod.refl (fun _ => False) wr).drew.trans hm4 (fun _ _ h => h)).alloc _) | exact HI.out _ (((Mod.refl (fun _ => False) wr).drew.alloc _).trans hm4 (fun _ _ h => h)) | exact HI.out _ (TbIn.early Hold.out hm4 ha4 ht4.out).mod) ((go_at_call 12; refine (HD.out _ (by first | exact (Mod.refl (fun _ => False) wr).drew | exact (Mod.refl (fun _ => False) wr).drew.alloc _)).mono ?_; rintro e w4 ⟨z, rfl, ha4, ht4', hm4⟩; have ht4 := Lib.hid ht4'; clear ht4'; first | (refine Hea.out _ _ hm4 ?_; intro y0 y1 y2 y3 y4 y5 y6 y7) | skip))
      all_goals
        go_wp2_with fail
        go_meet
        first
          | exact ⟨_, z, rfl, rfl, TbIn.late Hold.out ((Mod.refl (fun _ => False) wr).drew.trans hm4 (fun _ _ h => h)) ha4 ht4.out⟩
          | exact ⟨_, z, rfl, rfl, TbIn.early Hold.out hm4 ha4 ht4.out⟩
    case rest =>
    clear HI Hea Hold
    obtain ⟨b16, z, rfl, rfl, hin⟩ := hcut
    have HU := Lib.hid hin.tbl
    have H1f := Lib.hid (H1.out.keep hin.mod)
    have H2f := Lib.hid (H2.out.keep hin.mod)
    obtain ⟨v1, hv1⟩ : ∃ v, v = wc := ⟨_, rfl⟩
    subst hv1
    clear hin HD c0 c1 c2 c3 o0 o1 o2 o3 o4 o5 o6
    obtain ⟨c0, c1, c2, c3⟩ := H2f.out.bx.cells
    obtain ⟨o0, o1, o2, o3, o4, o5, o6⟩ := Hcs.out v1 H1f.out.old
    have HRd := Lib.hid (fun V (hV : Mod (fun _ => False) v1 V) => HRD.out V (H2f.out.keep hV))
    have HI : Hid (∀ V, Mod (fun _ => False) v1 V → (fun w' => (w'.cell? ⟨b12, 0, none⟩ = some (.slice y'.P y'.n y'.c) ∧ w'.cell? ⟨b12, 1, none⟩ = some (.slice y'.S y'.m y'.d) ∧ w'.cell? ⟨b12, 2, none⟩ = some (.int .i64 y'.t.sl) ∧ w'.cell? ⟨b12, 3, none⟩ = some (.int .i64 y'.t.nw)) ∧ w'.cell? ⟨b, o + j * 7, none⟩ = some (.int .i64 q.kind) ∧ w'.cell? ⟨b, o + j * 7 + 1, none⟩ = some (.int .i64 q.page) ∧ w'.cell? ⟨b, o + j * 7 + 2, none⟩ = some (.int .i64 q.at_) ∧ w'.cell? ⟨b, o + j * 7 + 3, none⟩ = some (.int .i64 q.seg) ∧ w'.cell? ⟨b, o + j * 7 + 4, none⟩ = some (.int .i64 q.p.a) ∧ w'.cell? ⟨b, o + j * 7 + 5, none⟩ = some (.int .i64 q.p.b) ∧ w'.cell? ⟨b, o + j * 7 + 6, none⟩ = some (.int .i64 q.p.c)) V) := fun V hV => ⟨(H2f.out.keep hV).bx.cells, Hcs.out V (H2f.out.keep hV).old⟩
    have Hea : Hid (∀ (R : Prop) (w7 : World), Mod (fun _ => False) (v1.drew.alloc (.cells #[.slice none 0 0, .slice none 0 0, .int .i64 0, .int .i64 0] 27)) w7 → (w7.cell? ⟨v1.heap.size, 0, none⟩ = some (.slice none 0 0) → w7.cell? ⟨v1.heap.size, 1, none⟩ = some (.slice none 0 0) → w7.cell? ⟨v1.heap.size, 2, none⟩ = some (.int .i64 0) → w7.cell? ⟨v1.heap.size, 3, none⟩ = some (.int .i64 0) → w7.frozen? ⟨v1.heap.size, 0, none⟩ = false → w7.frozen? ⟨v1.heap.size, 1, none⟩ = false → w7.frozen? ⟨v1.heap.size, 2, none⟩ = false → w7.frozen? ⟨v1.heap.size, 3, none⟩ = false → R) → R) := fun R w7 hm h => by
      have hb : TBx w7 v1.heap.size z0 := (TBx.new v1.drew z0).keep hm
      exact h hb.cells.1 hb.cells.2.1 hb.cells.2.2.1 hb.cells.2.2.2 (hb.frozen 0) (hb.frozen 1) (hb.frozen 2) (hb.frozen 3)
    have Hold := Lib.hid H2f.out.old
    go_upto_region 13 with fail
    go_cut [18, 19] (fun p e wx => ∃ bx z, p = .pointer (some ⟨bx, 0, none⟩) ∧ e = .int .i64 E ∧ TbIn W v1 wx bx z (orNo E T'))
    case first =>
      go_region_held3 (fun w' => (w'.cell? ⟨b12, 0, none⟩ = some (.slice y'.P y'.n y'.c) ∧ w'.cell? ⟨b12, 1, none⟩ = some (.slice y'.S y'.m y'.d) ∧ w'.cell? ⟨b12, 2, none⟩ = some (.int .i64 y'.t.sl) ∧ w'.cell? ⟨b12, 3, none⟩ = some (.int .i64 y'.t.nw)) ∧ w'.cell? ⟨b, o + j * 7, none⟩ = some (.int .i64 q.kind) ∧ w'.cell? ⟨b, o + j * 7 + 1, none⟩ = some (.int .i64 q.page) ∧ w'.cell? ⟨b, o + j * 7 + 2, none⟩ = some (.int .i64 q.at_) ∧ w'.cell? ⟨b, o + j * 7 + 3, none⟩ = some (.int .i64 q.seg) ∧ w'.cell? ⟨b, o + j * 7 + 4, none⟩ = some (.int .i64 q.p.a) ∧ w'.cell? ⟨b, o + j * 7 + 5, none⟩ = some (.int .i64 q.p.b) ∧ w'.cell? ⟨b, o + j * 7 + 6, none⟩ = some (.int .i64 q.p.c)) (first | exact HI.out _ (Mod.refl (fun _ => False) v1).drew | exact HI.out _ ((Mod.refl (fun _ => False) v1).drew.alloc _) | exact HI.out _ ((Mod.refl (fun _ => False) v1).drew.trans hm4 (fun _ _ h => h)) | exact HI.out _ (((Mod.refl (fun _ => False) v1).drew.trans hm4 (fun _ _ h => h)).alloc _) | exact HI.out _ (((Mod.refl (fun _ => False) v1).drew.alloc _).trans hm4 (fun _ _ h => h)) | exact HI.out _ (TbIn.early Hold.out hm4 ha4 ht4.out).mod) ((go_at_call 13; refine (HRd.out _ (by first | exact (Mod.refl (fun _ => False) v1).drew | exact (Mod.refl (fun _ => False) v1).drew.alloc _)).mono ?_; rintro e w4 ⟨z, rfl, ha4, ht4', hm4⟩; have ht4 := Lib.hid ht4'; clear ht4'; first | (refine Hea.out _ _ hm4 ?_; intro y0 y1 y2 y3 y4 y5 y6 y7) | skip))
      all_goals
        go_wp2_with fail
        go_meet
        first
          | exact ⟨_, z, rfl, rfl, TbIn.late Hold.out ((Mod.refl (fun _ => False) v1).drew.trans hm4 (fun _ _ h => h)) ha4 ht4.out⟩
          | exact ⟨_, z, rfl, rfl, TbIn.early Hold.out hm4 ha4 ht4.out⟩
    case rest =>
    clear HI Hea Hold
    obtain ⟨b18, x, rfl, rfl, hin⟩ := hcut
    have HV := Lib.hid hin.tbl
    have H1i := Lib.hid (H1f.out.keep hin.mod)
    have H2i := Lib.hid (H2f.out.keep hin.mod)
    have HUi := Lib.hid (HU.out.keep hin.mod)
    have HN2 := Lib.hid (Nat.ne_of_gt (Nat.lt_of_lt_of_le H1f.out.bx.lt hin.lo))
    clear hin HRD HRd H1f H2f HU Hcs c0 c1 c2 c3 o0 o1 o2 o3 o4 o5 o6
    obtain ⟨c0, c1, c2, c3⟩ := HUi.out.bx.cells
    obtain ⟨d0, d1, d2, d3⟩ := HV.out.bx.cells
    have HL2 : Hid ((orNo E T').pg.length ≤ 1000 ∧ (orNo E T').sg.length ≤ 1000) := by
      unfold orNo
      by_cases h0 : E = 0
      · rw [if_pos h0]
        exact Lib.hid ⟨Nat.le_trans (Hmk.out h0).p2 (by decide), Nat.le_trans (Hmk.out h0).s2 (by decide)⟩
      · rw [if_neg h0]
        exact Lib.hid ⟨Nat.zero_le _, Nat.zero_le _⟩
    have HS := Lib.hid (l_same HUi.out HV.out HL2.out)
    go_wp2_with fail
    clear c0 c1 c2 c3 d0 d1 d2 d3
    refine HS.out.mono ?_
    rintro e v3 ⟨rfl, hm⟩
    have H1j := Lib.hid (H1i.out.keep hm)
    have H2j := Lib.hid (H2i.out.keep hm)
    have HUj := Lib.hid (HUi.out.keep hm)
    have HVj := Lib.hid (HV.out.keep hm)
    clear hm HS H1i H2i HUi HV HL2
    have hEE : (E != E) = false := by simp
    by_cases h0 : E = 0
    rotate_left
    · have hE0 : (E == 0) = false := by simpa using h0
      clear h0
      go_wp2
      go_roundw
      case rel => exact ⟨j + 1, T, y, y', by omega, by go_num, H1j.out, H2j.out, HMAY.out⟩
      case measure => simp [intOf]; omega
    subst h0
    clear hEE
    have HUk : Hid (Tbl W v3 b16 z T') := by have := HUj.out; unfold orNo at this; rw [if_pos rfl] at this; exact this
    have HVk : Hid (Tbl W v3 b18 x T') := by have := HVj.out; unfold orNo at this; rw [if_pos rfl] at this; exact this
    clear HUj HVj
    have HM' := Lib.hid (Hmk.out rfl)
    clear Hmk
    have hA := (H1j.out.put HUk.out.at_ HUk.out.t)
    have hB := (H2j.out.other (z := z) H1j.out.bx (fun e => by have := Hne.out; omega) H1j.out.lo)
    have hVx := HVk.out.at_.store H1j.out.bx (stT_mod v3 b10 z)
    have f0 := H1j.out.bx.frozen 0
    have f1 := H1j.out.bx.frozen 1
    have f2 := H1j.out.bx.frozen 2
    have f3 := H1j.out.bx.frozen 3
    have k0 := H2j.out.bx.frozen 0
    have k1 := H2j.out.bx.frozen 1
    have k2 := H2j.out.bx.frozen 2
    have k3 := H2j.out.bx.frozen 3
    have hfin1 := hA.other (z := x) hB.bx (fun e => by have := Hne.out; omega) hB.lo
    have hfin2 := hB.put hVx HVk.out.t
    obtain ⟨wf, hwf⟩ : ∃ wf, stT (stT v3 b10 z) b12 x = wf := ⟨_, rfl⟩
    rw [hwf] at hfin1 hfin2
    unfold stT at hwf
    have Hf1 := Lib.hid hfin1
    have Hf2 := Lib.hid hfin2
    have Hwf := Lib.hid hwf
    clear hA hB hVx hfin1 hfin2 hwf
    obtain ⟨c0, c1, c2, c3⟩ := HUk.out.bx.cells
    obtain ⟨d0, d1, d2, d3⟩ := HVk.out.bx.cells
    obtain ⟨e0, e1, e2, e3⟩ := H1j.out.bx.cells
    obtain ⟨g0, g1, g2, g3⟩ := H2j.out.bx.cells
    have n2 : b18 ≠ b10 := HN2.out
    have n4 : b10 ≠ b12 := by have := Hne.out; omega
    go_wp2
    rw [Hwf.out]
    clear Hwf
    go_roundw
    case rel => exact ⟨j + 1, T', z, x, by omega, by go_num, Hf1.out, Hf2.out, HM'.out⟩
    case measure => simp [intOf]; omega
end Go.Proofs.Ythbcgbbcoanbdaa
