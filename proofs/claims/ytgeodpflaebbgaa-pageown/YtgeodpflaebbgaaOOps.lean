/-
  Calls of a law's argument []Op, and a Val: what their cells hold; from a reading of an argument to these words. bobbinlaw05.few, bobbinlaw05.does.
-/
import Derived.Test.YtgeodpflaebbgaaRefs5
import Derived.Test.YtgeodpflaebbgaaFrame
import Derived.Lib.SmallJoins
namespace Go.Proofs.Ytgeodpflaebbgaa
open Go.ChangeShapes Go.WideShapes Go.ChangeAt Go.RowKit

/-- A Val by value. -/
structure VlD where
  is : Bool
  B : Option Addr
  m : Nat
  d : Nat
  vs : List UInt8
def VlD.v (x : VlD) : Value := .agg #[.bool x.is, .slice x.B x.m x.d]
def VlD.At (w : World) (x : VlD) : Prop := Sl w x.B x.m x.d x.vs
theorem VlD.At.keep {w w' : World} {x : VlD} (h : x.At w) (hm : Mod (fun _ => False) w w') : x.At w' := Sl.mod h hm (fun _ _ _ => id)
/-- A call. -/
structure OpD where
  stamp : Bool
  k : Int
  val : VlD
def OpD.Cells (w : World) (x : OpD) (b o : Nat) : Prop :=
  w.cell? ⟨b, o, none⟩ = some (.bool x.stamp) ∧ w.cell? ⟨b, o + 1, none⟩ = some (.int .i64 x.k) ∧ w.cell? ⟨b, o + 2, none⟩ = some (.bool x.val.is) ∧ w.cell? ⟨b, o + 3, none⟩ = some (.slice x.val.B x.val.m x.val.d)
structure OpsAt (w : World) (A : Option Addr) (n c : Nat) (l : List OpD) : Prop where
  len : l.length = n
  cap : n ≤ c
  cells : 0 < n → ∃ b o, A = some ⟨b, o, none⟩ ∧ ∀ (i : Nat) (x : OpD), l[i]? = some x → x.Cells w b (o + i * 4)
  vals : ∀ x ∈ l, x.val.At w
theorem OpsAt.keep {w w' : World} {A : Option Addr} {n c : Nat} {l : List OpD} (h : OpsAt w A n c l) (hm : Mod (fun _ => False) w w') : OpsAt w' A n c l := by
  refine ⟨h.len, h.cap, fun hn => ?_, fun x hx => (h.vals x hx).keep hm⟩
  obtain ⟨b, o, hA, hc⟩ := h.cells hn
  refine ⟨b, o, hA, fun i x hx => ?_⟩
  have k : ∀ (j : Nat) (v : Value), w.cell? ⟨b, j, none⟩ = some v → w'.cell? ⟨b, j, none⟩ = some v := fun j v hv =>
    (World.cell?_of_block (hm.block b (World.block_lt_of_cell? w _ hv) id)).trans hv
  obtain ⟨c0, c1, c2, c3⟩ := hc i x hx
  exact ⟨k _ _ c0, k _ _ c1, k _ _ c2, k _ _ c3⟩

theorem Try.own : ownKnob Try.prog.godebug = none := by kernel_rfl
theorem Try.bytes1 : Try.prog.bytesOf 5 = 1 := by kernel_rfl
theorem Try.laidOut : laidOutB Try.prog = true := by kernel_rfl

section
variable {H : Type} {enc : TypeId × Value → H} {W : World} {base : Nat} {spare : Nat → Bool} {held : Bool}
set_option maxRecDepth 100000 in
/-- A Val by value. -/
theorem open_val {r : Reach} {b0 : Nat} {v : Value} {d : DataW H} {p : List MemPlace} (hv : Value.okWide Try.prog W r b0 34 v) (h : DataW.Trod enc Try.prog W base spare held 34 v d p) : ∃ x : VlD, v = x.v ∧ x.At W := by
  obtain ⟨v0, v1, y0, y1, n, rfl, _, _, t0, t1⟩ := Go.Joins.open_agg2 Try.underlying34 (by kernel_rfl) (by kernel_rfl) hv h
  obtain ⟨is, e0, _⟩ := DataW.trod_bool Try.underlying4 t0
  obtain ⟨B, m, dd, e1⟩ := Go.Joins.slice_form Try.underlying25 t1
  simp only [List.cons.injEq, and_true] at e0 e1
  subst e0 e1
  obtain ⟨xs, hsl, _⟩ := open_sl (d := y1.1) (p := y1.2) Try.underlying25 Try.underlying5 (by kernel_rfl) ⟨n, t1⟩
  exact ⟨⟨is, B, m, dd, xs⟩, rfl, hsl⟩

set_option maxRecDepth 100000 in
/-- A slice of calls. -/
theorem open_ops {a : Option Addr} {len cap : Nat} {d : DataW H} {p : List MemPlace} (h : DataW.Trod enc Try.prog W base spare held 22 (.slice a len cap) d p) : ∃ l, OpsAt W a len cap l := by
  obtain ⟨fuel, hf⟩ := h
  rcases Go.Deep.open_slice Try.underlying22 hf with ⟨hcs, _⟩ | ⟨x, l, c, m, n, D, Pl, hcs, _, hl, hm, hmm, hx, hi⟩
  · simp [Value.cells] at hcs
    obtain ⟨rfl, rfl, rfl⟩ := hcs
    exact ⟨[], rfl, Nat.le_refl _, fun h => absurd h (by omega), by simp⟩
  · simp [Value.cells] at hcs
    obtain ⟨rfl, rfl, rfl⟩ := hcs
    have hlm : len ≤ m := by rw [hmm]; split <;> omega
    have each : ∀ i, i < len → ∃ q : OpD, (∀ b o, x = ⟨b, o, none⟩ → q.Cells W b (o + i * 4)) ∧ (i = 0 → ∃ b o, x = ⟨b, o, none⟩) ∧ q.val.At W := by
      intro i hil
      obtain ⟨cs', hc', ht'⟩ := hi i (by omega)
      have hC : Try.prog.cellsOf 36 = 4 := by kernel_rfl
      rw [hC] at hc'
      obtain ⟨_, hcl, hat⟩ := World.cells?_some hc'
      obtain ⟨ys, n', _, _, _, hyl, hf'⟩ := DataW.trod_struct Try.underlying36 ht'
      match cs', hcl with
      | [v0, v1, v2, v3], _ =>
      have hyl3 : ys.length = 3 := hyl
      have s3 : Try.prog.cellsOf 3 = 1 := by kernel_rfl
      have s4 : Try.prog.cellsOf 4 = 1 := by kernel_rfl
      have s6 : Try.prog.cellsOf 34 = 2 := by kernel_rfl
      have g0 : DataW.trod enc Try.prog W base spare held n' 4 (List.take (Try.prog.cellsOf 4) [v0, v1, v2, v3]) = some (ys[0]'(by omega)) := (hf' 0 _ rfl).trans (List.getElem?_eq_getElem (by omega))
      rw [s4] at g0
      change DataW.trod enc Try.prog W base spare held n' 4 [v0] = some (ys[0]'(by omega)) at g0
      have g1 : DataW.trod enc Try.prog W base spare held n' 3 (List.take (Try.prog.cellsOf 3) [v1, v2, v3]) = some (ys[1]'(by omega)) := (hf' 1 _ rfl).trans (List.getElem?_eq_getElem (by omega))
      rw [s3] at g1
      change DataW.trod enc Try.prog W base spare held n' 3 [v1] = some (ys[1]'(by omega)) at g1
      have g2 : DataW.trod enc Try.prog W base spare held n' 34 (List.take (Try.prog.cellsOf 34) [v2, v3]) = some (ys[2]'(by omega)) := (hf' 2 _ rfl).trans (List.getElem?_eq_getElem (by omega))
      rw [s6] at g2
      change DataW.trod enc Try.prog W base spare held n' 34 [v2, v3] = some (ys[2]'(by omega)) at g2
      obtain ⟨stamp, e0, _⟩ := DataW.trod_bool Try.underlying4 g0
      obtain ⟨k, e1, _, _⟩ := DataW.trod_int Try.underlying3 g1
      obtain ⟨zs, n2, _, _, _, hzl, hf2⟩ := DataW.trod_struct Try.underlying34 g2
      have hzl2 : zs.length = 2 := hzl
      have s7 : Try.prog.cellsOf 25 = 1 := by kernel_rfl
      have k0 : DataW.trod enc Try.prog W base spare held n2 4 (List.take (Try.prog.cellsOf 4) [v2, v3]) = some (zs[0]'(by omega)) := (hf2 0 _ rfl).trans (List.getElem?_eq_getElem (by omega))
      rw [s4] at k0
      change DataW.trod enc Try.prog W base spare held n2 4 [v2] = some (zs[0]'(by omega)) at k0
      have k1 : DataW.trod enc Try.prog W base spare held n2 25 (List.take (Try.prog.cellsOf 25) [v3]) = some (zs[1]'(by omega)) := (hf2 1 _ rfl).trans (List.getElem?_eq_getElem (by omega))
      rw [s7] at k1
      change DataW.trod enc Try.prog W base spare held n2 25 [v3] = some (zs[1]'(by omega)) at k1
      obtain ⟨is, e2, _⟩ := DataW.trod_bool Try.underlying4 k0
      obtain ⟨B, km, kc, e3⟩ := Go.Joins.slice_form Try.underlying25 k1
      simp only [List.cons.injEq, and_true] at e0 e1 e2 e3
      subst e0 e1 e2 e3
      obtain ⟨xs, hsl, _⟩ := open_sl (d := (zs[1]'(by omega)).1) (p := (zs[1]'(by omega)).2) Try.underlying25 Try.underlying5 (by kernel_rfl) ⟨n2, k1⟩
      refine ⟨⟨stamp, k, ⟨is, B, km, kc, xs⟩⟩, ?_, ?_, hsl⟩
      · rintro b o rfl
        have q := fun j (hj : j < 4) => hat j hj
        have hadd : ∀ j, ((⟨b, o, none⟩ : Addr).add (i * 4)).add j = ⟨b, o + i * 4 + j, none⟩ := fun j => by rw [Go.WideShapes.add_plain, Go.WideShapes.add_plain]
        simp only [hadd] at q
        exact ⟨q 0 (by omega), q 1 (by omega), q 2 (by omega), q 3 (by omega)⟩
      · rintro rfl
        obtain ⟨b, o, spot⟩ := x
        have h0 := hat 0 (by omega)
        have := World.cell?_spot h0
        have hs : spot = none := by simpa [Addr.add] using this
        subst hs
        exact ⟨b, o, rfl⟩
    obtain ⟨l, hll, hq⟩ := list_of (Q := fun i (q : OpD) => (∀ b o, x = ⟨b, o, none⟩ → q.Cells W b (o + i * 4)) ∧ (i = 0 → ∃ b o, x = ⟨b, o, none⟩) ∧ q.val.At W) len each
    refine ⟨l, hll, hl, fun hp => ?_, fun y hy => ?_⟩
    · obtain ⟨b, o, rfl⟩ := (hq 0 _ (List.getElem?_eq_getElem (by omega))).2.1 rfl
      exact ⟨b, o, rfl, fun i y hy => (hq i y hy).1 b o rfl⟩
    · obtain ⟨i, hi⟩ := List.getElem?_of_mem hy
      exact (hq i y hi).2.2
end

/-- Are the calls few, and their values short? -/
def fewB (l : List OpD) : Bool := decide (l.length ≤ 60) && l.all (fun x => decide (x.val.m ≤ 100))
set_option maxRecDepth 100000 in
set_option maxHeartbeats 1000000 in
theorem few_ok (w : World) (A : Option Addr) (n c : Nat) (l : List OpD) (h : OpsAt w A n c l) : Calls Try.prog 11 #[.slice A n c] w fun e w' => e = .returned (.bool (fewB l)) ∧ w' = w := by
  have hl := h.len
  by_cases hn : 60 < n
  · have Hf : Hid (fewB l = false) := by show _ = _; unfold fewB; rw [decide_eq_false (by omega)]; rfl
    clear h
    go_enter Try.func11, Try.ntmps11
    go_wp2
    go_ret
    exact ⟨by rw [Hf.out]; rfl, rfl⟩
  · have H := Lib.hid h
    clear h
    go_enter Try.func11, Try.ntmps11
    go_wp2
    go_loopw [3] (fun i wr => ∃ (j : Nat), j ≤ n ∧ i = .int .i64 j ∧ wr = w ∧ ∀ x ∈ l.take j, x.val.m ≤ 100) (fun i _ => n - (intOf i).toNat)
    case atStart => exact ⟨0, by omega, rfl, rfl, by simp⟩
    case round =>
      obtain ⟨j, hj, rfl, rfl, hall⟩ := hrel
      have Hall := Lib.hid hall
      clear hall
      by_cases hlt : j < n
      · obtain ⟨y, hy⟩ : ∃ y, l[j]? = some y := ⟨_, List.getElem?_eq_getElem (by omega)⟩
        obtain ⟨b, o, rfl, hcs⟩ := H.out.cells (by omega)
        obtain ⟨c0, c1, c2, c3⟩ := hcs j y hy
        have Hy := Lib.hid hy
        clear hcs c0 c1 c2 hy
        by_cases hm : 100 < y.val.m
        · have Hf : Hid (fewB l = false) := by
            show _ = _
            unfold fewB
            rw [Bool.and_eq_false_iff]
            right
            rw [List.all_eq_false]
            exact ⟨y, List.mem_of_getElem? Hy.out, by simpa using hm⟩
          go_wp2
          go_ret
          exact ⟨by rw [Hf.out]; rfl, rfl⟩
        · have Hn : Hid (∀ x ∈ l.take (j + 1), x.val.m ≤ 100) := fun x hx => by
            obtain ⟨hj', e⟩ := List.getElem?_eq_some_iff.1 Hy.out
            rw [List.take_succ_eq_append_getElem hj', e] at hx
            rcases List.mem_append.1 hx with h | h
            · exact Hall.out x h
            · rw [List.mem_singleton] at h; subst h; omega
          go_wp2
          go_roundw
          case rel => exact ⟨j + 1, by omega, by go_num, trivial, Hn.out⟩
          case measure => simp [intOf]; omega
      · obtain rfl : j = n := by omega
        have Hf : Hid (fewB l = true) := by
          show _ = _
          have := Hall.out
          rw [List.take_of_length_le (by omega)] at this
          unfold fewB
          rw [decide_eq_true (by omega), Bool.true_and, List.all_eq_true]
          exact fun x hx => by simpa using this x hx
        go_wp2
        go_ret
        exact ⟨by rw [Hf.out]; rfl, rfl⟩

/-- What a call makes of a page. -/
def opP (g : Pg) (x : OpD) : Int × Pg := if x.stamp then stampP g x.k else putP g x.k x.val.is x.val.vs
def OpD.v (x : OpD) : Value := .agg #[.bool x.stamp, .int .i64 x.k, .bool x.val.is, .slice x.val.B x.val.m x.val.d]
set_option maxRecDepth 100000 in
set_option maxHeartbeats 1000000 in
theorem does_ok (w0 w : World) (q : Nat) (g : Pg) (h : Lv w0 w q g) (x : OpD) (hx : x.val.At w) :
    Calls Try.prog 13 #[.slice (some ⟨q, 0, none⟩) 248 248, .agg #[.bool x.stamp, .int .i64 x.k, .bool x.val.is, .slice x.val.B x.val.m x.val.d]] w fun e w' => LvAns w0 w w' e (opP g x).1 (opP g x).2 := by
  have ha : Mod (fun _ => False) w (w.alloc (.cells #[.bool x.stamp, .int .i64 x.k, .bool x.val.is, .slice x.val.B x.val.m x.val.d] 36)) := (Mod.refl _ w).alloc _
  have hL := h.keep ha
  have hx' := hx.keep ha
  have Ha := Lib.hid ha
  clear h hx ha
  obtain ⟨st, k, ⟨is, B, m, d, vs⟩⟩ := x
  dsimp only at *
  cases st with
  | true =>
    have Hs := Lib.hid (lv_stamped hL k)
    have Hop : Hid (opP g ⟨true, k, ⟨is, B, m, d, vs⟩⟩ = stampP g k) := by show _ = _; unfold opP; rw [if_pos rfl]
    clear hL hx'
    go_enter Try.func13, Try.ntmps13
    go_wp2_with fail
    refine Hs.out.mono ?_
    rintro e w2 ⟨(⟨h1, q', rfl, h2⟩ | ⟨h1, rfl⟩), hm⟩
    · have H2 := Lib.hid h2
      have H1 := Lib.hid h1
      have Hm := Lib.hid (Ha.out.trans hm (fun _ _ h => h))
      clear h2 hm h1
      go_wp2
      go_ret2
      rw [Hop.out]
      exact ⟨.inl ⟨H1.out, q', rfl, H2.out⟩, Hm.out⟩
    · have H1 := Lib.hid h1
      have Hm := Lib.hid (Ha.out.trans hm (fun _ _ h => h))
      clear hm h1
      go_wp2
      go_ret2
      rw [Hop.out]
      exact ⟨.inr ⟨H1.out, rfl⟩, Hm.out⟩
  | false =>
    have Hs := Lib.hid (lv_put hL k is hx')
    have Hop : Hid (opP g ⟨false, k, ⟨is, B, m, d, vs⟩⟩ = putP g k is vs) := by show _ = _; unfold opP; rw [if_neg (by simp)]
    clear hL hx'
    go_enter Try.func13, Try.ntmps13
    go_wp2_with fail
    refine Hs.out.mono ?_
    rintro e w2 ⟨(⟨h1, q', rfl, h2⟩ | ⟨h1, rfl⟩), hm⟩
    · have H2 := Lib.hid h2
      have H1 := Lib.hid h1
      have Hm := Lib.hid (Ha.out.trans hm (fun _ _ h => h))
      clear h2 hm h1
      go_wp2
      go_ret2
      rw [Hop.out]
      exact ⟨.inl ⟨H1.out, q', rfl, H2.out⟩, Hm.out⟩
    · have H1 := Lib.hid h1
      have Hm := Lib.hid (Ha.out.trans hm (fun _ _ h => h))
      clear hm h1
      go_wp2
      go_ret2
      rw [Hop.out]
      exact ⟨.inr ⟨H1.out, rfl⟩, Hm.out⟩
end Go.Proofs.Ytgeodpflaebbgaa
