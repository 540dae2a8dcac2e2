/-
  Arguments of the laws of layer 10: a table, a call, a slice of calls.
-/
import Derived.Test.YthbcgbbcoanbdaaTMem
import Derived.Test.YthbcgbbcoanbdaaFrame
import Derived.Lib.SmallJoins
namespace Go.Proofs.Ythbcgbbcoanbdaa
open Go.ChangeShapes Go.WideShapes Go.ChangeAt Go.RowKit

theorem Try.own : ownKnob Try.prog.godebug = none := by kernel_rfl
theorem Try.laidOut : laidOutB Try.prog = true := by kernel_rfl

/-- A call of a law. -/
structure OpD where
  kind : Int
  page : Int
  at_ : Int
  seg : Int
  p : Tr
/-- What a call's cells hold. -/
def OpD.In (x : OpD) (w : World) (b o : Nat) : Prop :=
  w.cell? ⟨b, o, none⟩ = some (.int .i64 x.kind) ∧ w.cell? ⟨b, o + 1, none⟩ = some (.int .i64 x.page) ∧ w.cell? ⟨b, o + 2, none⟩ = some (.int .i64 x.at_) ∧ w.cell? ⟨b, o + 3, none⟩ = some (.int .i64 x.seg) ∧
  w.cell? ⟨b, o + 4, none⟩ = some (.int .i64 x.p.a) ∧ w.cell? ⟨b, o + 5, none⟩ = some (.int .i64 x.p.b) ∧ w.cell? ⟨b, o + 6, none⟩ = some (.int .i64 x.p.c)
theorem OpD.In.keep {x : OpD} {w w' : World} {b o : Nat} (h : x.In w b o) (hb : w'.heap[b]? = w.heap[b]?) : x.In w' b o := by
  obtain ⟨c0, c1, c2, c3, c4, c5, c6⟩ := h
  have k := fun (j : Nat) (v : Value) (e : w.cell? ⟨b, j, none⟩ = some v) => (World.cell?_of_block (a := ⟨b, j, none⟩) hb).trans e
  exact ⟨k _ _ c0, k _ _ c1, k _ _ c2, k _ _ c3, k _ _ c4, k _ _ c5, k _ _ c6⟩
/-- A slice of calls. -/
structure OpsAt (w : World) (A : Option Addr) (n c : Nat) (l : List OpD) : Prop where
  len : l.length = n
  cap : n ≤ c
  cells : 0 < n → ∃ b o, A = some ⟨b, o, none⟩ ∧ ∀ (i : Nat) (x : OpD), l[i]? = some x → x.In w b (o + i * 7)
theorem OpsAt.keep {w w' : World} {A : Option Addr} {n c : Nat} {l : List OpD} (h : OpsAt w A n c l) (hm : Mod (fun _ => False) w w') : OpsAt w' A n c l := by
  refine ⟨h.len, h.cap, fun hn => ?_⟩
  obtain ⟨b, o, hA, hc⟩ := h.cells hn
  exact ⟨b, o, hA, fun i x hx => (hc i x hx).keep (hm.block b (World.block_lt_of_cell? w _ (hc i x hx).1) id)⟩

section
variable {H : Type} {enc : TypeId × Value → H} {W : World} {base : Nat} {spare : Nat → Bool} {held : Bool}
set_option maxRecDepth 100000 in
theorem open_tlPlace {a : Option Addr} {len cap : Nat} {d : DataW H} {p : List MemPlace} (h : DataW.Trod enc Try.prog W base spare held 24 (.slice a len cap) d p) : ∃ l, Tl W a len cap l := by
  obtain ⟨hcap, _, _, hc⟩ := open_structs Try.underlying24 Try.underlying34 (by kernel_rfl) (by kernel_rfl) (by decide) h
  have each : ∀ i, i < len → ∃ q : Tr, ∀ b o, a = some ⟨b, o, none⟩ → At3 W b (o + i * 3) q := by
    intro i hi
    obtain ⟨b, o, ha, hcell⟩ := hc (by omega)
    obtain ⟨v0, n0, y0, c0, t0⟩ := hcell i hi 0 _ rfl
    obtain ⟨v1, n1, y1, c1, t1⟩ := hcell i hi 1 _ rfl
    obtain ⟨v2, n2, y2, c2, t2⟩ := hcell i hi 2 _ rfl
    obtain ⟨k0, e0, _, _⟩ := DataW.trod_int Try.underlying3 t0
    obtain ⟨k1, e1, _, _⟩ := DataW.trod_int Try.underlying3 t1
    obtain ⟨k2, e2, _, _⟩ := DataW.trod_int Try.underlying3 t2
    simp only [List.cons.injEq, and_true] at e0 e1 e2
    subst e0 e1 e2
    refine ⟨⟨k0, k1, k2⟩, fun b' o' h' => ?_⟩
    rw [ha] at h'
    injection h' with h'
    injection h' with h1 h2 _
    subst h1; subst h2
    exact ⟨c0, c1, c2⟩
  obtain ⟨l, hl, hq⟩ := list_of len each
  refine ⟨l, hl, hcap, fun hp => ?_⟩
  obtain ⟨b, o, ha, _⟩ := hc hp
  exact ⟨b, o, ha, fun j hj => hq j _ (atS_get (by omega)) b o ha⟩
set_option maxRecDepth 100000 in
theorem open_tlSegment {a : Option Addr} {len cap : Nat} {d : DataW H} {p : List MemPlace} (h : DataW.Trod enc Try.prog W base spare held 25 (.slice a len cap) d p) : ∃ l, Tl W a len cap l := by
  obtain ⟨hcap, _, _, hc⟩ := open_structs Try.underlying25 Try.underlying45 (by kernel_rfl) (by kernel_rfl) (by decide) h
  have each : ∀ i, i < len → ∃ q : Tr, ∀ b o, a = some ⟨b, o, none⟩ → At3 W b (o + i * 3) q := by
    intro i hi
    obtain ⟨b, o, ha, hcell⟩ := hc (by omega)
    obtain ⟨v0, n0, y0, c0, t0⟩ := hcell i hi 0 _ rfl
    obtain ⟨v1, n1, y1, c1, t1⟩ := hcell i hi 1 _ rfl
    obtain ⟨v2, n2, y2, c2, t2⟩ := hcell i hi 2 _ rfl
    obtain ⟨k0, e0, _, _⟩ := DataW.trod_int Try.underlying3 t0
    obtain ⟨k1, e1, _, _⟩ := DataW.trod_int Try.underlying3 t1
    obtain ⟨k2, e2, _, _⟩ := DataW.trod_int Try.underlying3 t2
    simp only [List.cons.injEq, and_true] at e0 e1 e2
    subst e0 e1 e2
    refine ⟨⟨k0, k1, k2⟩, fun b' o' h' => ?_⟩
    rw [ha] at h'
    injection h' with h'
    injection h' with h1 h2 _
    subst h1; subst h2
    exact ⟨c0, c1, c2⟩
  obtain ⟨l, hl, hq⟩ := list_of len each
  refine ⟨l, hl, hcap, fun hp => ?_⟩
  obtain ⟨b, o, ha, _⟩ := hc hp
  exact ⟨b, o, ha, fun j hj => hq j _ (atS_get (by omega)) b o ha⟩
set_option maxRecDepth 100000 in
/-- A table by value. -/
theorem open_tb {r : Reach} {b0 : Nat} {v : Value} {d : DataW H} {p : List MemPlace} (hv : Value.okWide Try.prog W r b0 27 v) (h : DataW.Trod enc Try.prog W base spare held 27 v d p) :
    ∃ x : TV, v = .agg #[.slice x.P x.n x.c, .slice x.S x.m x.d, .int .i64 x.t.sl, .int .i64 x.t.nw] ∧ x.At W := by
  obtain ⟨v0, v1, v2, v3, y0, y1, y2, y3, n, rfl, _, _, t0, t1, t2, t3⟩ := Go.Joins.open_agg4 Try.underlying27 (by kernel_rfl) (by kernel_rfl) hv h
  obtain ⟨P, m, c, e0⟩ := Go.Joins.slice_form Try.underlying24 t0
  obtain ⟨S, m2, c2, e1⟩ := Go.Joins.slice_form Try.underlying25 t1
  obtain ⟨sl, e2, _, _⟩ := DataW.trod_int Try.underlying3 t2
  obtain ⟨nw, e3, _, _⟩ := DataW.trod_int Try.underlying3 t3
  simp only [List.cons.injEq, and_true] at e0 e1 e2 e3
  subst e0 e1 e2 e3
  obtain ⟨l, hl⟩ := open_tlPlace (d := y0.1) (p := y0.2) ⟨n, t0⟩
  obtain ⟨l2, hl2⟩ := open_tlSegment (d := y1.1) (p := y1.2) ⟨n, t1⟩
  exact ⟨⟨P, m, c, S, m2, c2, ⟨l, l2, sl, nw⟩⟩, rfl, hl, hl2⟩

theorem list7 {α : Type} {l : List α} (h : l.length = 7) : ∃ v0 v1 v2 v3 v4 v5 v6, l = [v0, v1, v2, v3, v4, v5, v6] := by
  match l, h with
  | [v0, v1, v2, v3, v4, v5, v6], _ => exact ⟨v0, v1, v2, v3, v4, v5, v6, rfl⟩
set_option maxRecDepth 100000 in
set_option maxHeartbeats 1000000 in
/-- A call by value. -/
theorem open_op {r : Reach} {b0 : Nat} {v : Value} {d : DataW H} {p : List MemPlace} (hv : Value.okWide Try.prog W r b0 36 v) (h : DataW.Trod enc Try.prog W base spare held 36 v d p) :
    ∃ x : OpD, v = .agg #[.int .i64 x.kind, .int .i64 x.page, .int .i64 x.at_, .int .i64 x.seg, .int .i64 x.p.a, .int .i64 x.p.b, .int .i64 x.p.c] := by
  obtain ⟨cs, rfl, hsz⟩ := okWide_struct Try.underlying36 hv
  have hC : Try.prog.cellsOf 36 = 7 := by kernel_rfl
  obtain ⟨cl⟩ := cs
  obtain ⟨v0, v1, v2, v3, v4, v5, v6, rfl⟩ := list7 (hsz.trans hC)
  obtain ⟨fuel, hf⟩ := h
  obtain ⟨ys, n', _, _, _, hyl, hf'⟩ := DataW.trod_struct Try.underlying36 hf
  have hyl3 : ys.length = 5 := hyl
  have s3 : Try.prog.cellsOf 3 = 1 := by kernel_rfl
  have s6 : Try.prog.cellsOf 34 = 3 := by kernel_rfl
  have g0 : DataW.trod enc Try.prog W base spare held n' 3 (List.take (Try.prog.cellsOf 3) [v0, v1, v2, v3, v4, v5, v6]) = some (ys[0]'(by omega)) := (hf' 0 _ rfl).trans (List.getElem?_eq_getElem (by omega))
  rw [s3] at g0
  change DataW.trod enc Try.prog W base spare held n' 3 [v0] = some (ys[0]'(by omega)) at g0
  obtain ⟨k0, e0, _, _⟩ := DataW.trod_int Try.underlying3 g0
  have g1 : DataW.trod enc Try.prog W base spare held n' 3 (List.take (Try.prog.cellsOf 3) [v1, v2, v3, v4, v5, v6]) = some (ys[1]'(by omega)) := (hf' 1 _ rfl).trans (List.getElem?_eq_getElem (by omega))
  rw [s3] at g1
  change DataW.trod enc Try.prog W base spare held n' 3 [v1] = some (ys[1]'(by omega)) at g1
  obtain ⟨k1, e1, _, _⟩ := DataW.trod_int Try.underlying3 g1
  have g2 : DataW.trod enc Try.prog W base spare held n' 3 (List.take (Try.prog.cellsOf 3) [v2, v3, v4, v5, v6]) = some (ys[2]'(by omega)) := (hf' 2 _ rfl).trans (List.getElem?_eq_getElem (by omega))
  rw [s3] at g2
  change DataW.trod enc Try.prog W base spare held n' 3 [v2] = some (ys[2]'(by omega)) at g2
  obtain ⟨k2, e2, _, _⟩ := DataW.trod_int Try.underlying3 g2
  have g3 : DataW.trod enc Try.prog W base spare held n' 3 (List.take (Try.prog.cellsOf 3) [v3, v4, v5, v6]) = some (ys[3]'(by omega)) := (hf' 3 _ rfl).trans (List.getElem?_eq_getElem (by omega))
  rw [s3] at g3
  change DataW.trod enc Try.prog W base spare held n' 3 [v3] = some (ys[3]'(by omega)) at g3
  obtain ⟨k3, e3, _, _⟩ := DataW.trod_int Try.underlying3 g3
  have go : DataW.trod enc Try.prog W base spare held n' 34 (List.take (Try.prog.cellsOf 34) [v4, v5, v6]) = some (ys[4]'(by omega)) := (hf' 4 _ rfl).trans (List.getElem?_eq_getElem (by omega))
  rw [s6] at go
  change DataW.trod enc Try.prog W base spare held n' 34 [v4, v5, v6] = some (ys[4]'(by omega)) at go
  obtain ⟨zs, n2, _, _, _, hzl, hf2⟩ := DataW.trod_struct Try.underlying34 go
  have hzl3 : zs.length = 3 := hzl
  have h0 : DataW.trod enc Try.prog W base spare held n2 3 (List.take (Try.prog.cellsOf 3) [v4, v5, v6]) = some (zs[0]'(by omega)) := (hf2 0 _ rfl).trans (List.getElem?_eq_getElem (by omega))
  rw [s3] at h0
  change DataW.trod enc Try.prog W base spare held n2 3 [v4] = some (zs[0]'(by omega)) at h0
  obtain ⟨q0, d0, _, _⟩ := DataW.trod_int Try.underlying3 h0
  have h1 : DataW.trod enc Try.prog W base spare held n2 3 (List.take (Try.prog.cellsOf 3) [v5, v6]) = some (zs[1]'(by omega)) := (hf2 1 _ rfl).trans (List.getElem?_eq_getElem (by omega))
  rw [s3] at h1
  change DataW.trod enc Try.prog W base spare held n2 3 [v5] = some (zs[1]'(by omega)) at h1
  obtain ⟨q1, d1, _, _⟩ := DataW.trod_int Try.underlying3 h1
  have h2 : DataW.trod enc Try.prog W base spare held n2 3 (List.take (Try.prog.cellsOf 3) [v6]) = some (zs[2]'(by omega)) := (hf2 2 _ rfl).trans (List.getElem?_eq_getElem (by omega))
  rw [s3] at h2
  change DataW.trod enc Try.prog W base spare held n2 3 [v6] = some (zs[2]'(by omega)) at h2
  obtain ⟨q2, d2, _, _⟩ := DataW.trod_int Try.underlying3 h2
  simp only [List.cons.injEq, and_true] at e0 e1 e2 e3 d0 d1 d2
  subst e0 e1 e2 e3 d0 d1 d2
  exact ⟨⟨k0, k1, k2, k3, ⟨q0, q1, q2⟩⟩, rfl⟩

set_option maxRecDepth 100000 in
set_option maxHeartbeats 1000000 in
theorem open_ops {a : Option Addr} {len cap : Nat} {d : DataW H} {p : List MemPlace} (h : DataW.Trod enc Try.prog W base spare held 22 (.slice a len cap) d p) : ∃ l, OpsAt W a len cap l := by
  obtain ⟨fuel, hf⟩ := h
  rcases Go.Deep.open_slice Try.underlying22 hf with ⟨hcs, _⟩ | ⟨x, l, c, m, n, D, Pl, hcs, _, hl, hm, hmm, hx, hi⟩
  · simp [Value.cells] at hcs
    obtain ⟨rfl, rfl, rfl⟩ := hcs
    exact ⟨[], rfl, Nat.le_refl _, fun h => absurd h (by omega)⟩
  · simp [Value.cells] at hcs
    obtain ⟨rfl, rfl, rfl⟩ := hcs
    have hlm : len ≤ m := by rw [hmm]; split <;> omega
    have each : ∀ i, i < len → ∃ q : OpD, (∀ b o, x = ⟨b, o, none⟩ → q.In W b (o + i * 7)) ∧ (i = 0 → ∃ b o, x = ⟨b, o, none⟩) := by
      intro i hil
      obtain ⟨cs', hc', ht'⟩ := hi i (by omega)
      have hC : Try.prog.cellsOf 36 = 7 := by kernel_rfl
      rw [hC] at hc'
      obtain ⟨_, hcl, hat⟩ := World.cells?_some hc'
      obtain ⟨ys, n', _, _, _, hyl, hf'⟩ := DataW.trod_struct Try.underlying36 ht'
      match cs', hcl with
      | [v0, v1, v2, v3, v4, v5, v6], _ =>
      have hyl3 : ys.length = 5 := hyl
      have s3 : Try.prog.cellsOf 3 = 1 := by kernel_rfl
      have s6 : Try.prog.cellsOf 34 = 3 := by kernel_rfl
      have g0 : DataW.trod enc Try.prog W base spare held n' 3 (List.take (Try.prog.cellsOf 3) [v0, v1, v2, v3, v4, v5, v6]) = some (ys[0]'(by omega)) := (hf' 0 _ rfl).trans (List.getElem?_eq_getElem (by omega))
      rw [s3] at g0
      change DataW.trod enc Try.prog W base spare held n' 3 [v0] = some (ys[0]'(by omega)) at g0
      obtain ⟨k0, e0, _, _⟩ := DataW.trod_int Try.underlying3 g0
      have g1 : DataW.trod enc Try.prog W base spare held n' 3 (List.take (Try.prog.cellsOf 3) [v1, v2, v3, v4, v5, v6]) = some (ys[1]'(by omega)) := (hf' 1 _ rfl).trans (List.getElem?_eq_getElem (by omega))
      rw [s3] at g1
      change DataW.trod enc Try.prog W base spare held n' 3 [v1] = some (ys[1]'(by omega)) at g1
      obtain ⟨k1, e1, _, _⟩ := DataW.trod_int Try.underlying3 g1
      have g2 : DataW.trod enc Try.prog W base spare held n' 3 (List.take (Try.prog.cellsOf 3) [v2, v3, v4, v5, v6]) = some (ys[2]'(by omega)) := (hf' 2 _ rfl).trans (List.getElem?_eq_getElem (by omega))
      rw [s3] at g2
      change DataW.trod enc Try.prog W base spare held n' 3 [v2] = some (ys[2]'(by omega)) at g2
      obtain ⟨k2, e2, _, _⟩ := DataW.trod_int Try.underlying3 g2
      have g3 : DataW.trod enc Try.prog W base spare held n' 3 (List.take (Try.prog.cellsOf 3) [v3, v4, v5, v6]) = some (ys[3]'(by omega)) := (hf' 3 _ rfl).trans (List.getElem?_eq_getElem (by omega))
      rw [s3] at g3
      change DataW.trod enc Try.prog W base spare held n' 3 [v3] = some (ys[3]'(by omega)) at g3
      obtain ⟨k3, e3, _, _⟩ := DataW.trod_int Try.underlying3 g3
      have go : DataW.trod enc Try.prog W base spare held n' 34 (List.take (Try.prog.cellsOf 34) [v4, v5, v6]) = some (ys[4]'(by omega)) := (hf' 4 _ rfl).trans (List.getElem?_eq_getElem (by omega))
      rw [s6] at go
      change DataW.trod enc Try.prog W base spare held n' 34 [v4, v5, v6] = some (ys[4]'(by omega)) at go
      obtain ⟨zs, n2, _, _, _, hzl, hf2⟩ := DataW.trod_struct Try.underlying34 go
      have hzl3 : zs.length = 3 := hzl
      have h0 : DataW.trod enc Try.prog W base spare held n2 3 (List.take (Try.prog.cellsOf 3) [v4, v5, v6]) = some (zs[0]'(by omega)) := (hf2 0 _ rfl).trans (List.getElem?_eq_getElem (by omega))
      rw [s3] at h0
      change DataW.trod enc Try.prog W base spare held n2 3 [v4] = some (zs[0]'(by omega)) at h0
      obtain ⟨q0, d0, _, _⟩ := DataW.trod_int Try.underlying3 h0
      have h1 : DataW.trod enc Try.prog W base spare held n2 3 (List.take (Try.prog.cellsOf 3) [v5, v6]) = some (zs[1]'(by omega)) := (hf2 1 _ rfl).trans (List.getElem?_eq_getElem (by omega))
      rw [s3] at h1
      change DataW.trod enc Try.prog W base spare held n2 3 [v5] = some (zs[1]'(by omega)) at h1
      obtain ⟨q1, d1, _, _⟩ := DataW.trod_int Try.underlying3 h1
      have h2 : DataW.trod enc Try.prog W base spare held n2 3 (List.take (Try.prog.cellsOf 3) [v6]) = some (zs[2]'(by omega)) := (hf2 2 _ rfl).trans (List.getElem?_eq_getElem (by omega))
      rw [s3] at h2
      change DataW.trod enc Try.prog W base spare held n2 3 [v6] = some (zs[2]'(by omega)) at h2
      obtain ⟨q2, d2, _, _⟩ := DataW.trod_int Try.underlying3 h2
      simp only [List.cons.injEq, and_true] at e0 e1 e2 e3 d0 d1 d2
      subst e0 e1 e2 e3 d0 d1 d2
      refine ⟨⟨k0, k1, k2, k3, ⟨q0, q1, q2⟩⟩, fun b o e => ?_, fun e => ?_⟩
      · subst e
        have hh := fun (j : Nat) (hj : j < 7) => hat j hj
        have ha := fun (j k : Nat) => (show ((⟨b, o, none⟩ : Addr).add j).add k = ⟨b, o + j + k, none⟩ by rw [Go.WideShapes.add_plain, Go.WideShapes.add_plain])
        have c0 := hh 0 (by omega)
        have c1 := hh 1 (by omega)
        have c2 := hh 2 (by omega)
        have c3 := hh 3 (by omega)
        have c4 := hh 4 (by omega)
        have c5 := hh 5 (by omega)
        have c6 := hh 6 (by omega)
        rw [ha] at c0 c1 c2 c3 c4 c5 c6
        exact ⟨c0, c1, c2, c3, c4, c5, c6⟩
      · subst e
        have c0 := hat 0 (by omega)
        obtain ⟨b, o, spot⟩ := x
        have hspot : spot = none := by
          have := World.cell?_spot c0
          simpa [Addr.add] using this
        subst hspot
        exact ⟨b, o, rfl⟩
    obtain ⟨l, hll, hq⟩ := list_of len each
    refine ⟨l, hll, hl, fun hp => ?_⟩
    obtain ⟨b, o, rfl⟩ := (hq 0 _ (List.getElem?_eq_getElem (by omega))).2 rfl
    exact ⟨b, o, rfl, fun i y hy => (hq i y hy).1 b o rfl⟩
end
end Go.Proofs.Ythbcgbbcoanbdaa
