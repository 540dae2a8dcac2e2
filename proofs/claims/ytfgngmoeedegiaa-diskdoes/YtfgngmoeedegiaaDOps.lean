/-
  Calls of a law's argument []Op, and a crash: what their cells hold; from a reading of an argument to these words.
-/
import Derived.Test.YtfgngmoeedegiaaKept
import Derived.Test.YtfgngmoeedegiaaFrame
import Derived.Lib.SmallJoins
namespace Go.Proofs.Ytfgngmoeedegiaa
open Go.ChangeShapes Go.WideShapes Go.ChangeAt Go.RowKit

/-- A crash: what it keeps, what it tears. -/
structure CrD where
  A : Option Addr
  n : Nat
  c : Nat
  ks : List Bool
  torn : Int
  k : Int
def CrD.v (x : CrD) : Value := .agg #[.slice x.A x.n x.c, .int .i64 x.torn, .int .i64 x.k]
def CrD.At (w : World) (x : CrD) : Prop := Bl w x.A x.n x.c x.ks ∧ x.n ≤ 9223372036854775807
theorem CrD.At.keep {w w' : World} {x : CrD} (h : x.At w) (hm : Mod (fun _ => False) w w') : x.At w' := ⟨h.1.keep hm, h.2⟩
def CrD.f (x : CrD) : Nat → Nat := keptN x.ks x.torn x.k

/-- A call. -/
structure OpD where
  kind : Int
  at_ : Int
  n : Int
  b : UInt8
  short : Bool
  cr : CrD
def OpD.Cells (w : World) (x : OpD) (b o : Nat) : Prop :=
  w.cell? ⟨b, o, none⟩ = some (.int .i64 x.kind) ∧ w.cell? ⟨b, o + 1, none⟩ = some (.int .i64 x.at_) ∧ w.cell? ⟨b, o + 2, none⟩ = some (.int .i64 x.n) ∧ w.cell? ⟨b, o + 3, none⟩ = some (bv x.b) ∧
  w.cell? ⟨b, o + 4, none⟩ = some (.bool x.short) ∧ w.cell? ⟨b, o + 5, none⟩ = some (.slice x.cr.A x.cr.n x.cr.c) ∧ w.cell? ⟨b, o + 6, none⟩ = some (.int .i64 x.cr.torn) ∧ w.cell? ⟨b, o + 7, none⟩ = some (.int .i64 x.cr.k)
structure OpsAt (w : World) (A : Option Addr) (n c : Nat) (l : List OpD) : Prop where
  len : l.length = n
  cap : n ≤ c
  cells : 0 < n → ∃ b o, A = some ⟨b, o, none⟩ ∧ ∀ (i : Nat) (x : OpD), l[i]? = some x → x.Cells w b (o + i * 8)
  crs : ∀ x ∈ l, x.cr.At w
  num : ∀ x ∈ l, x.n < 9223372036854775808
theorem OpsAt.keep {w w' : World} {A : Option Addr} {n c : Nat} {l : List OpD} (h : OpsAt w A n c l) (hm : Mod (fun _ => False) w w') : OpsAt w' A n c l := by
  refine ⟨h.len, h.cap, fun hn => ?_, fun x hx => (h.crs x hx).keep hm, h.num⟩
  obtain ⟨b, o, hA, hc⟩ := h.cells hn
  refine ⟨b, o, hA, fun i x hx => ?_⟩
  have k : ∀ (j : Nat) (v : Value), w.cell? ⟨b, j, none⟩ = some v → w'.cell? ⟨b, j, none⟩ = some v := fun j v hv =>
    (World.cell?_of_block (hm.block b (World.block_lt_of_cell? w _ hv) id)).trans hv
  obtain ⟨c0, c1, c2, c3, c4, c5, c6, c7⟩ := hc i x hx
  exact ⟨k _ _ c0, k _ _ c1, k _ _ c2, k _ _ c3, k _ _ c4, k _ _ c5, k _ _ c6, k _ _ c7⟩

theorem Try.own : ownKnob Try.prog.godebug = none := by kernel_rfl
theorem Try.laidOut : laidOutB Try.prog = true := by kernel_rfl

section
variable {H : Type} {enc : TypeId × Value → H} {W : World} {base : Nat} {spare : Nat → Bool} {held : Bool}
theorem open_bools {t e : TypeId} {a : Option Addr} {len cap : Nat} {d : DataW H} {p : List MemPlace} (ht : Try.prog.underlying t = some (.slice e)) (he : Try.prog.underlying e = some .bool) (hc : Try.prog.cellsOf e = 1)
    (h : DataW.Trod enc Try.prog W base spare held t (.slice a len cap) d p) : ∃ ks, Bl W a len cap ks ∧ cap ≤ maxLen := by
  obtain ⟨fuel, hf⟩ := h
  rcases Go.Deep.open_slice ht hf with ⟨hcs, _⟩ | ⟨x, l, c, m, n, D, Pl, hcs, _, hl, hm, hmm, hx, hi⟩
  · simp [Value.cells] at hcs
    obtain ⟨rfl, rfl, rfl⟩ := hcs
    exact ⟨[], ⟨rfl, Nat.le_refl _, fun h => absurd h (by omega)⟩, Nat.zero_le _⟩
  · simp [Value.cells] at hcs
    obtain ⟨rfl, rfl, rfl⟩ := hcs
    have hlm : len ≤ m := by rw [hmm]; split <;> omega
    have each : ∀ i, i < len → ∃ q : Bool, W.cell? (x.add i) = some (.bool q) := by
      intro i hil
      obtain ⟨cs', hc', ht'⟩ := hi i (by omega)
      rw [hc] at hc'
      obtain ⟨_, hcl, hat⟩ := World.cells?_some hc'
      obtain ⟨q, hq, _⟩ := DataW.trod_bool he ht'
      subst hq
      refine ⟨q, ?_⟩
      have := hat 0 (by omega)
      rw [Nat.mul_one] at this
      simpa [Addr.add] using this
    obtain ⟨ks, hkl, hks⟩ := list_of (Q := fun i q => W.cell? (x.add i) = some (.bool q)) len each
    refine ⟨ks, ⟨hkl, hl, fun hp => ?_⟩, hm⟩
    obtain ⟨b, o, spot⟩ := x
    have hspot : spot = none := by
      obtain ⟨q, hq⟩ := each 0 hp
      have := World.cell?_spot hq
      simpa [Addr.add] using this
    subst hspot
    refine ⟨b, o, rfl, fun j hj => ?_⟩
    have h1 := hks j _ (List.getElem?_eq_getElem (by omega))
    rw [Go.WideShapes.add_plain] at h1
    rw [h1]
    simp [show j < ks.length by omega]

/-- A crash by value. -/
theorem open_crash {r : Reach} {b0 : Nat} {v : Value} {d : DataW H} {p : List MemPlace} (hv : Value.okWide Try.prog W r b0 36 v) (h : DataW.Trod enc Try.prog W base spare held 36 v d p) : ∃ x : CrD, v = x.v ∧ x.At W := by
  obtain ⟨v0, v1, v2, y0, y1, y2, n, rfl, _, _, t0, t1, t2⟩ := Go.Joins.open_agg3 Try.underlying36 (by kernel_rfl) (by kernel_rfl) hv h
  obtain ⟨A, m, c, e0⟩ := Go.Joins.slice_form Try.underlying34 t0
  obtain ⟨torn, e1, _, _⟩ := DataW.trod_int Try.underlying3 t1
  obtain ⟨k, e2, _, _⟩ := DataW.trod_int Try.underlying3 t2
  simp only [List.cons.injEq, and_true] at e0 e1 e2
  subst e0 e1 e2
  obtain ⟨ks, hbl, hcap⟩ := open_bools (d := y0.1) (p := y0.2) Try.underlying34 Try.underlying4 (by kernel_rfl) ⟨n, t0⟩
  exact ⟨⟨A, m, c, ks, torn, k⟩, rfl, hbl, by have := hbl.2.1; unfold maxLen at hcap; simp only at *; omega⟩

/-- A slice of calls. -/
theorem open_ops {a : Option Addr} {len cap : Nat} {d : DataW H} {p : List MemPlace} (h : DataW.Trod enc Try.prog W base spare held 22 (.slice a len cap) d p) : ∃ l, OpsAt W a len cap l := by
  obtain ⟨fuel, hf⟩ := h
  rcases Go.Deep.open_slice Try.underlying22 hf with ⟨hcs, _⟩ | ⟨x, l, c, m, n, D, Pl, hcs, _, hl, hm, hmm, hx, hi⟩
  · simp [Value.cells] at hcs
    obtain ⟨rfl, rfl, rfl⟩ := hcs
    exact ⟨[], rfl, Nat.le_refl _, fun h => absurd h (by omega), by simp, by simp⟩
  · simp [Value.cells] at hcs
    obtain ⟨rfl, rfl, rfl⟩ := hcs
    have hlm : len ≤ m := by rw [hmm]; split <;> omega
    have each : ∀ i, i < len → ∃ q : OpD, (∀ b o, x = ⟨b, o, none⟩ → q.Cells W b (o + i * 8)) ∧ (i = 0 → ∃ b o, x = ⟨b, o, none⟩) ∧ q.cr.At W ∧ q.n < 9223372036854775808 := by
      intro i hil
      obtain ⟨cs', hc', ht'⟩ := hi i (by omega)
      have hC : Try.prog.cellsOf 38 = 8 := by kernel_rfl
      rw [hC] at hc'
      obtain ⟨_, hcl, hat⟩ := World.cells?_some hc'
      obtain ⟨ys, n', _, _, _, hyl, hf'⟩ := DataW.trod_struct Try.underlying38 ht'
      match cs', hcl with
      | [v0, v1, v2, v3, v4, v5, v6, v7], _ =>
      have hyl6 : ys.length = 6 := hyl
      have s3 : Try.prog.cellsOf 3 = 1 := by kernel_rfl
      have s5 : Try.prog.cellsOf 5 = 1 := by kernel_rfl
      have s4 : Try.prog.cellsOf 4 = 1 := by kernel_rfl
      have s6 : Try.prog.cellsOf 36 = 3 := by kernel_rfl
      have g0 : DataW.trod enc Try.prog W base spare held n' 3 (List.take (Try.prog.cellsOf 3) [v0, v1, v2, v3, v4, v5, v6, v7]) = some (ys[0]'(by omega)) := (hf' 0 _ rfl).trans (List.getElem?_eq_getElem (by omega))
      rw [s3] at g0
      change DataW.trod enc Try.prog W base spare held n' 3 [v0] = some (ys[0]'(by omega)) at g0
      have g1 : DataW.trod enc Try.prog W base spare held n' 3 (List.take (Try.prog.cellsOf 3) [v1, v2, v3, v4, v5, v6, v7]) = some (ys[1]'(by omega)) := (hf' 1 _ rfl).trans (List.getElem?_eq_getElem (by omega))
      rw [s3] at g1
      change DataW.trod enc Try.prog W base spare held n' 3 [v1] = some (ys[1]'(by omega)) at g1
      have g2 : DataW.trod enc Try.prog W base spare held n' 3 (List.take (Try.prog.cellsOf 3) [v2, v3, v4, v5, v6, v7]) = some (ys[2]'(by omega)) := (hf' 2 _ rfl).trans (List.getElem?_eq_getElem (by omega))
      rw [s3] at g2
      change DataW.trod enc Try.prog W base spare held n' 3 [v2] = some (ys[2]'(by omega)) at g2
      have g3 : DataW.trod enc Try.prog W base spare held n' 5 (List.take (Try.prog.cellsOf 5) [v3, v4, v5, v6, v7]) = some (ys[3]'(by omega)) := (hf' 3 _ rfl).trans (List.getElem?_eq_getElem (by omega))
      rw [s5] at g3
      change DataW.trod enc Try.prog W base spare held n' 5 [v3] = some (ys[3]'(by omega)) at g3
      have g4 : DataW.trod enc Try.prog W base spare held n' 4 (List.take (Try.prog.cellsOf 4) [v4, v5, v6, v7]) = some (ys[4]'(by omega)) := (hf' 4 _ rfl).trans (List.getElem?_eq_getElem (by omega))
      rw [s4] at g4
      change DataW.trod enc Try.prog W base spare held n' 4 [v4] = some (ys[4]'(by omega)) at g4
      have g5 : DataW.trod enc Try.prog W base spare held n' 36 (List.take (Try.prog.cellsOf 36) [v5, v6, v7]) = some (ys[5]'(by omega)) := (hf' 5 _ rfl).trans (List.getElem?_eq_getElem (by omega))
      rw [s6] at g5
      change DataW.trod enc Try.prog W base spare held n' 36 [v5, v6, v7] = some (ys[5]'(by omega)) at g5
      obtain ⟨kind, e0, _, _⟩ := DataW.trod_int Try.underlying3 g0
      obtain ⟨at_, e1, _, _⟩ := DataW.trod_int Try.underlying3 g1
      obtain ⟨num, e2, _, w2⟩ := DataW.trod_int Try.underlying3 g2
      obtain ⟨byte, e3, _, w3⟩ := DataW.trod_int Try.underlying5 g3
      obtain ⟨short, e4, _⟩ := DataW.trod_bool Try.underlying4 g4
      obtain ⟨zs, n2, _, _, _, hzl, hf2⟩ := DataW.trod_struct Try.underlying36 g5
      have hzl3 : zs.length = 3 := hzl
      have s7 : Try.prog.cellsOf 34 = 1 := by kernel_rfl
      have k0 : DataW.trod enc Try.prog W base spare held n2 34 (List.take (Try.prog.cellsOf 34) [v5, v6, v7]) = some (zs[0]'(by omega)) := (hf2 0 _ rfl).trans (List.getElem?_eq_getElem (by omega))
      rw [s7] at k0
      change DataW.trod enc Try.prog W base spare held n2 34 [v5] = some (zs[0]'(by omega)) at k0
      have k1 : DataW.trod enc Try.prog W base spare held n2 3 (List.take (Try.prog.cellsOf 3) [v6, v7]) = some (zs[1]'(by omega)) := (hf2 1 _ rfl).trans (List.getElem?_eq_getElem (by omega))
      rw [s3] at k1
      change DataW.trod enc Try.prog W base spare held n2 3 [v6] = some (zs[1]'(by omega)) at k1
      have k2 : DataW.trod enc Try.prog W base spare held n2 3 (List.take (Try.prog.cellsOf 3) [v7]) = some (zs[2]'(by omega)) := (hf2 2 _ rfl).trans (List.getElem?_eq_getElem (by omega))
      rw [s3] at k2
      change DataW.trod enc Try.prog W base spare held n2 3 [v7] = some (zs[2]'(by omega)) at k2
      obtain ⟨A, km, kc, e5⟩ := Go.Joins.slice_form Try.underlying34 k0
      obtain ⟨torn, e6, _, _⟩ := DataW.trod_int Try.underlying3 k1
      obtain ⟨k, e7, _, _⟩ := DataW.trod_int Try.underlying3 k2
      simp only [List.cons.injEq, and_true] at e0 e1 e2 e3 e4 e5 e6 e7
      subst e0 e1 e2 e3 e4 e5 e6 e7
      obtain ⟨ks, hbl, hcap⟩ := open_bools (d := (zs[0]'(by omega)).1) (p := (zs[0]'(by omega)).2) Try.underlying34 Try.underlying4 (by kernel_rfl) ⟨n2, k0⟩
      obtain ⟨u0, u1⟩ := bounds_u8 w3
      have hb2 := bounds_i64 w2
      refine ⟨⟨kind, at_, num, UInt8.ofNat byte.toNat, short, ⟨A, km, kc, ks, torn, k⟩⟩, ?_, ?_, ⟨hbl, ?_⟩, ?_⟩
      · rintro b o rfl
        have q := fun j (hj : j < 8) => hat j hj
        have hadd : ∀ j, ((⟨b, o, none⟩ : Addr).add (i * 8)).add j = ⟨b, o + i * 8 + j, none⟩ := fun j => by rw [Go.WideShapes.add_plain, Go.WideShapes.add_plain]
        simp only [hadd] at q
        have hby : bv (UInt8.ofNat byte.toNat) = .int .u8 byte := by show Value.int .u8 _ = _; rw [byte_of_int u0 u1]
        refine ⟨q 0 (by omega), q 1 (by omega), q 2 (by omega), ?_, q 4 (by omega), q 5 (by omega), q 6 (by omega), q 7 (by omega)⟩
        show _ = some (bv (UInt8.ofNat byte.toNat))
        rw [hby]
        exact q 3 (by omega)
      · rintro rfl
        obtain ⟨b, o, spot⟩ := x
        have h0 := hat 0 (by omega)
        have := World.cell?_spot h0
        have hs : spot = none := by simpa [Addr.add] using this
        subst hs
        exact ⟨b, o, rfl⟩
      · have := hbl.2.1; unfold maxLen at hcap; show km ≤ _; omega
      · show num < _; omega
    obtain ⟨l, hll, hq⟩ := list_of (Q := fun i (q : OpD) => (∀ b o, x = ⟨b, o, none⟩ → q.Cells W b (o + i * 8)) ∧ (i = 0 → ∃ b o, x = ⟨b, o, none⟩) ∧ q.cr.At W ∧ q.n < 9223372036854775808) len each
    refine ⟨l, hll, hl, fun hp => ?_, fun y hy => ?_, fun y hy => ?_⟩
    · obtain ⟨b, o, rfl⟩ := (hq 0 _ (List.getElem?_eq_getElem (by omega))).2.1 rfl
      exact ⟨b, o, rfl, fun i y hy => (hq i y hy).1 b o rfl⟩
    · obtain ⟨i, hi⟩ := List.getElem?_of_mem hy
      exact (hq i y hi).2.2.1
    · obtain ⟨i, hi⟩ := List.getElem?_of_mem hy
      exact (hq i y hi).2.2.2
end
theorem byte_arg {z : Int} (h : (Lit.int .u8 z).wf = true) : Value.int .u8 z = bv (UInt8.ofNat z.toNat) := by
  obtain ⟨u0, u1⟩ := bounds_u8 h
  show _ = Value.int .u8 _
  rw [byte_of_int u0 u1]
end Go.Proofs.Ytfgngmoeedegiaa
