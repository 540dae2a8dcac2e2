/-
  Package txn: what stays where a transaction's box turns; what calls answer.
-/
import Derived.Test.YtidcmolkolcliaaX5
import Derived.Test.YtidcmolkolcliaaXOrd2
namespace Go.Proofs.Ytidcmolkolcliaa
open Go Go.RowKit

/-- A transaction that may lie in a law: its savepoints lie in memory older than b0, or in a row of numbers. -/
structure Kp (b0 : Nat) (w : World) (x : TxD) : Prop where
  at_ : x.At w
  s : ∀ k, blkOf x.B = some k → 0 < x.m → k < b0 ∨ ∃ cs fr, w.heap[k]? = some (.cells cs 3 fr)
section
variable {b0 base g : Nat} {w w' : World} {x z : TxD} {y : ChD}
theorem Kp.keep (h : Kp b0 w x) (hm : Mod (fun _ => False) w w') : Kp b0 w' x := by
  refine ⟨h.at_.keep hm, fun k hk hp => ?_⟩
  rcases h.s k hk hp with hl | ⟨cs, fr, hc⟩
  · exact .inl hl
  · exact .inr ⟨cs, fr, (hm.block k (Array.getElem?_eq_some_iff.1 hc).1 id).trans hc⟩
theorem TxD.In.cell (hg : z.In w g) (i : Nat) : w.cell? ⟨g, i, none⟩ = z.cells[i]? := cell_of_row _ _ _ _ _ _ hg
theorem TxD.In.noU8 (hg : z.In w g) {i : Nat} {b : UInt8} (h : w.cell? ⟨g, i, none⟩ = some (bv b)) : False := by
  rw [hg.cell] at h
  match i, (Array.getElem?_eq_some_iff.1 h).1 with
  | 0, _ => simp [TxD.cells, bv] at h
  | 1, _ => simp [TxD.cells, bv] at h
  | 2, _ => simp [TxD.cells, bv] at h
  | 3, _ => simp [TxD.cells, bv] at h
  | 4, _ => simp [TxD.cells, bv] at h
  | 5, _ => simp [TxD.cells, bv] at h
theorem TxD.In.noBool (hg : z.In w g) {i : Nat} {b : Bool} (h : w.cell? ⟨g, i, none⟩ = some (.bool b)) : False := by
  rw [hg.cell] at h
  match i, (Array.getElem?_eq_some_iff.1 h).1 with
  | 0, _ => simp [TxD.cells] at h
  | 1, _ => simp [TxD.cells] at h
  | 2, _ => simp [TxD.cells] at h
  | 3, _ => simp [TxD.cells] at h
  | 4, _ => simp [TxD.cells] at h
  | 5, _ => simp [TxD.cells] at h
theorem VlD.At.box {v : VlD} (h : v.At w) (hg : z.In w g) (hm : Mod (fun k => k = g) w w') : v.At w' := by
  refine Sl.mod h hm (fun k hk hp e => ?_)
  subst e
  obtain ⟨b, o, hA, hc⟩ := h.2.2 hp
  rw [hA] at hk
  obtain rfl : b = k := by simpa [blkOf] using hk
  exact hg.noU8 (hc 0 hp)
theorem ChD.At.box (h : y.At w) (hg : z.In w g) (hm : Mod (fun k => k = g) w w') : y.At w' := ⟨h.o.box hg hm, h.v.box hg hm⟩
theorem Cs.box {A : Option Addr} {n c : Nat} {l : List ChD} (h : Cs w A n c l) (hg : z.In w g) (hm : Mod (fun k => k = g) w w') : Cs w' A n c l := by
  refine ⟨h.len, h.cap, fun hp => ?_, fun x hx => (h.ats x hx).box hg hm⟩
  obtain ⟨b, o, hA, hc⟩ := h.cells hp
  refine ⟨b, o, hA, fun i x hx => (hc i x hx).keep (hm.block b (hc i x hx).lt (fun e => ?_))⟩
  subst e
  exact hg.noBool (hc i x hx).c3
theorem Kp.box (h : Kp b0 w x) (hg : z.In w g) (hb : b0 ≤ g) (hm : Mod (fun k => k = g) w w') : Kp b0 w' x := by
  have hne : ∀ k, blkOf x.B = some k → 0 < x.m → k ≠ g := fun k hk hp e => by
    rcases h.s k hk hp with hl | ⟨cs, fr, hc⟩
    · omega
    · subst e
      have := hg.symm.trans hc
      injection this with this
      injection this with _ this
      exact absurd this (by decide)
  refine ⟨⟨h.at_.L.box hg hm, h.at_.S.mod hm (fun k hk hp e => hne k hk hp e)⟩, fun k hk hp => ?_⟩
  rcases h.s k hk hp with hl | ⟨cs, fr, hc⟩
  · exact .inl hl
  · exact .inr ⟨cs, fr, (hm.block k (Array.getElem?_eq_some_iff.1 hc).1 (hne k hk hp)).trans hc⟩
/-- What a change's box, younger than they are, leaves. -/
theorem ChD.In.noU8 {z : ChD} (hg : z.In w g) {i : Nat} {b : UInt8} (h : w.cell? ⟨g, i, none⟩ = some (bv b)) : False := by
  have e : w.cell? ⟨g, i, none⟩ = z.cells[i]? := cell_of_row _ _ _ _ _ _ hg
  rw [e] at h
  match i, (Array.getElem?_eq_some_iff.1 h).1 with
  | 0, _ => simp [ChD.cells, bv] at h
  | 1, _ => simp [ChD.cells, bv] at h
  | 2, _ => simp [ChD.cells, bv] at h
  | 3, _ => simp [ChD.cells, bv] at h
  | 4, _ => simp [ChD.cells, bv] at h
  | 5, _ => simp [ChD.cells, bv] at h
  | 6, _ => simp [ChD.cells, bv] at h
theorem TxD.Own.kp (h : x.Own w base) : Kp b0 w x := by
  refine ⟨h.at_, fun k hk _ => .inr ?_⟩
  obtain ⟨_, cur, hc, _⟩ := OwV.block h.S hk
  exact ⟨_, _, hc⟩
theorem TxD.zero_own (w : World) (base : Nat) : TxD.zero.Own w base := ⟨OwN.nil _ _ _ _, by simp [TxD.zero], OwV.nil _ _ _⟩
theorem ChD.zero_own (w : World) (base : Nat) : ChD.zero.Own w base := ⟨OwV.nil _ _ _, OwV.nil _ _ _⟩
/-- A box that is older turns. -/
theorem TxD.Own.old (h : x.Own w base) (hm : Mod (fun k => k = g) w w') (hb : g < base) : x.Own w' base :=
  ⟨OwN.mod h.L hm (fun k hk e => by have := (OwN.lt h.L k hk).1; omega),
   fun y hy => ⟨OwV.mod (h.vals y hy).o hm (fun k hk e => by have := (OwV.lt (h.vals y hy).o k hk).1; omega), OwV.mod (h.vals y hy).v hm (fun k hk e => by have := (OwV.lt (h.vals y hy).v k hk).1; omega)⟩,
   OwV.mod h.S hm (fun k hk e => by have := (OwV.lt h.S k hk).1; omega)⟩
theorem ChD.Own.old (h : y.Own w base) (hm : Mod (fun k => k = g) w w') (hb : g < base) : y.Own w' base :=
  ⟨OwV.mod h.o hm (fun k hk e => by have := (OwV.lt h.o k hk).1; omega), OwV.mod h.v hm (fun k hk e => by have := (OwV.lt h.v k hk).1; omega)⟩
theorem TxD.Own.rebase {base' : Nat} (h : x.Own w base) (hb : base' ≤ base) : x.Own w base' :=
  ⟨OwN.rebase_ h.L hb, fun y hy => (h.vals y hy).rebase hb, OwV.rebase h.S (fun k hk => by have := (OwV.lt h.S k hk).1; omega)⟩
/-- One more change behind. -/
theorem TxD.Own.app (h : x.Own w base) (hy : y.Own w base) {A' : Option Addr} {c' : Nat} (hr : OwN w' base 30 7 A' (x.n + 1) c' (chs x.L ++ chc y)) (hg : w.grownBy w' (blkOf x.A)) :
    (⟨x.id, x.st, x.f, x.l, A', x.n + 1, c', x.L ++ [y], x.B, x.m, x.d, x.S⟩ : TxD).Own w' base := by
  have hm : Mod (fun k => blkOf x.A = some k) w w' := (Mod.refl _ w).grown hg (fun k e _ => e)
  have hF : ∀ k, blkOf x.A = some k → ∃ cs t fr, w.heap[k]? = some (.cells cs t fr) ∧ t ≠ 5 := fun k hk => by
    obtain ⟨cs, hc⟩ := OwN.blk h.L hk
    exact ⟨cs, _, _, hc, u8_ne_ch⟩
  refine ⟨?_, fun u hu => ?_, ?_⟩
  · show OwN w' base 30 7 A' (x.n + 1) c' (chs (x.L ++ [y]))
    rw [chs_append]
    simpa [chs] using hr
  · rcases List.mem_append.1 hu with hu | hu
    · exact (h.vals u hu).far hm hF
    · obtain rfl : u = y := by simpa using hu
      exact hy.far hm hF
  · refine OwV.mod h.S hm (fun k hk e => ?_)
    obtain ⟨_, cur, hc, _⟩ := OwV.block h.S hk
    obtain ⟨cs, hc2⟩ := OwN.blk h.L e
    rw [hc] at hc2
    injection hc2 with hc2
    injection hc2 with _ hc2
    exact absurd hc2 (by decide)
/-- One more savepoint behind. -/
theorem TxD.Own.appS (h : x.Own w base) {A' : Option Addr} {c' : Nat} {k : Int} (hr : OwV w' base 3 A' (x.m + 1) c' (ivs x.S ++ [.int .i64 k])) (hg : w.grownBy w' (blkOf x.B)) :
    (⟨x.id, x.st, x.f, x.l, x.A, x.n, x.c, x.L, A', x.m + 1, c', x.S ++ [k]⟩ : TxD).Own w' base := by
  have hm : Mod (fun k => blkOf x.B = some k) w w' := (Mod.refl _ w).grown hg (fun k e _ => e)
  have hF : ∀ k, blkOf x.B = some k → ∃ cs t fr, w.heap[k]? = some (.cells cs t fr) ∧ t ≠ 5 := fun k hk => by
    obtain ⟨_, cur, hc, _⟩ := OwV.block h.S hk
    exact ⟨_, _, _, hc, by decide⟩
  refine ⟨?_, fun u hu => (h.vals u hu).far hm hF, ?_⟩
  · refine OwN.mod h.L hm (fun k hk e => ?_)
    obtain ⟨_, cur, hc, _⟩ := OwV.block h.S e
    obtain ⟨cs, hc2⟩ := OwN.blk h.L hk
    rw [hc] at hc2
    injection hc2 with hc2
    injection hc2 with _ hc2
    exact absurd hc2 (by decide)
  · show OwV w' base 3 A' (x.m + 1) c' (ivs (x.S ++ [k]))
    rw [ivs_append]
    exact hr
end

/-! ### What calls answer -/
def AbAns (w w' : World) (E I : Int) (e : Ending) : Prop := e = .returned (.tuple #[.int .i64 (if E = 0 then I else 0), .int .i64 E]) ∧ Mod (fun _ => False) w w'
def NwAns (w w' : World) (E : Int) (T : Tp) (e : Ending) : Prop :=
  ∃ y : TxD, e = .returned (.tuple #[.agg #[.int .i64 y.id, .int .i64 y.st, .int .i64 y.f, .int .i64 y.l, .slice y.A y.n y.c, .slice y.B y.m y.d], .int .i64 E]) ∧ y.Own w' w.heap.size ∧ y.p = (if E = 0 then T else noT) ∧ Mod (fun _ => False) w w'
def UnAns (w w' : World) (E : Int) (T : Tp) (C : Cp) (e : Ending) : Prop :=
  ∃ (y : TxD) (c : ChD), e = .returned (.tuple #[.agg #[.int .i64 y.id, .int .i64 y.st, .int .i64 y.f, .int .i64 y.l, .slice y.A y.n y.c, .slice y.B y.m y.d], .agg #[.int .i64 c.lsn, .int .i64 c.page, .int .i64 c.key, .bool c.o.is, .slice c.o.B c.o.m c.o.d, .bool c.v.is, .slice c.v.B c.v.m c.v.d], .int .i64 E]) ∧ (∀ b0, Kp b0 w' y) ∧ c.At w' ∧ y.p = (if E = 0 then T else noT) ∧ c.p = (if E = 0 then C else noC) ∧ Mod (fun _ => False) w w'
def SvAns (w w' : World) (E : Int) (k : Int) (T : Tp) (e : Ending) : Prop :=
  ∃ y : TxD, e = .returned (.tuple #[.agg #[.int .i64 y.id, .int .i64 y.st, .int .i64 y.f, .int .i64 y.l, .slice y.A y.n y.c, .slice y.B y.m y.d], .int .i64 (if E = 0 then k else 0), .int .i64 E]) ∧ y.Own w' w.heap.size ∧ y.p = (if E = 0 then T else noT) ∧ Mod (fun _ => False) w w'
/-- Shortened lists of rows of the call's own. -/
theorem TxD.Own.cut {w : World} {base : Nat} {x : TxD} (h : x.Own w base) {q r : Nat} (hq : q ≤ x.n) (hr : r ≤ x.m) (b0 : Nat) : Kp b0 w ⟨x.id, x.st, x.f, x.l, x.A, q, q, x.L.take q, x.B, r, r, x.S.take r⟩ := by
  refine ⟨⟨h.at_.L.pre hq q (Nat.le_refl _), h.at_.S.pre hr r (Nat.le_refl _)⟩, fun k hk _ => .inr ?_⟩
  obtain ⟨_, cur, hc, _⟩ := OwV.block h.S hk
  exact ⟨_, _, hc⟩
theorem cut_filter {S : List Int} {k r : Nat} (hu : ∀ i j, i ≤ j → j < S.length → atI S i ≤ atI S j) (hr : r ≤ S.length) (hi : ∀ j, r ≤ j → j < S.length → (k : Int) < atI S j) (lo : r = 0 ∨ atI S (r - 1) ≤ (k : Int)) :
    S.take r = S.filter (leq k) := by
  have e : S.filter (leq k) = (S.take r).filter (leq k) ++ (S.drop r).filter (leq k) := by rw [← List.filter_append, List.take_append_drop]
  have e1 : (S.take r).filter (leq k) = S.take r := by
    rw [List.filter_eq_self]
    intro z hz
    obtain ⟨i, hi'⟩ := List.mem_iff_getElem?.1 hz
    rw [List.getElem?_take] at hi'
    split at hi'
    · rename_i hlt
      have h1 := hu i (r - 1) (by omega) (by omega)
      rw [atI_of hi'] at h1
      rcases lo with h0 | h0
      · omega
      · unfold leq; exact decide_eq_true (by omega)
    · cases hi'
  have e2 : (S.drop r).filter (leq k) = [] := by
    rw [List.filter_eq_nil_iff]
    intro z hz
    obtain ⟨i, hi'⟩ := List.mem_iff_getElem?.1 hz
    rw [List.getElem?_drop] at hi'
    have h1 := hi (r + i) (by omega) (List.getElem?_eq_some_iff.1 hi').1
    rw [atI_of hi'] at h1
    unfold leq
    simp only [decide_eq_true_eq]
    omega
  rw [e, e1, e2, List.append_nil]
/-- Valid: not long. -/
theorem may_small {t : Tp} (h : mayT t = true) : ∀ c ∈ t.L, c.o.2.length ≤ 32 ∧ c.v.2.length ≤ 32 := by
  intro c hc
  obtain ⟨i, hi⟩ := List.mem_iff_getElem?.1 hc
  have hl := (List.getElem?_eq_some_iff.1 hi).1
  obtain ⟨_, _, _, _, h5, _⟩ := mayT_iff.1 h
  have h1 := (cL_iff.1 h5).2 i hl
  rw [okC, atC_of hi, folB, Bool.and_eq_true, cB] at h1
  simp only [Bool.and_eq_true, vB, decide_eq_true_eq] at h1
  exact ⟨h1.1.1.2.1, h1.1.2.1⟩
theorem fol_small {L : List Cp} {c : Cp} (h : folB L c = true) : c.o.2.length ≤ 32 ∧ c.v.2.length ≤ 32 := by
  rw [folB, Bool.and_eq_true, cB] at h
  simp only [Bool.and_eq_true, vB, decide_eq_true_eq] at h
  exact ⟨h.1.1.2.1, h.1.2.1⟩
theorem TxD.At.small {w : World} {x : TxD} (h : x.At w) (hm : mayT x.p = true) : ∀ y ∈ x.L, y.o.m ≤ 1000 ∧ y.v.m ≤ 1000 := by
  intro y hy
  have h1 := may_small hm y.p (List.mem_map_of_mem hy)
  have h2 := (h.L.ats y hy).o.len
  have h3 := (h.L.ats y hy).v.len
  have h4 : y.o.vs.length ≤ 32 := h1.1
  have h5 : y.v.vs.length ≤ 32 := h1.2
  omega
theorem ChD.At.small {w : World} {y : ChD} (h : y.At w) {L : List Cp} (hf : folB L y.p = true) : y.o.m ≤ 1000 ∧ y.v.m ≤ 1000 := by
  have h1 := fol_small hf
  have h2 := h.o.len
  have h3 := h.v.len
  have h4 : y.o.vs.length ≤ 32 := h1.1
  have h5 : y.v.vs.length ≤ 32 := h1.2
  omega
end Go.Proofs.Ytidcmolkolcliaa
