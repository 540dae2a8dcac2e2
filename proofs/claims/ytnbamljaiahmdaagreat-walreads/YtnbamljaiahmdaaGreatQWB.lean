/-
  wal.Log.Append.
  wal.Log.Append: its contract.
-/
import Derived.Test.YtnbamljaiahmdaaGreatQWA
namespace Go.Proofs.YtnbamljaiahmdaaGreat
open Go Go.RowKit Go.Shelf

/-- What an append does to a log and its device. -/
inductive App (g : Lg) (d : Dk) (r : RcD) : Int → Int → Lg → Dk → Prop
  | arg (h : mayB r = false) : App g d r 0 1 g d
  | full (h : mayB r = true) (hf : (g.l = [] ∧ growB g 1 = false) ∨ (g.l ≠ [] ∧ fitsB (g.l ++ [r]) = false ∧ growB g 2 = false)) : App g d r 0 4 g d
  | fit (y : RcD) (h : mayB r = true) (hg : g.l = [] → growB g 1 = true) (hf : fitsB (g.l ++ [r]) = true) (hy : Cp r y) : App g d r (256 * g.nx + g.l.length) 0 { g with l := g.l ++ [y] } d
  | next (y : RcD) (h : mayB r = true) (hl : g.l ≠ []) (hf : fitsB (g.l ++ [r]) = false) (hg : growB g 2 = true) (hy : Cp r y) : App g d r (256 * (g.nx + 1)) 0 { g.wrote with l := [y] } (d.write g.place g.sec)

theorem fits_one {w : World} {r : RcD} (hr : r.At w) (h : mayB r = true) : fitsB [r] = true := by
  unfold fitsB
  have h1 : recsB [r] = lenc r := by simp [recsB]
  have h2 := lenc_len hr h
  rw [packE_ok (by rfl) (by simp [h]) (by unfold packB; rw [List.length_append, headB_len, h1]; simp; omega)]
  rfl
theorem growB_iff {g : Lg} {k : Int} : growB g k = true ↔ k ≤ g.n - (g.nx - g.st) ∧ g.nx + k ≤ 16777215 := by simp [growB]

/-- The blocks of a log that may have turned; those that it has then. -/
structure Moved (w w' : World) (v v' : LV) : Prop where
  p : v'.p = v.p
  xp : v'.x.p = v.x.p
  mod : Mod v.M w w'
  grows : ∀ k, v'.M k → v.M k ∨ w.heap.size ≤ k
  av : ∀ N : Nat → Prop, (∀ k, N k → k < w.heap.size) → v.x.Avoid N → v'.x.Avoid N
theorem Moved.stay {w w' : World} {v : LV} (h : Mod (fun _ => False) w w') : Moved w w' v v := ⟨rfl, rfl, h.mono (fun _ _ h => h.elim), fun _ h => .inl h, fun _ _ h => h⟩
theorem Moved.trans {w w1 w2 : World} {v v1 v2 : LV} (h : Moved w w1 v v1) (k : Moved w1 w2 v1 v2) : Moved w w2 v v2 where
  p := k.p.trans h.p
  xp := k.xp.trans h.xp
  mod := h.mod.trans k.mod (fun i hi hm => (h.grows i hm).resolve_right (by omega))
  grows := fun i hi => by
    rcases k.grows i hi with h1 | h1
    · exact h.grows i h1
    · exact .inr (Nat.le_trans h.mod.size h1)
  av := fun N hN hx => k.av N (fun i hi => Nat.lt_of_lt_of_le (hN i hi) h.mod.size) (h.av N hN hx)

section
variable {w0 w w' : World} {v : LV} {d : Dk}
/-- The buffer's row, beyond its end, has turned. -/
theorem LV.At.spare (h : v.At w0 w d) (hm : Mod (fun k => blkOf v.A = some k) w w') (hr : OwN w' w0.heap.size 47 14 v.A v.g.l.length v.c (recsC v.g.l)) : v.At w0 w' d where
  dev := ⟨h.dev.at_.mod2 hm (fun k hk => h.rowM hk) h.av, h.dev.dk, h.dev.old.trans hm (fun k hk e => by have := (h.row.lt k e).1; omega)⟩
  obj := (hm.block _ h.lt h.rowp).trans h.obj
  pb := h.pb
  row := hr
  vals := fun y hy => ⟨own_mod (h.vals y hy).1 hm (fun k cs e1 e2 => h.bytesM e1 (.inr (.inr e2))), own_mod (h.vals y hy).2 hm (fun k cs e1 e2 => h.bytesM e1 (.inr (.inr e2)))⟩
  ok := h.ok
  arm := h.arm
  dead := h.dead
  wait := h.wait
  av := h.av
/-- One record more. -/
theorem LV.At.push (h : v.At w0 w d) {w1 : World} {y : RcD} {A' : Option Addr} {c' : Nat} (hm : Mod (fun k => blkOf v.A = some k) w w1) (hr : OwN w1 w0.heap.size 47 14 A' (v.g.l.length + 1) c' (recsC (v.g.l ++ [y])))
    (hA : blkOf A' = blkOf v.A ∨ ∀ k, blkOf A' = some k → w.heap.size ≤ k) (hyo : y.o.Own w w0.heap.size) (hyv : y.v.Own w w0.heap.size) (hf : fitsB (v.g.l ++ [y]) = true) (hg : v.g.l = [] → growB v.g 1 = true) :
    (⟨v.p, v.x, A', c', { v.g with l := v.g.l ++ [y] }⟩ : LV).At w0 (w1.setCell ⟨v.p, 8, none⟩ (.slice A' (v.g.l.length + 1) c')) d ∧
    Moved w (w1.setCell ⟨v.p, 8, none⟩ (.slice A' (v.g.l.length + 1) c')) v ⟨v.p, v.x, A', c', { v.g with l := v.g.l ++ [y] }⟩ := by
  have ho : w1.heap[v.p]? = some (.cells v.obj 80 (0, 0)) := (hm.block _ h.lt h.rowp).trans h.obj
  have hm2 : Mod (fun k => k = v.p) w1 (w1.setCell ⟨v.p, 8, none⟩ (.slice A' (v.g.l.length + 1) c')) := (Mod.refl _ w1).one _ _
  have hd1 : Dev w0 w1 v.x d := ⟨h.dev.at_.mod2 hm (fun k hk => h.rowM hk) h.av, h.dev.dk, h.dev.old.trans hm (fun k hk e => by have := (h.row.lt k e).1; omega)⟩
  have hrp : blkOf A' ≠ some v.p := by
    rcases hA with e | e
    · rw [e]; exact h.rowp
    · intro hk; have := e _ hk; have := h.lt; omega
  have hb1 : ∀ (z : VlD), z.Own w w0.heap.size → z.Own (w1.setCell ⟨v.p, 8, none⟩ (.slice A' (v.g.l.length + 1) c')) w0.heap.size := by
    intro z hz
    have h1 := own_mod hz hm (fun k cs e1 e2 => h.bytesM e1 (.inr (.inr e2)))
    refine own_mod h1 hm2 (fun k cs e1 e2 => ?_)
    subst e2
    rw [ho] at e1
    injection e1 with e1
    injection e1 with _ e1
    exact absurd e1 (by decide)
  have hll : (v.g.l ++ [y]).length = v.g.l.length + 1 := by simp
  have ok := h.ok
  refine ⟨⟨hd1.poke ho (by decide) (by decide) (by decide) (by simp [LV.obj]) h.pb hm2, ?_, h.pb, ?_, ?_, ⟨ok.b0, ok.n2, ok.bn, ok.e1, ok.e2, ok.s0, ok.sn, ok.nm, ok.room, ok.f0, ok.fn, ok.d0, ok.dn, hf, fun _ => ?_⟩, h.arm, h.dead, h.wait, ?_⟩, ⟨rfl, rfl, ?_, ?_, fun _ _ h => h⟩⟩
  · refine (heap_set ho 8 _).trans ?_
    simp only [LV.obj, hll]
    rfl
  · show OwN _ _ _ _ A' (v.g.l ++ [y]).length c' _
    rw [hll]
    exact hr.mod hm2 (fun k hk e => hrp (e ▸ hk))
  · intro z hz
    rcases List.mem_append.1 hz with hz | hz
    · exact ⟨hb1 _ (h.vals z hz).1, hb1 _ (h.vals z hz).2⟩
    · rw [List.mem_singleton] at hz
      subst hz
      exact ⟨hb1 _ hyo, hb1 _ hyv⟩
  · show v.g.nx - v.g.st + 1 ≤ v.g.n ∧ v.g.nx + 1 ≤ 16777215
    by_cases hl : v.g.l = []
    · have := growB_iff.1 (hg hl); omega
    · exact ok.some_ hl
  · show v.x.Avoid (fun k => blkOf A' = some k)
    rcases hA with e | e
    · exact h.av.sub (fun k hk => by rw [← e]; exact hk)
    · exact h.dev.at_.avoid_new e
  · exact (hm.mono (fun k _ e => .inr (.inr e))).trans (hm2.mono (fun k _ e => .inr (.inl e))) (fun _ _ h => h)
  · rintro k (e | e | e)
    · exact .inl (.inl e)
    · exact .inl (.inr (.inl e))
    · rcases hA with e2 | e2
      · exact .inl (.inr (.inr (e2 ▸ e)))
      · exact .inr (e2 k e)
end
structure AppAns (w0 w : World) (v : LV) (d : Dk) (r : RcD) (e : Ending) (w' : World) : Prop where
  ex : ∃ v' d' a er, e = .returned (.tuple #[.int .i64 a, .int .i64 er]) ∧ App v.g d r a er v'.g d' ∧ v'.At w0 w' d' ∧ Moved w w' v v'
end Go.Proofs.YtnbamljaiahmdaaGreat

namespace Go.Proofs.YtnbamljaiahmdaaGreat
open Go Go.RowKit Go.Shelf

set_option maxRecDepth 100000 in
theorem app_arg (w w0 : World) (v : LV) (d : Dk) (h : v.At w0 w d) (r : RcD) (_hr : r.At w) (hn : mayB r = false) : Calls Tryz.prog 13 #[.pointer (some ⟨v.p, 0, none⟩), r.val] w (AppAns w0 w v d r) := by
  have hm0 : Mod (fun _ => False) w (w.alloc (.cells r.cells 47)) := (Mod.refl _ w).alloc _
  have hmay := may_ok (w.alloc (.cells r.cells 47)) r
  rw [hn] at hmay
  have Hmay := Lib.hid hmay
  have Hm0 := Lib.hid hm0
  have Hh := Lib.hid h
  have Hn := Lib.hid hn
  clear h hm0 hmay hn
  go_enter Tryz.func13, Tryz.ntmps13
  go_wp2_with fail
  refine Hmay.out.mono ?_
  rintro e w1 ⟨rfl, hm1⟩
  have Hm1 : Hid (Mod (fun _ => False) w w1) := Hm0.out.trans hm1 (fun _ _ h => h)
  clear hm1 Hmay
  go_wp2
  go_ret2
  exact ⟨v, d, 0, 1, rfl, .arg Hn.out, Hh.out.keep Hm1.out, Moved.stay Hm1.out⟩

theorem fold_o : ∀ (fl : List Fld) (x : RcD), Fld.old ∉ fl → (fl.foldl zeroF x).o = x.o
  | [], _, _ => rfl
  | f :: fl, x, h => by
    rw [List.foldl_cons, fold_o fl _ (fun e => h (List.mem_cons_of_mem _ e))]
    cases f with
    | num i wd => rfl
    | old => exact absurd (List.mem_cons_self ..) h
    | new => rfl
theorem fold_v : ∀ (fl : List Fld) (x : RcD), Fld.new ∉ fl → (fl.foldl zeroF x).v = x.v
  | [], _, _ => rfl
  | f :: fl, x, h => by
    rw [List.foldl_cons, fold_v fl _ (fun e => h (List.mem_cons_of_mem _ e))]
    cases f with
    | num i wd => rfl
    | old => rfl
    | new => exact absurd (List.mem_cons_self ..) h
theorem may_small {r : RcD} (h : mayB r = true) : r.o.m ≤ 1000 ∧ r.v.m ≤ 1000 := by
  obtain ⟨fl, hfl, hok, he⟩ := mayB_kind h
  have key : ∀ (q : VlD), okV q = true → q.m ≤ 1000 := by
    intro q hq
    unfold okV noneV at hq
    simp at hq
    omega
  have none_ : ∀ (q : VlD), noneV q = true → q.m ≤ 1000 := fun q hq => key q (by unfold okV; rw [hq]; rfl)
  unfold emptyB at he
  rw [Bool.and_eq_true, Bool.and_eq_true] at he
  constructor
  · by_cases hm : Fld.old ∈ fl
    · exact key _ (hok _ hm)
    · have := he.1.2
      rw [fold_o fl r hm] at this
      exact none_ _ this
  · by_cases hm : Fld.new ∈ fl
    · exact key _ (hok _ hm)
    · have := he.2
      rw [fold_v fl r hm] at this
      exact none_ _ this

set_option maxRecDepth 100000 in
theorem app_full0 (w w0 : World) (v : LV) (d : Dk) (h : v.At w0 w d) (r : RcD) (hr : r.At w) (hmb : mayB r = true) (hl : v.g.l = []) (hg : growB v.g 1 = false) : Calls Tryz.prog 13 #[.pointer (some ⟨v.p, 0, none⟩), r.val] w (AppAns w0 w v d r) := by
  have HL := Lib.hid hl
  have HG := Lib.hid hg
  clear hl hg
  have hm0 : Mod (fun _ => False) w (w.alloc (.cells r.cells 47)) := (Mod.refl _ w).alloc _
  have hmay := may_ok (w.alloc (.cells r.cells 47)) r
  rw [hmb] at hmay
  have Hmay := Lib.hid hmay
  have Hm0 := Lib.hid hm0
  have Hh := Lib.hid h
  have Hr := Lib.hid hr
  have Hmb := Lib.hid hmb
  have HI0 : Hid (r.In (w.alloc (.cells r.cells 47)) w.heap.size) := RcD.In.new w r
  clear h hr hm0 hmay hmb
  go_enter Tryz.func13, Tryz.ntmps13
  go_wp2_with fail
  refine Hmay.out.mono ?_
  rintro e w1 ⟨rfl, hm1⟩
  have Hm1 : Hid (Mod (fun _ => False) w w1) := Hm0.out.trans hm1 (fun _ _ h => h)
  have HI1 : Hid (r.In w1 w.heap.size) := HI0.out.keep hm1
  clear hm1 Hmay HI0 Hm0
  have c8 := (Hh.out.keep Hm1.out).lc.c8
  rw [show v.g.l.length = 0 by rw [HL.out]; rfl] at c8
  have Hgr := Lib.hid (mayGrow_ok w1 w0 v d (Hh.out.keep Hm1.out) 1 (by omega) (by omega))
  rw [HG.out] at Hgr
  go_wp2_with fail
  refine Hgr.out.mono ?_
  rintro e w2 ⟨rfl, hm2⟩
  have Hm2 : Hid (Mod (fun _ => False) w w2) := Hm1.out.trans hm2 (fun _ _ h => h)
  have HI2 : Hid (r.In w2 w.heap.size) := HI1.out.keep hm2
  clear hm2 Hgr c8 Hm1 HI1
  clear HI2
  go_wp2
  go_ret2
  exact ⟨v, d, 0, 4, rfl, .full Hmb.out (.inl ⟨HL.out, HG.out⟩), Hh.out.keep Hm2.out, Moved.stay Hm2.out⟩

set_option maxRecDepth 100000 in
set_option maxHeartbeats 4000000 in
theorem app_fit0 (w w0 : World) (v : LV) (d : Dk) (h : v.At w0 w d) (r : RcD) (hr : r.At w) (hmb : mayB r = true) (hl : v.g.l = []) (hg : growB v.g 1 = true) (hf : fitsB (v.g.l ++ [r]) = true) : Calls Tryz.prog 13 #[.pointer (some ⟨v.p, 0, none⟩), r.val] w (AppAns w0 w v d r) := by
  have HL := Lib.hid hl
  have HG := Lib.hid hg
  have HF := Lib.hid hf
  clear hl hg hf
  have hm0 : Mod (fun _ => False) w (w.alloc (.cells r.cells 47)) := (Mod.refl _ w).alloc _
  have hmay := may_ok (w.alloc (.cells r.cells 47)) r
  rw [hmb] at hmay
  have Hmay := Lib.hid hmay
  have Hm0 := Lib.hid hm0
  have Hh := Lib.hid h
  have Hr := Lib.hid hr
  have Hmb := Lib.hid hmb
  have HI0 : Hid (r.In (w.alloc (.cells r.cells 47)) w.heap.size) := RcD.In.new w r
  clear h hr hm0 hmay hmb
  go_enter Tryz.func13, Tryz.ntmps13
  go_wp2_with fail
  refine Hmay.out.mono ?_
  rintro e w1 ⟨rfl, hm1⟩
  have Hm1 : Hid (Mod (fun _ => False) w w1) := Hm0.out.trans hm1 (fun _ _ h => h)
  have HI1 : Hid (r.In w1 w.heap.size) := HI0.out.keep hm1
  clear hm1 Hmay HI0 Hm0
  have c8 := (Hh.out.keep Hm1.out).lc.c8
  rw [show v.g.l.length = 0 by rw [HL.out]; rfl] at c8
  have Hgr := Lib.hid (mayGrow_ok w1 w0 v d (Hh.out.keep Hm1.out) 1 (by omega) (by omega))
  rw [HG.out] at Hgr
  go_wp2_with fail
  refine Hgr.out.mono ?_
  rintro e w2 ⟨rfl, hm2⟩
  have Hm2 : Hid (Mod (fun _ => False) w w2) := Hm1.out.trans hm2 (fun _ _ h => h)
  have HI2 : Hid (r.In w2 w.heap.size) := HI1.out.keep hm2
  clear hm2 Hgr c8 Hm1 HI1
  have c8 : True := trivial
  have x0 := HI2.out.kind
  have x1 := HI2.out.num (i := 1) (by omega) (by omega)
  have x2 := HI2.out.num (i := 2) (by omega) (by omega)
  have x3 := HI2.out.num (i := 3) (by omega) (by omega)
  have x4 := HI2.out.num (i := 4) (by omega) (by omega)
  have x5 := HI2.out.num (i := 5) (by omega) (by omega)
  have x6 := HI2.out.num (i := 6) (by omega) (by omega)
  have x7 := HI2.out.num (i := 7) (by omega) (by omega)
  have x8 := HI2.out.num (i := 8) (by omega) (by omega)
  have x9 := HI2.out.num (i := 9) (by omega) (by omega)
  have x10 := HI2.out.c10
  have x11 := HI2.out.c11
  have x12 := HI2.out.c12
  have x13 := HI2.out.c13
  have hcp := copied_ok w2 r (Hr.out.keep Hm2.out) (may_small Hmb.out).1 (may_small Hmb.out).2
  have Hcp := Lib.hid hcp
  clear hcp
  go_wp2_with fail
  refine Hcp.out.mono ?_
  rintro e w3 ⟨y, rfl, hc3, hyo, hyv, hm3⟩
  have Hm3 : Hid (Mod (fun _ => False) w w3) := Hm2.out.trans hm3 (fun _ _ h => h)
  have hI3 : r.In w3 w.heap.size := HI2.out.keep hm3
  have HI3 := Lib.hid hI3
  have Hc := Lib.hid hc3
  have Hyo : Hid (y.o.Own w3 w.heap.size) := (OwV.rebase hyo (fun k hk => Nat.le_trans Hm2.out.size (OwV.lt hyo k hk).1))
  have Hyv : Hid (y.v.Own w3 w.heap.size) := (OwV.rebase hyv (fun k hk => Nat.le_trans Hm2.out.size (OwV.lt hyv k hk).1))
  clear x0 x1 x2 x3 x4 x5 x6 x7 x8 x9 x10 x11 x12 x13 Hcp hm3 hc3 hyo hyv c8 HI2
  have z0 := hI3.kind
  have z1 := hI3.num (i := 1) (by omega) (by omega)
  have z2 := hI3.num (i := 2) (by omega) (by omega)
  have z3 := hI3.num (i := 3) (by omega) (by omega)
  have z4 := hI3.num (i := 4) (by omega) (by omega)
  have z5 := hI3.num (i := 5) (by omega) (by omega)
  have z6 := hI3.num (i := 6) (by omega) (by omega)
  have z7 := hI3.num (i := 7) (by omega) (by omega)
  have z8 := hI3.num (i := 8) (by omega) (by omega)
  have z9 := hI3.num (i := 9) (by omega) (by omega)
  have z10 := hI3.c10
  have z11 := hI3.c11
  have z12 := hI3.c12
  have z13 := hI3.c13
  have fz := hI3.fz
  clear hI3
  obtain ⟨w4, hw4⟩ : ∃ w4, stRec w3 w.heap.size y = w4 := ⟨_, rfl⟩
  have hw4' : ((((((((((((((w3).setCell ⟨w.heap.size, 0, none⟩ (.int .i64 y.k)).setCell ⟨w.heap.size, 1, none⟩ (.int .i64 (y.f 1))).setCell ⟨w.heap.size, 2, none⟩ (.int .i64 (y.f 2))).setCell ⟨w.heap.size, 3, none⟩ (.int .i64 (y.f 3))).setCell ⟨w.heap.size, 4, none⟩ (.int .i64 (y.f 4))).setCell ⟨w.heap.size, 5, none⟩ (.int .i64 (y.f 5))).setCell ⟨w.heap.size, 6, none⟩ (.int .i64 (y.f 6))).setCell ⟨w.heap.size, 7, none⟩ (.int .i64 (y.f 7))).setCell ⟨w.heap.size, 8, none⟩ (.int .i64 (y.f 8))).setCell ⟨w.heap.size, 9, none⟩ (.int .i64 (y.f 9))).setCell ⟨w.heap.size, 10, none⟩ (.bool y.o.is)).setCell ⟨w.heap.size, 11, none⟩ (.slice y.o.B y.o.m y.o.d)).setCell ⟨w.heap.size, 12, none⟩ (.bool y.v.is)).setCell ⟨w.heap.size, 13, none⟩ (.slice y.v.B y.v.m y.v.d) = w4 := hw4
  have hm4 : Mod (fun k => k = w.heap.size) w3 w4 := by rw [← hw4]; exact stRec_mod _ _ _
  have hI4 : y.In w4 w.heap.size := by rw [← hw4]; exact stRec_in HI3.out y
  have hm4' : Mod (fun _ => False) w w4 := Hm3.out.trans hm4 (fun k hk e => by omega)
  have Hyo4 : Hid (y.o.Own w4 w.heap.size) := own_mod Hyo.out hm4 (fun k cs e1 e2 => by subst e2; rw [HI3.out] at e1; injection e1 with e1; injection e1 with _ e1; exact absurd e1 (by decide))
  have Hyv4 : Hid (y.v.Own w4 w.heap.size) := own_mod Hyv.out hm4 (fun k cs e1 e2 => by subst e2; rw [HI3.out] at e1; injection e1 with e1; injection e1 with _ e1; exact absurd e1 (by decide))
  have Hw4 := Lib.hid hw4'
  have Hm4 := Lib.hid hm4'
  have HI4 := Lib.hid hI4
  have Hat4 := Lib.hid (Hh.out.keep hm4')
  have Hfy : Hid (fitsB (v.g.l ++ [y]) = fitsB (v.g.l ++ [r])) := (CpL.append (CpL.refl v.g.l) (CpL.one Hc.out)).fits
  clear hw4 hw4' hm4 hI4 hm4' Hyo Hyv HI3 Hm3
  go_wp2_with fail
  rw [Hw4.out]
  clear Hw4 z0 z1 z2 z3 z4 z5 z6 z7 z8 z9 z10 z11 z12 z13 fz
  have hfy : ∀ A' c' w1, OwN w1 w0.heap.size 47 14 A' (v.g.l.length + 1) c' (recsC (v.g.l ++ [y])) → Mod (fun k => blkOf v.A = some k) w4.drew w1 → Calls Tryz.prog 34 #[.slice A' (v.g.l.length + 1) c'] w1 fun e w' => e = .returned (.bool (fitsB (v.g.l ++ [y]))) ∧ Mod (fun _ => False) w1 w' := by
    intro A' c' w1 hrow hm
    have hb : ∀ k cs, w4.drew.heap[k]? = some (.cells cs 5 (0, 0)) → ¬ blkOf v.A = some k := fun k cs e1 e2 => Hat4.out.bytesM (k := k) e1 (.inr (.inr e2))
    have hvs : ∀ z ∈ v.g.l ++ [y], z.At w1 := by
      intro z hz
      have key : ∀ (q : VlD) (b : Nat), q.Own w4 b → q.At w1 := fun q b hq => (own_mod (w := w4.drew) hq hm hb).at_
      rcases List.mem_append.1 hz with hz | hz
      · exact ⟨key _ _ (Hat4.out.vals z hz).1, key _ _ (Hat4.out.vals z hz).2⟩
      · rw [List.mem_singleton] at hz
        subst hz
        exact ⟨key _ _ Hyo4.out, key _ _ Hyv4.out⟩
    exact fits_ok w1 _ _ _ _ (hrow.recs hvs) (by have := (fits_may Hat4.out.ok.fit).2; omega)
  rw [Hfy.out, HF.out] at hfy
  refine wp_region_held (by kernel_rfl) (ap6_region (W := w4.drew) (by kernel_rfl) (by kernel_rfl) (by kernel_rfl) ?panic v.p w.heap.size w0.heap.size v.A v.g.l.length v.c v.g.l y _ _ _ _ _ _ _ _ _ _ _ _ _ _ _ _ _ _ _ _ _ _ _ _ _ _ _ _ _ _ _ _ _ _ _ _ _ _ _ _ _ _ _ _ _ _ _ _ _ _ _ _ _ _ _ _ _ _ _ _ _ _ _ Hat4.out.lc.c8 HI4.out Hat4.out.row (Hat4.out.old.size) (by have := (fits_may Hat4.out.ok.fit).2; omega) true hfy ?fin)
  case panic =>
    intro c a t u w' hq
    cases t <;> exact hq
  intro A5 c5 w5 w6 ho5 hm5 hm6
  have hat6 := (LV.At.spare (w := w4.drew) (Hat4.out.keep ((Mod.refl _ w4).drew)) hm5 ho5).keep hm6
  have hgb : ¬ blkOf v.A = some w.heap.size := fun e => by have := (Hh.out.row.lt _ e).2; omega
  have hI6 : y.In w6 w.heap.size := (RcD.In.mod (w := w4.drew) HI4.out hm5 hgb).keep hm6
  have hmA : Mod v.M w w6 := (Hm4.out.drew.mono (fun _ _ h => h.elim)).trans ((hm5.mono (fun k _ e => .inr (.inr e))).trans hm6 (fun _ _ h => h.elim)) (fun _ _ h => h)
  have hb : ∀ k cs, w4.drew.heap[k]? = some (.cells cs 5 (0, 0)) → ¬ blkOf v.A = some k := fun k cs e1 e2 => Hat4.out.bytesM (k := k) e1 (.inr (.inr e2))
  have Hyo6 : Hid (y.o.Own w6 w.heap.size) := own_mod (own_mod (w := w4.drew) Hyo4.out hm5 hb) hm6 (fun _ _ _ => id)
  have Hyv6 : Hid (y.v.Own w6 w.heap.size) := own_mod (own_mod (w := w4.drew) Hyv4.out hm5 hb) hm6 (fun _ _ _ => id)
  have Hat6 := Lib.hid hat6
  have HI6 := Lib.hid hI6
  have HmA := Lib.hid hmA
  clear hfy ho5 hm5 hm6 hat6 hgb hI6 hmA hb Hyo4 Hyv4 Hat4 HI4 Hm4
  go_wp2_with fail
  refine wp_region_held (by kernel_rfl) (ap12_region (W := w6.drew) (by kernel_rfl) (by kernel_rfl) (by kernel_rfl) ?panic2 v.p w.heap.size w0.heap.size v.A v.g.l.length v.c v.g.l y _ _ _ _ _ _ _ _ _ _ _ _ _ _ _ _ _ _ _ _ _ _ _ _ _ _ _ _ _ _ _ _ _ _ _ _ _ _ _ _ _ _ _ _ _ _ _ _ _ _ _ _ _ _ _ _ _ _ _ _ _ _ _ Hat6.out.lc.c8 HI6.out Hat6.out.row Hat6.out.old.size (by have := (fits_may Hat6.out.ok.fit).2; omega) _ _ Hat6.out.obj Hat6.out.rowp ?fin2)
  case panic2 =>
    intro c a t u w' hq
    cases t <;> exact hq
  intro A7 c7 w7 ho7 hm7 hk7
  have hpu := LV.At.push (w := w6.drew) (Hat6.out.keep ((Mod.refl _ w6).drew)) hm7 ho7 hk7 (OwV.rebase Hyo6.out (fun k hk => Nat.le_trans Hh.out.old.size (OwV.lt Hyo6.out k hk).1)) (OwV.rebase Hyv6.out (fun k hk => Nat.le_trans Hh.out.old.size (OwV.lt Hyv6.out k hk).1)) (by rw [Hfy.out]; exact HF.out) (fun _ => HG.out)
  obtain ⟨w8, hw8⟩ : ∃ w8, w7.setCell ⟨v.p, 8, none⟩ (.slice A7 (v.g.l.length + 1) c7) = w8 := ⟨_, rfl⟩
  have hat8 : (⟨v.p, v.x, A7, c7, { v.g with l := v.g.l ++ [y] }⟩ : LV).At w0 w8 (d) := by rw [← hw8]; exact hpu.1
  have hmv8 : Moved w6.drew w8 v ⟨v.p, v.x, A7, c7, { v.g with l := v.g.l ++ [y] }⟩ := by rw [← hw8]; exact hpu.2
  clear hpu ho7 hm7 hk7
  rw [hw8]
  have Hat8 := Lib.hid hat8
  have Hmv8 := Lib.hid hmv8
  have c6 : w8.cell? ⟨v.p, 6, none⟩ = some (.int .i64 (v.g.nx)) := hat8.lc.c6
  have c8 : w8.cell? ⟨v.p, 8, none⟩ = some (.slice A7 (v.g.l.length + 1) c7) := by have := hat8.lc.c8; simpa using this
  have n0 : 0 ≤ v.g.nx := by have := hat8.ok.s0; have := hat8.ok.sn; exact Int.le_trans hat8.ok.s0 hat8.ok.sn
  have n1 : v.g.nx ≤ 16777215 := hat8.ok.nm
  have hl60 : v.g.l.length ≤ 60 := by have := (fits_may Hat6.out.ok.fit).2; first | exact this | omega
  have H1 : Hid (∀ W z, z = ((v.g.l.length : Nat) : Int) → Calls Tryz.prog 25 #[.int .i64 (v.g.nx), .int .i64 z] W fun e w' => e = .returned (.int .i64 (256 * (v.g.nx) + ((v.g.l.length : Nat) : Int))) ∧ W = w') := by
    rintro W z rfl
    have h1 := lsn_ok W (v.g.nx) ((v.g.l.length : Nat) : Int)
    rw [lsnV_ok n0 n1 (by omega) (by omega)] at h1
    exact h1
  clear hw8 hat8 hmv8 n0 n1
  go_wp2_with fail
  go_region_held3 (fun w' => w'.cell? ⟨v.p, 6, none⟩ = some (.int .i64 (v.g.nx)) ∧ w'.cell? ⟨v.p, 8, none⟩ = some (.slice A7 (v.g.l.length + 1) c7)) (first | exact ⟨c6, c8⟩) ((go_at_call 25; refine (H1.out _ _ (by first | rfl | omega | (rw [IntKind.wrap_i64]; omega))).mono ?_; rintro e w9 ⟨rfl, rfl⟩))
  go_wp2
  go_ret2
  have hmd : Mod (fun _ => False) w8 w8.drew := (Mod.refl _ w8).drew
  refine ⟨_, d, _, 0, rfl, .fit y Hmb.out (fun _ => HG.out) HF.out Hc.out, Hat8.out.keep hmd, ?_⟩
  exact ((⟨rfl, rfl, HmA.out.drew, fun _ h => .inl h, fun _ _ h => h⟩ : Moved w w6.drew v v).trans Hmv8.out).trans (Moved.stay hmd)

set_option maxRecDepth 100000 in
set_option maxHeartbeats 4000000 in
theorem app_fit1 (w w0 : World) (v : LV) (d : Dk) (h : v.At w0 w d) (r : RcD) (hr : r.At w) (hmb : mayB r = true) (hl : v.g.l ≠ []) (hf : fitsB (v.g.l ++ [r]) = true) : Calls Tryz.prog 13 #[.pointer (some ⟨v.p, 0, none⟩), r.val] w (AppAns w0 w v d r) := by
  have Hne := Lib.hid hl
  have HF := Lib.hid hf
  clear hl hf
  have hm0 : Mod (fun _ => False) w (w.alloc (.cells r.cells 47)) := (Mod.refl _ w).alloc _
  have hmay := may_ok (w.alloc (.cells r.cells 47)) r
  rw [hmb] at hmay
  have Hmay := Lib.hid hmay
  have Hm0 := Lib.hid hm0
  have Hh := Lib.hid h
  have Hr := Lib.hid hr
  have Hmb := Lib.hid hmb
  have HI0 : Hid (r.In (w.alloc (.cells r.cells 47)) w.heap.size) := RcD.In.new w r
  clear h hr hm0 hmay hmb
  go_enter Tryz.func13, Tryz.ntmps13
  go_wp2_with fail
  refine Hmay.out.mono ?_
  rintro e w1 ⟨rfl, hm1⟩
  have Hm1 : Hid (Mod (fun _ => False) w w1) := Hm0.out.trans hm1 (fun _ _ h => h)
  have HI1 : Hid (r.In w1 w.heap.size) := HI0.out.keep hm1
  clear hm1 Hmay HI0 Hm0
  have c8 := (Hh.out.keep Hm1.out).lc.c8
  have hne : ((v.g.l.length : Int) == 0) = false := by
    have := Hne.out
    rw [beq_eq_false_iff_ne]
    cases hl : v.g.l with
    | nil => exact absurd hl this
    | cons a b => rw [List.length_cons]; omega
  have HI2 := HI1
  have Hm2 := Hm1
  clear HI1 Hm1
  generalize w1 = w2 at *
  have x0 := HI2.out.kind
  have x1 := HI2.out.num (i := 1) (by omega) (by omega)
  have x2 := HI2.out.num (i := 2) (by omega) (by omega)
  have x3 := HI2.out.num (i := 3) (by omega) (by omega)
  have x4 := HI2.out.num (i := 4) (by omega) (by omega)
  have x5 := HI2.out.num (i := 5) (by omega) (by omega)
  have x6 := HI2.out.num (i := 6) (by omega) (by omega)
  have x7 := HI2.out.num (i := 7) (by omega) (by omega)
  have x8 := HI2.out.num (i := 8) (by omega) (by omega)
  have x9 := HI2.out.num (i := 9) (by omega) (by omega)
  have x10 := HI2.out.c10
  have x11 := HI2.out.c11
  have x12 := HI2.out.c12
  have x13 := HI2.out.c13
  have hcp := copied_ok w2 r (Hr.out.keep Hm2.out) (may_small Hmb.out).1 (may_small Hmb.out).2
  have Hcp := Lib.hid hcp
  clear hcp
  go_wp2_with fail
  refine Hcp.out.mono ?_
  rintro e w3 ⟨y, rfl, hc3, hyo, hyv, hm3⟩
  have Hm3 : Hid (Mod (fun _ => False) w w3) := Hm2.out.trans hm3 (fun _ _ h => h)
  have hI3 : r.In w3 w.heap.size := HI2.out.keep hm3
  have HI3 := Lib.hid hI3
  have Hc := Lib.hid hc3
  have Hyo : Hid (y.o.Own w3 w.heap.size) := (OwV.rebase hyo (fun k hk => Nat.le_trans Hm2.out.size (OwV.lt hyo k hk).1))
  have Hyv : Hid (y.v.Own w3 w.heap.size) := (OwV.rebase hyv (fun k hk => Nat.le_trans Hm2.out.size (OwV.lt hyv k hk).1))
  clear x0 x1 x2 x3 x4 x5 x6 x7 x8 x9 x10 x11 x12 x13 Hcp hm3 hc3 hyo hyv c8 HI2
  have z0 := hI3.kind
  have z1 := hI3.num (i := 1) (by omega) (by omega)
  have z2 := hI3.num (i := 2) (by omega) (by omega)
  have z3 := hI3.num (i := 3) (by omega) (by omega)
  have z4 := hI3.num (i := 4) (by omega) (by omega)
  have z5 := hI3.num (i := 5) (by omega) (by omega)
  have z6 := hI3.num (i := 6) (by omega) (by omega)
  have z7 := hI3.num (i := 7) (by omega) (by omega)
  have z8 := hI3.num (i := 8) (by omega) (by omega)
  have z9 := hI3.num (i := 9) (by omega) (by omega)
  have z10 := hI3.c10
  have z11 := hI3.c11
  have z12 := hI3.c12
  have z13 := hI3.c13
  have fz := hI3.fz
  clear hI3
  obtain ⟨w4, hw4⟩ : ∃ w4, stRec w3 w.heap.size y = w4 := ⟨_, rfl⟩
  have hw4' : ((((((((((((((w3).setCell ⟨w.heap.size, 0, none⟩ (.int .i64 y.k)).setCell ⟨w.heap.size, 1, none⟩ (.int .i64 (y.f 1))).setCell ⟨w.heap.size, 2, none⟩ (.int .i64 (y.f 2))).setCell ⟨w.heap.size, 3, none⟩ (.int .i64 (y.f 3))).setCell ⟨w.heap.size, 4, none⟩ (.int .i64 (y.f 4))).setCell ⟨w.heap.size, 5, none⟩ (.int .i64 (y.f 5))).setCell ⟨w.heap.size, 6, none⟩ (.int .i64 (y.f 6))).setCell ⟨w.heap.size, 7, none⟩ (.int .i64 (y.f 7))).setCell ⟨w.heap.size, 8, none⟩ (.int .i64 (y.f 8))).setCell ⟨w.heap.size, 9, none⟩ (.int .i64 (y.f 9))).setCell ⟨w.heap.size, 10, none⟩ (.bool y.o.is)).setCell ⟨w.heap.size, 11, none⟩ (.slice y.o.B y.o.m y.o.d)).setCell ⟨w.heap.size, 12, none⟩ (.bool y.v.is)).setCell ⟨w.heap.size, 13, none⟩ (.slice y.v.B y.v.m y.v.d) = w4 := hw4
  have hm4 : Mod (fun k => k = w.heap.size) w3 w4 := by rw [← hw4]; exact stRec_mod _ _ _
  have hI4 : y.In w4 w.heap.size := by rw [← hw4]; exact stRec_in HI3.out y
  have hm4' : Mod (fun _ => False) w w4 := Hm3.out.trans hm4 (fun k hk e => by omega)
  have Hyo4 : Hid (y.o.Own w4 w.heap.size) := own_mod Hyo.out hm4 (fun k cs e1 e2 => by subst e2; rw [HI3.out] at e1; injection e1 with e1; injection e1 with _ e1; exact absurd e1 (by decide))
  have Hyv4 : Hid (y.v.Own w4 w.heap.size) := own_mod Hyv.out hm4 (fun k cs e1 e2 => by subst e2; rw [HI3.out] at e1; injection e1 with e1; injection e1 with _ e1; exact absurd e1 (by decide))
  have Hw4 := Lib.hid hw4'
  have Hm4 := Lib.hid hm4'
  have HI4 := Lib.hid hI4
  have Hat4 := Lib.hid (Hh.out.keep hm4')
  have Hfy : Hid (fitsB (v.g.l ++ [y]) = fitsB (v.g.l ++ [r])) := (CpL.append (CpL.refl v.g.l) (CpL.one Hc.out)).fits
  clear hw4 hw4' hm4 hI4 hm4' Hyo Hyv HI3 Hm3
  go_wp2_with fail
  rw [Hw4.out]
  clear Hw4 z0 z1 z2 z3 z4 z5 z6 z7 z8 z9 z10 z11 z12 z13 fz
  have hfy : ∀ A' c' w1, OwN w1 w0.heap.size 47 14 A' (v.g.l.length + 1) c' (recsC (v.g.l ++ [y])) → Mod (fun k => blkOf v.A = some k) w4.drew w1 → Calls Tryz.prog 34 #[.slice A' (v.g.l.length + 1) c'] w1 fun e w' => e = .returned (.bool (fitsB (v.g.l ++ [y]))) ∧ Mod (fun _ => False) w1 w' := by
    intro A' c' w1 hrow hm
    have hb : ∀ k cs, w4.drew.heap[k]? = some (.cells cs 5 (0, 0)) → ¬ blkOf v.A = some k := fun k cs e1 e2 => Hat4.out.bytesM (k := k) e1 (.inr (.inr e2))
    have hvs : ∀ z ∈ v.g.l ++ [y], z.At w1 := by
      intro z hz
      have key : ∀ (q : VlD) (b : Nat), q.Own w4 b → q.At w1 := fun q b hq => (own_mod (w := w4.drew) hq hm hb).at_
      rcases List.mem_append.1 hz with hz | hz
      · exact ⟨key _ _ (Hat4.out.vals z hz).1, key _ _ (Hat4.out.vals z hz).2⟩
      · rw [List.mem_singleton] at hz
        subst hz
        exact ⟨key _ _ Hyo4.out, key _ _ Hyv4.out⟩
    exact fits_ok w1 _ _ _ _ (hrow.recs hvs) (by have := (fits_may Hat4.out.ok.fit).2; omega)
  rw [Hfy.out, HF.out] at hfy
  refine wp_region_held (by kernel_rfl) (ap6_region (W := w4.drew) (by kernel_rfl) (by kernel_rfl) (by kernel_rfl) ?panic v.p w.heap.size w0.heap.size v.A v.g.l.length v.c v.g.l y _ _ _ _ _ _ _ _ _ _ _ _ _ _ _ _ _ _ _ _ _ _ _ _ _ _ _ _ _ _ _ _ _ _ _ _ _ _ _ _ _ _ _ _ _ _ _ _ _ _ _ _ _ _ _ _ _ _ _ _ _ _ _ Hat4.out.lc.c8 HI4.out Hat4.out.row (Hat4.out.old.size) (by have := (fits_may Hat4.out.ok.fit).2; omega) true hfy ?fin)
  case panic =>
    intro c a t u w' hq
    cases t <;> exact hq
  intro A5 c5 w5 w6 ho5 hm5 hm6
  have hat6 := (LV.At.spare (w := w4.drew) (Hat4.out.keep ((Mod.refl _ w4).drew)) hm5 ho5).keep hm6
  have hgb : ¬ blkOf v.A = some w.heap.size := fun e => by have := (Hh.out.row.lt _ e).2; omega
  have hI6 : y.In w6 w.heap.size := (RcD.In.mod (w := w4.drew) HI4.out hm5 hgb).keep hm6
  have hmA : Mod v.M w w6 := (Hm4.out.drew.mono (fun _ _ h => h.elim)).trans ((hm5.mono (fun k _ e => .inr (.inr e))).trans hm6 (fun _ _ h => h.elim)) (fun _ _ h => h)
  have hb : ∀ k cs, w4.drew.heap[k]? = some (.cells cs 5 (0, 0)) → ¬ blkOf v.A = some k := fun k cs e1 e2 => Hat4.out.bytesM (k := k) e1 (.inr (.inr e2))
  have Hyo6 : Hid (y.o.Own w6 w.heap.size) := own_mod (own_mod (w := w4.drew) Hyo4.out hm5 hb) hm6 (fun _ _ _ => id)
  have Hyv6 : Hid (y.v.Own w6 w.heap.size) := own_mod (own_mod (w := w4.drew) Hyv4.out hm5 hb) hm6 (fun _ _ _ => id)
  have Hat6 := Lib.hid hat6
  have HI6 := Lib.hid hI6
  have HmA := Lib.hid hmA
  clear hfy ho5 hm5 hm6 hat6 hgb hI6 hmA hb Hyo4 Hyv4 Hat4 HI4 Hm4
  go_wp2_with fail
  refine wp_region_held (by kernel_rfl) (ap12_region (W := w6.drew) (by kernel_rfl) (by kernel_rfl) (by kernel_rfl) ?panic2 v.p w.heap.size w0.heap.size v.A v.g.l.length v.c v.g.l y _ _ _ _ _ _ _ _ _ _ _ _ _ _ _ _ _ _ _ _ _ _ _ _ _ _ _ _ _ _ _ _ _ _ _ _ _ _ _ _ _ _ _ _ _ _ _ _ _ _ _ _ _ _ _ _ _ _ _ _ _ _ _ Hat6.out.lc.c8 HI6.out Hat6.out.row Hat6.out.old.size (by have := (fits_may Hat6.out.ok.fit).2; omega) _ _ Hat6.out.obj Hat6.out.rowp ?fin2)
  case panic2 =>
    intro c a t u w' hq
    cases t <;> exact hq
  intro A7 c7 w7 ho7 hm7 hk7
  have hpu := LV.At.push (w := w6.drew) (Hat6.out.keep ((Mod.refl _ w6).drew)) hm7 ho7 hk7 (OwV.rebase Hyo6.out (fun k hk => Nat.le_trans Hh.out.old.size (OwV.lt Hyo6.out k hk).1)) (OwV.rebase Hyv6.out (fun k hk => Nat.le_trans Hh.out.old.size (OwV.lt Hyv6.out k hk).1)) (by rw [Hfy.out]; exact HF.out) (fun e => absurd e Hne.out)
  obtain ⟨w8, hw8⟩ : ∃ w8, w7.setCell ⟨v.p, 8, none⟩ (.slice A7 (v.g.l.length + 1) c7) = w8 := ⟨_, rfl⟩
  have hat8 : (⟨v.p, v.x, A7, c7, { v.g with l := v.g.l ++ [y] }⟩ : LV).At w0 w8 (d) := by rw [← hw8]; exact hpu.1
  have hmv8 : Moved w6.drew w8 v ⟨v.p, v.x, A7, c7, { v.g with l := v.g.l ++ [y] }⟩ := by rw [← hw8]; exact hpu.2
  clear hpu ho7 hm7 hk7
  rw [hw8]
  have Hat8 := Lib.hid hat8
  have Hmv8 := Lib.hid hmv8
  have c6 : w8.cell? ⟨v.p, 6, none⟩ = some (.int .i64 (v.g.nx)) := hat8.lc.c6
  have c8 : w8.cell? ⟨v.p, 8, none⟩ = some (.slice A7 (v.g.l.length + 1) c7) := by have := hat8.lc.c8; simpa using this
  have n0 : 0 ≤ v.g.nx := by have := hat8.ok.s0; have := hat8.ok.sn; exact Int.le_trans hat8.ok.s0 hat8.ok.sn
  have n1 : v.g.nx ≤ 16777215 := hat8.ok.nm
  have hl60 : v.g.l.length ≤ 60 := by have := (fits_may Hat6.out.ok.fit).2; first | exact this | omega
  have H1 : Hid (∀ W z, z = ((v.g.l.length : Nat) : Int) → Calls Tryz.prog 25 #[.int .i64 (v.g.nx), .int .i64 z] W fun e w' => e = .returned (.int .i64 (256 * (v.g.nx) + ((v.g.l.length : Nat) : Int))) ∧ W = w') := by
    rintro W z rfl
    have h1 := lsn_ok W (v.g.nx) ((v.g.l.length : Nat) : Int)
    rw [lsnV_ok n0 n1 (by omega) (by omega)] at h1
    exact h1
  clear hw8 hat8 hmv8 n0 n1
  go_wp2_with fail
  go_region_held3 (fun w' => w'.cell? ⟨v.p, 6, none⟩ = some (.int .i64 (v.g.nx)) ∧ w'.cell? ⟨v.p, 8, none⟩ = some (.slice A7 (v.g.l.length + 1) c7)) (first | exact ⟨c6, c8⟩) ((go_at_call 25; refine (H1.out _ _ (by first | rfl | omega | (rw [IntKind.wrap_i64]; omega))).mono ?_; rintro e w9 ⟨rfl, rfl⟩))
  go_wp2
  go_ret2
  have hmd : Mod (fun _ => False) w8 w8.drew := (Mod.refl _ w8).drew
  refine ⟨_, d, _, 0, rfl, .fit y Hmb.out (fun e => absurd e Hne.out) HF.out Hc.out, Hat8.out.keep hmd, ?_⟩
  exact ((⟨rfl, rfl, HmA.out.drew, fun _ h => .inl h, fun _ _ h => h⟩ : Moved w w6.drew v v).trans Hmv8.out).trans (Moved.stay hmd)

set_option maxRecDepth 100000 in
set_option maxHeartbeats 4000000 in
theorem app_full1 (w w0 : World) (v : LV) (d : Dk) (h : v.At w0 w d) (r : RcD) (hr : r.At w) (hmb : mayB r = true) (hl : v.g.l ≠ []) (hf : fitsB (v.g.l ++ [r]) = false) (hg : growB v.g 2 = false) : Calls Tryz.prog 13 #[.pointer (some ⟨v.p, 0, none⟩), r.val] w (AppAns w0 w v d r) := by
  have Hne := Lib.hid hl
  have HF := Lib.hid hf
  have HG := Lib.hid hg
  clear hl hf hg
  have hm0 : Mod (fun _ => False) w (w.alloc (.cells r.cells 47)) := (Mod.refl _ w).alloc _
  have hmay := may_ok (w.alloc (.cells r.cells 47)) r
  rw [hmb] at hmay
  have Hmay := Lib.hid hmay
  have Hm0 := Lib.hid hm0
  have Hh := Lib.hid h
  have Hr := Lib.hid hr
  have Hmb := Lib.hid hmb
  have HI0 : Hid (r.In (w.alloc (.cells r.cells 47)) w.heap.size) := RcD.In.new w r
  clear h hr hm0 hmay hmb
  go_enter Tryz.func13, Tryz.ntmps13
  go_wp2_with fail
  refine Hmay.out.mono ?_
  rintro e w1 ⟨rfl, hm1⟩
  have Hm1 : Hid (Mod (fun _ => False) w w1) := Hm0.out.trans hm1 (fun _ _ h => h)
  have HI1 : Hid (r.In w1 w.heap.size) := HI0.out.keep hm1
  clear hm1 Hmay HI0 Hm0
  have c8 := (Hh.out.keep Hm1.out).lc.c8
  have hne : ((v.g.l.length : Int) == 0) = false := by
    have := Hne.out
    rw [beq_eq_false_iff_ne]
    cases hl : v.g.l with
    | nil => exact absurd hl this
    | cons a b => rw [List.length_cons]; omega
  have HI2 := HI1
  have Hm2 := Hm1
  clear HI1 Hm1
  generalize w1 = w2 at *
  have x0 := HI2.out.kind
  have x1 := HI2.out.num (i := 1) (by omega) (by omega)
  have x2 := HI2.out.num (i := 2) (by omega) (by omega)
  have x3 := HI2.out.num (i := 3) (by omega) (by omega)
  have x4 := HI2.out.num (i := 4) (by omega) (by omega)
  have x5 := HI2.out.num (i := 5) (by omega) (by omega)
  have x6 := HI2.out.num (i := 6) (by omega) (by omega)
  have x7 := HI2.out.num (i := 7) (by omega) (by omega)
  have x8 := HI2.out.num (i := 8) (by omega) (by omega)
  have x9 := HI2.out.num (i := 9) (by omega) (by omega)
  have x10 := HI2.out.c10
  have x11 := HI2.out.c11
  have x12 := HI2.out.c12
  have x13 := HI2.out.c13
  have hcp := copied_ok w2 r (Hr.out.keep Hm2.out) (may_small Hmb.out).1 (may_small Hmb.out).2
  have Hcp := Lib.hid hcp
  clear hcp
  go_wp2_with fail
  refine Hcp.out.mono ?_
  rintro e w3 ⟨y, rfl, hc3, hyo, hyv, hm3⟩
  have Hm3 : Hid (Mod (fun _ => False) w w3) := Hm2.out.trans hm3 (fun _ _ h => h)
  have hI3 : r.In w3 w.heap.size := HI2.out.keep hm3
  have HI3 := Lib.hid hI3
  have Hc := Lib.hid hc3
  have Hyo : Hid (y.o.Own w3 w.heap.size) := (OwV.rebase hyo (fun k hk => Nat.le_trans Hm2.out.size (OwV.lt hyo k hk).1))
  have Hyv : Hid (y.v.Own w3 w.heap.size) := (OwV.rebase hyv (fun k hk => Nat.le_trans Hm2.out.size (OwV.lt hyv k hk).1))
  clear x0 x1 x2 x3 x4 x5 x6 x7 x8 x9 x10 x11 x12 x13 Hcp hm3 hc3 hyo hyv c8 HI2
  have z0 := hI3.kind
  have z1 := hI3.num (i := 1) (by omega) (by omega)
  have z2 := hI3.num (i := 2) (by omega) (by omega)
  have z3 := hI3.num (i := 3) (by omega) (by omega)
  have z4 := hI3.num (i := 4) (by omega) (by omega)
  have z5 := hI3.num (i := 5) (by omega) (by omega)
  have z6 := hI3.num (i := 6) (by omega) (by omega)
  have z7 := hI3.num (i := 7) (by omega) (by omega)
  have z8 := hI3.num (i := 8) (by omega) (by omega)
  have z9 := hI3.num (i := 9) (by omega) (by omega)
  have z10 := hI3.c10
  have z11 := hI3.c11
  have z12 := hI3.c12
  have z13 := hI3.c13
  have fz := hI3.fz
  clear hI3
  obtain ⟨w4, hw4⟩ : ∃ w4, stRec w3 w.heap.size y = w4 := ⟨_, rfl⟩
  have hw4' : ((((((((((((((w3).setCell ⟨w.heap.size, 0, none⟩ (.int .i64 y.k)).setCell ⟨w.heap.size, 1, none⟩ (.int .i64 (y.f 1))).setCell ⟨w.heap.size, 2, none⟩ (.int .i64 (y.f 2))).setCell ⟨w.heap.size, 3, none⟩ (.int .i64 (y.f 3))).setCell ⟨w.heap.size, 4, none⟩ (.int .i64 (y.f 4))).setCell ⟨w.heap.size, 5, none⟩ (.int .i64 (y.f 5))).setCell ⟨w.heap.size, 6, none⟩ (.int .i64 (y.f 6))).setCell ⟨w.heap.size, 7, none⟩ (.int .i64 (y.f 7))).setCell ⟨w.heap.size, 8, none⟩ (.int .i64 (y.f 8))).setCell ⟨w.heap.size, 9, none⟩ (.int .i64 (y.f 9))).setCell ⟨w.heap.size, 10, none⟩ (.bool y.o.is)).setCell ⟨w.heap.size, 11, none⟩ (.slice y.o.B y.o.m y.o.d)).setCell ⟨w.heap.size, 12, none⟩ (.bool y.v.is)).setCell ⟨w.heap.size, 13, none⟩ (.slice y.v.B y.v.m y.v.d) = w4 := hw4
  have hm4 : Mod (fun k => k = w.heap.size) w3 w4 := by rw [← hw4]; exact stRec_mod _ _ _
  have hI4 : y.In w4 w.heap.size := by rw [← hw4]; exact stRec_in HI3.out y
  have hm4' : Mod (fun _ => False) w w4 := Hm3.out.trans hm4 (fun k hk e => by omega)
  have Hyo4 : Hid (y.o.Own w4 w.heap.size) := own_mod Hyo.out hm4 (fun k cs e1 e2 => by subst e2; rw [HI3.out] at e1; injection e1 with e1; injection e1 with _ e1; exact absurd e1 (by decide))
  have Hyv4 : Hid (y.v.Own w4 w.heap.size) := own_mod Hyv.out hm4 (fun k cs e1 e2 => by subst e2; rw [HI3.out] at e1; injection e1 with e1; injection e1 with _ e1; exact absurd e1 (by decide))
  have Hw4 := Lib.hid hw4'
  have Hm4 := Lib.hid hm4'
  have HI4 := Lib.hid hI4
  have Hat4 := Lib.hid (Hh.out.keep hm4')
  have Hfy : Hid (fitsB (v.g.l ++ [y]) = fitsB (v.g.l ++ [r])) := (CpL.append (CpL.refl v.g.l) (CpL.one Hc.out)).fits
  clear hw4 hw4' hm4 hI4 hm4' Hyo Hyv HI3 Hm3
  go_wp2_with fail
  rw [Hw4.out]
  clear Hw4 z0 z1 z2 z3 z4 z5 z6 z7 z8 z9 z10 z11 z12 z13 fz
  have hfy : ∀ A' c' w1, OwN w1 w0.heap.size 47 14 A' (v.g.l.length + 1) c' (recsC (v.g.l ++ [y])) → Mod (fun k => blkOf v.A = some k) w4.drew w1 → Calls Tryz.prog 34 #[.slice A' (v.g.l.length + 1) c'] w1 fun e w' => e = .returned (.bool (fitsB (v.g.l ++ [y]))) ∧ Mod (fun _ => False) w1 w' := by
    intro A' c' w1 hrow hm
    have hb : ∀ k cs, w4.drew.heap[k]? = some (.cells cs 5 (0, 0)) → ¬ blkOf v.A = some k := fun k cs e1 e2 => Hat4.out.bytesM (k := k) e1 (.inr (.inr e2))
    have hvs : ∀ z ∈ v.g.l ++ [y], z.At w1 := by
      intro z hz
      have key : ∀ (q : VlD) (b : Nat), q.Own w4 b → q.At w1 := fun q b hq => (own_mod (w := w4.drew) hq hm hb).at_
      rcases List.mem_append.1 hz with hz | hz
      · exact ⟨key _ _ (Hat4.out.vals z hz).1, key _ _ (Hat4.out.vals z hz).2⟩
      · rw [List.mem_singleton] at hz
        subst hz
        exact ⟨key _ _ Hyo4.out, key _ _ Hyv4.out⟩
    exact fits_ok w1 _ _ _ _ (hrow.recs hvs) (by have := (fits_may Hat4.out.ok.fit).2; omega)
  rw [Hfy.out, HF.out] at hfy
  refine wp_region_held (by kernel_rfl) (ap6_region (W := w4.drew) (by kernel_rfl) (by kernel_rfl) (by kernel_rfl) ?panic v.p w.heap.size w0.heap.size v.A v.g.l.length v.c v.g.l y _ _ _ _ _ _ _ _ _ _ _ _ _ _ _ _ _ _ _ _ _ _ _ _ _ _ _ _ _ _ _ _ _ _ _ _ _ _ _ _ _ _ _ _ _ _ _ _ _ _ _ _ _ _ _ _ _ _ _ _ _ _ _ Hat4.out.lc.c8 HI4.out Hat4.out.row (Hat4.out.old.size) (by have := (fits_may Hat4.out.ok.fit).2; omega) false hfy ?fin)
  case panic =>
    intro c a t u w' hq
    cases t <;> exact hq
  intro A5 c5 w5 w6 ho5 hm5 hm6
  have hat6 := (LV.At.spare (w := w4.drew) (Hat4.out.keep ((Mod.refl _ w4).drew)) hm5 ho5).keep hm6
  have hgb : ¬ blkOf v.A = some w.heap.size := fun e => by have := (Hh.out.row.lt _ e).2; omega
  have hI6 : y.In w6 w.heap.size := (RcD.In.mod (w := w4.drew) HI4.out hm5 hgb).keep hm6
  have hmA : Mod v.M w w6 := (Hm4.out.drew.mono (fun _ _ h => h.elim)).trans ((hm5.mono (fun k _ e => .inr (.inr e))).trans hm6 (fun _ _ h => h.elim)) (fun _ _ h => h)
  have hb : ∀ k cs, w4.drew.heap[k]? = some (.cells cs 5 (0, 0)) → ¬ blkOf v.A = some k := fun k cs e1 e2 => Hat4.out.bytesM (k := k) e1 (.inr (.inr e2))
  have Hyo6 : Hid (y.o.Own w6 w.heap.size) := own_mod (own_mod (w := w4.drew) Hyo4.out hm5 hb) hm6 (fun _ _ _ => id)
  have Hyv6 : Hid (y.v.Own w6 w.heap.size) := own_mod (own_mod (w := w4.drew) Hyv4.out hm5 hb) hm6 (fun _ _ _ => id)
  have Hat6 := Lib.hid hat6
  have HI6 := Lib.hid hI6
  have HmA := Lib.hid hmA
  clear hfy ho5 hm5 hm6 hat6 hgb hI6 hmA hb Hyo4 Hyv4 Hat4 HI4 Hm4
  have Hgr := Lib.hid (mayGrow_ok w6 w0 v d Hat6.out 2 (by omega) (by omega))
  rw [HG.out] at Hgr
  go_wp2_with fail
  refine Hgr.out.mono ?_
  rintro e w7 ⟨rfl, hm7⟩
  have Hm7 := Lib.hid hm7
  clear hm7 Hgr
  go_wp2
  go_ret2
  exact ⟨v, d, 0, 4, rfl, .full Hmb.out (.inr ⟨Hne.out, HF.out, HG.out⟩), Hat6.out.keep Hm7.out, ⟨rfl, rfl, HmA.out.trans Hm7.out (fun _ _ h => h.elim), fun _ h => .inl h, fun _ _ h => h⟩⟩
set_option maxRecDepth 100000 in
set_option maxHeartbeats 4000000 in
theorem app_next (w w0 : World) (v : LV) (d : Dk) (h : v.At w0 w d) (r : RcD) (hr : r.At w) (hp : d.pend.length ≤ 1000) (hmb : mayB r = true) (hl : v.g.l ≠ []) (hf : fitsB (v.g.l ++ [r]) = false) (hg : growB v.g 2 = true) : Calls Tryz.prog 13 #[.pointer (some ⟨v.p, 0, none⟩), r.val] w (AppAns w0 w v d r) := by
  have Hne := Lib.hid hl
  have HF := Lib.hid hf
  have HG := Lib.hid hg
  have Hp := Lib.hid hp
  clear hl hf hg hp
  have hm0 : Mod (fun _ => False) w (w.alloc (.cells r.cells 47)) := (Mod.refl _ w).alloc _
  have hmay := may_ok (w.alloc (.cells r.cells 47)) r
  rw [hmb] at hmay
  have Hmay := Lib.hid hmay
  have Hm0 := Lib.hid hm0
  have Hh := Lib.hid h
  have Hr := Lib.hid hr
  have Hmb := Lib.hid hmb
  have HI0 : Hid (r.In (w.alloc (.cells r.cells 47)) w.heap.size) := RcD.In.new w r
  clear h hr hm0 hmay hmb
  go_enter Tryz.func13, Tryz.ntmps13
  go_wp2_with fail
  refine Hmay.out.mono ?_
  rintro e w1 ⟨rfl, hm1⟩
  have Hm1 : Hid (Mod (fun _ => False) w w1) := Hm0.out.trans hm1 (fun _ _ h => h)
  have HI1 : Hid (r.In w1 w.heap.size) := HI0.out.keep hm1
  clear hm1 Hmay HI0 Hm0
  have c8 := (Hh.out.keep Hm1.out).lc.c8
  have hne : ((v.g.l.length : Int) == 0) = false := by
    have := Hne.out
    rw [beq_eq_false_iff_ne]
    cases hl : v.g.l with
    | nil => exact absurd hl this
    | cons a b => rw [List.length_cons]; omega
  have HI2 := HI1
  have Hm2 := Hm1
  clear HI1 Hm1
  generalize w1 = w2 at *
  have x0 := HI2.out.kind
  have x1 := HI2.out.num (i := 1) (by omega) (by omega)
  have x2 := HI2.out.num (i := 2) (by omega) (by omega)
  have x3 := HI2.out.num (i := 3) (by omega) (by omega)
  have x4 := HI2.out.num (i := 4) (by omega) (by omega)
  have x5 := HI2.out.num (i := 5) (by omega) (by omega)
  have x6 := HI2.out.num (i := 6) (by omega) (by omega)
  have x7 := HI2.out.num (i := 7) (by omega) (by omega)
  have x8 := HI2.out.num (i := 8) (by omega) (by omega)
  have x9 := HI2.out.num (i := 9) (by omega) (by omega)
  have x10 := HI2.out.c10
  have x11 := HI2.out.c11
  have x12 := HI2.out.c12
  have x13 := HI2.out.c13
  have hcp := copied_ok w2 r (Hr.out.keep Hm2.out) (may_small Hmb.out).1 (may_small Hmb.out).2
  have Hcp := Lib.hid hcp
  clear hcp
  go_wp2_with fail
  refine Hcp.out.mono ?_
  rintro e w3 ⟨y, rfl, hc3, hyo, hyv, hm3⟩
  have Hm3 : Hid (Mod (fun _ => False) w w3) := Hm2.out.trans hm3 (fun _ _ h => h)
  have hI3 : r.In w3 w.heap.size := HI2.out.keep hm3
  have HI3 := Lib.hid hI3
  have Hc := Lib.hid hc3
  have Hyo : Hid (y.o.Own w3 w.heap.size) := (OwV.rebase hyo (fun k hk => Nat.le_trans Hm2.out.size (OwV.lt hyo k hk).1))
  have Hyv : Hid (y.v.Own w3 w.heap.size) := (OwV.rebase hyv (fun k hk => Nat.le_trans Hm2.out.size (OwV.lt hyv k hk).1))
  clear x0 x1 x2 x3 x4 x5 x6 x7 x8 x9 x10 x11 x12 x13 Hcp hm3 hc3 hyo hyv c8 HI2
  have z0 := hI3.kind
  have z1 := hI3.num (i := 1) (by omega) (by omega)
  have z2 := hI3.num (i := 2) (by omega) (by omega)
  have z3 := hI3.num (i := 3) (by omega) (by omega)
  have z4 := hI3.num (i := 4) (by omega) (by omega)
  have z5 := hI3.num (i := 5) (by omega) (by omega)
  have z6 := hI3.num (i := 6) (by omega) (by omega)
  have z7 := hI3.num (i := 7) (by omega) (by omega)
  have z8 := hI3.num (i := 8) (by omega) (by omega)
  have z9 := hI3.num (i := 9) (by omega) (by omega)
  have z10 := hI3.c10
  have z11 := hI3.c11
  have z12 := hI3.c12
  have z13 := hI3.c13
  have fz := hI3.fz
  clear hI3
  obtain ⟨w4, hw4⟩ : ∃ w4, stRec w3 w.heap.size y = w4 := ⟨_, rfl⟩
  have hw4' : ((((((((((((((w3).setCell ⟨w.heap.size, 0, none⟩ (.int .i64 y.k)).setCell ⟨w.heap.size, 1, none⟩ (.int .i64 (y.f 1))).setCell ⟨w.heap.size, 2, none⟩ (.int .i64 (y.f 2))).setCell ⟨w.heap.size, 3, none⟩ (.int .i64 (y.f 3))).setCell ⟨w.heap.size, 4, none⟩ (.int .i64 (y.f 4))).setCell ⟨w.heap.size, 5, none⟩ (.int .i64 (y.f 5))).setCell ⟨w.heap.size, 6, none⟩ (.int .i64 (y.f 6))).setCell ⟨w.heap.size, 7, none⟩ (.int .i64 (y.f 7))).setCell ⟨w.heap.size, 8, none⟩ (.int .i64 (y.f 8))).setCell ⟨w.heap.size, 9, none⟩ (.int .i64 (y.f 9))).setCell ⟨w.heap.size, 10, none⟩ (.bool y.o.is)).setCell ⟨w.heap.size, 11, none⟩ (.slice y.o.B y.o.m y.o.d)).setCell ⟨w.heap.size, 12, none⟩ (.bool y.v.is)).setCell ⟨w.heap.size, 13, none⟩ (.slice y.v.B y.v.m y.v.d) = w4 := hw4
  have hm4 : Mod (fun k => k = w.heap.size) w3 w4 := by rw [← hw4]; exact stRec_mod _ _ _
  have hI4 : y.In w4 w.heap.size := by rw [← hw4]; exact stRec_in HI3.out y
  have hm4' : Mod (fun _ => False) w w4 := Hm3.out.trans hm4 (fun k hk e => by omega)
  have Hyo4 : Hid (y.o.Own w4 w.heap.size) := own_mod Hyo.out hm4 (fun k cs e1 e2 => by subst e2; rw [HI3.out] at e1; injection e1 with e1; injection e1 with _ e1; exact absurd e1 (by decide))
  have Hyv4 : Hid (y.v.Own w4 w.heap.size) := own_mod Hyv.out hm4 (fun k cs e1 e2 => by subst e2; rw [HI3.out] at e1; injection e1 with e1; injection e1 with _ e1; exact absurd e1 (by decide))
  have Hw4 := Lib.hid hw4'
  have Hm4 := Lib.hid hm4'
  have HI4 := Lib.hid hI4
  have Hat4 := Lib.hid (Hh.out.keep hm4')
  have Hfy : Hid (fitsB (v.g.l ++ [y]) = fitsB (v.g.l ++ [r])) := (CpL.append (CpL.refl v.g.l) (CpL.one Hc.out)).fits
  clear hw4 hw4' hm4 hI4 hm4' Hyo Hyv HI3 Hm3
  go_wp2_with fail
  rw [Hw4.out]
  clear Hw4 z0 z1 z2 z3 z4 z5 z6 z7 z8 z9 z10 z11 z12 z13 fz
  have hfy : ∀ A' c' w1, OwN w1 w0.heap.size 47 14 A' (v.g.l.length + 1) c' (recsC (v.g.l ++ [y])) → Mod (fun k => blkOf v.A = some k) w4.drew w1 → Calls Tryz.prog 34 #[.slice A' (v.g.l.length + 1) c'] w1 fun e w' => e = .returned (.bool (fitsB (v.g.l ++ [y]))) ∧ Mod (fun _ => False) w1 w' := by
    intro A' c' w1 hrow hm
    have hb : ∀ k cs, w4.drew.heap[k]? = some (.cells cs 5 (0, 0)) → ¬ blkOf v.A = some k := fun k cs e1 e2 => Hat4.out.bytesM (k := k) e1 (.inr (.inr e2))
    have hvs : ∀ z ∈ v.g.l ++ [y], z.At w1 := by
      intro z hz
      have key : ∀ (q : VlD) (b : Nat), q.Own w4 b → q.At w1 := fun q b hq => (own_mod (w := w4.drew) hq hm hb).at_
      rcases List.mem_append.1 hz with hz | hz
      · exact ⟨key _ _ (Hat4.out.vals z hz).1, key _ _ (Hat4.out.vals z hz).2⟩
      · rw [List.mem_singleton] at hz
        subst hz
        exact ⟨key _ _ Hyo4.out, key _ _ Hyv4.out⟩
    exact fits_ok w1 _ _ _ _ (hrow.recs hvs) (by have := (fits_may Hat4.out.ok.fit).2; omega)
  rw [Hfy.out, HF.out] at hfy
  refine wp_region_held (by kernel_rfl) (ap6_region (W := w4.drew) (by kernel_rfl) (by kernel_rfl) (by kernel_rfl) ?panic v.p w.heap.size w0.heap.size v.A v.g.l.length v.c v.g.l y _ _ _ _ _ _ _ _ _ _ _ _ _ _ _ _ _ _ _ _ _ _ _ _ _ _ _ _ _ _ _ _ _ _ _ _ _ _ _ _ _ _ _ _ _ _ _ _ _ _ _ _ _ _ _ _ _ _ _ _ _ _ _ Hat4.out.lc.c8 HI4.out Hat4.out.row (Hat4.out.old.size) (by have := (fits_may Hat4.out.ok.fit).2; omega) false hfy ?fin)
  case panic =>
    intro c a t u w' hq
    cases t <;> exact hq
  intro A5 c5 w5 w6 ho5 hm5 hm6
  have hat6 := (LV.At.spare (w := w4.drew) (Hat4.out.keep ((Mod.refl _ w4).drew)) hm5 ho5).keep hm6
  have hgb : ¬ blkOf v.A = some w.heap.size := fun e => by have := (Hh.out.row.lt _ e).2; omega
  have hI6 : y.In w6 w.heap.size := (RcD.In.mod (w := w4.drew) HI4.out hm5 hgb).keep hm6
  have hmA : Mod v.M w w6 := (Hm4.out.drew.mono (fun _ _ h => h.elim)).trans ((hm5.mono (fun k _ e => .inr (.inr e))).trans hm6 (fun _ _ h => h.elim)) (fun _ _ h => h)
  have hb : ∀ k cs, w4.drew.heap[k]? = some (.cells cs 5 (0, 0)) → ¬ blkOf v.A = some k := fun k cs e1 e2 => Hat4.out.bytesM (k := k) e1 (.inr (.inr e2))
  have Hyo6 : Hid (y.o.Own w6 w.heap.size) := own_mod (own_mod (w := w4.drew) Hyo4.out hm5 hb) hm6 (fun _ _ _ => id)
  have Hyv6 : Hid (y.v.Own w6 w.heap.size) := own_mod (own_mod (w := w4.drew) Hyv4.out hm5 hb) hm6 (fun _ _ _ => id)
  have Hat6 := Lib.hid hat6
  have HI6 := Lib.hid hI6
  have HmA := Lib.hid hmA
  clear hfy ho5 hm5 hm6 hat6 hgb hI6 hmA hb Hyo4 Hyv4 Hat4 HI4 Hm4
  have Hgr := Lib.hid (mayGrow_ok w6 w0 v d Hat6.out 2 (by omega) (by omega))
  rw [HG.out] at Hgr
  go_wp2_with fail
  refine Hgr.out.mono ?_
  rintro e wg ⟨rfl, hmg⟩
  have Hmg := Lib.hid hmg
  have Hatg := Lib.hid (Hat6.out.keep hmg)
  have Hwr := Lib.hid (lwrite_ok wg w0 v d Hatg.out Hne.out Hp.out)
  clear hmg Hgr
  go_wp2_with fail
  refine Hwr.out.mono ?_
  rintro e wv ⟨rfl, x', hx', hatv, hmv, hMv, hVv⟩
  have hbM : ∀ k cs, wg.heap[k]? = some (.cells cs 5 (0, 0)) → ¬ v.M k := fun k cs e1 => Hatg.out.bytesM e1
  have Hyov : Hid (y.o.Own wv w.heap.size) := own_mod (own_mod Hyo6.out Hmg.out (fun _ _ _ => id)) hmv hbM
  have Hyvv : Hid (y.v.Own wv w.heap.size) := own_mod (own_mod Hyv6.out Hmg.out (fun _ _ _ => id)) hmv hbM
  have HIv : Hid (y.In wv w.heap.size) := (HI6.out.keep Hmg.out).mod hmv (fun e => by have := (Hh.out.M_lt e).2; omega)
  have Hatv := Lib.hid hatv
  have HmV : Hid (Moved w wv v ⟨v.p, x', none, 0, v.g.wrote⟩) := by
    refine ⟨rfl, hx', (HmA.out.trans Hmg.out (fun _ _ h => h.elim)).trans hmv (fun _ _ h => h), ?_, fun N hN hx => hVv N (fun k hk => Nat.lt_of_lt_of_le (hN k hk) (HmA.out.trans Hmg.out (fun _ _ h => h.elim)).size) hx⟩
    rintro k (e | e | e)
    · rcases hMv k e with e | e
      · exact .inl (.inl e)
      · exact .inr (Nat.le_trans (HmA.out.trans Hmg.out (fun _ _ h => h.elim)).size e)
    · exact .inl (.inr (.inl e))
    · cases e
  clear Hwr hx' hatv hmv hMv hVv hbM Hyo6 Hyv6 HI6 Hatg Hmg Hat6 HmA
  go_wp2_with fail
  refine wp_region_held (by kernel_rfl) (ap12_region (W := wv.drew) (by kernel_rfl) (by kernel_rfl) (by kernel_rfl) ?panic2 v.p w.heap.size w0.heap.size none 0 0 [] y _ _ _ _ _ _ _ _ _ _ _ _ _ _ _ _ _ _ _ _ _ _ _ _ _ _ _ _ _ _ _ _ _ _ _ _ _ _ _ _ _ _ _ _ _ _ _ _ _ _ _ _ _ _ _ _ _ _ _ _ _ _ _ Hatv.out.lc.c8 HIv.out Hatv.out.row Hatv.out.old.size (by have := (fits_may Hatv.out.ok.fit).2; omega) _ _ Hatv.out.obj Hatv.out.rowp ?fin2)
  case panic2 =>
    intro c a t u w' hq
    cases t <;> exact hq
  intro A7 c7 w7 ho7 hm7 hk7
  have hpu := LV.At.push (w := wv.drew) (Hatv.out.keep ((Mod.refl _ wv).drew)) hm7 ho7 hk7 (OwV.rebase Hyov.out (fun k hk => Nat.le_trans Hh.out.old.size (OwV.lt Hyov.out k hk).1)) (OwV.rebase Hyvv.out (fun k hk => Nat.le_trans Hh.out.old.size (OwV.lt Hyvv.out k hk).1)) (by have h0 := fits_one Hr.out Hmb.out; have h1 := (CpL.one Hc.out).fits; rw [h0] at h1; exact h1) (fun _ => by have h0 := growB_iff.1 HG.out; refine growB_iff.2 ⟨?_, ?_⟩ <;> simp only [Lg.wrote] <;> omega)
  obtain ⟨w8, hw8⟩ : ∃ w8, w7.setCell ⟨v.p, 8, none⟩ (.slice A7 (0 + 1) c7) = w8 := ⟨_, rfl⟩
  have hat8 : (⟨v.p, x', A7, c7, { v.g.wrote with l := [y] }⟩ : LV).At w0 w8 (d.write v.g.place v.g.sec) := by rw [← hw8]; exact hpu.1
  have hmv8 : Moved wv.drew w8 ⟨v.p, x', none, 0, v.g.wrote⟩ ⟨v.p, x', A7, c7, { v.g.wrote with l := [y] }⟩ := by rw [← hw8]; exact hpu.2
  clear hpu ho7 hm7 hk7
  rw [hw8]
  have Hat8 := Lib.hid hat8
  have Hmv8 := Lib.hid hmv8
  have c6 : w8.cell? ⟨v.p, 6, none⟩ = some (.int .i64 (v.g.nx + 1)) := hat8.lc.c6
  have c8 : w8.cell? ⟨v.p, 8, none⟩ = some (.slice A7 (0 + 1) c7) := by have := hat8.lc.c8; simpa using this
  have n0 : 0 ≤ v.g.nx + 1 := by have := hat8.ok.s0; have := hat8.ok.sn; exact Int.le_trans hat8.ok.s0 hat8.ok.sn
  have n1 : v.g.nx + 1 ≤ 16777215 := hat8.ok.nm
  have hl60 : 0 ≤ 60 := by have := (fits_may Hatv.out.ok.fit).2; first | exact this | omega
  have H1 : Hid (∀ W z, z = ((0 : Nat) : Int) → Calls Tryz.prog 25 #[.int .i64 (v.g.nx + 1), .int .i64 z] W fun e w' => e = .returned (.int .i64 (256 * (v.g.nx + 1) + ((0 : Nat) : Int))) ∧ W = w') := by
    rintro W z rfl
    have h1 := lsn_ok W (v.g.nx + 1) ((0 : Nat) : Int)
    rw [lsnV_ok n0 n1 (by omega) (by omega)] at h1
    exact h1
  clear hw8 hat8 hmv8 n0 n1
  go_wp2_with fail
  go_region_held3 (fun w' => w'.cell? ⟨v.p, 6, none⟩ = some (.int .i64 (v.g.nx + 1)) ∧ w'.cell? ⟨v.p, 8, none⟩ = some (.slice A7 (0 + 1) c7)) (first | exact ⟨c6, c8⟩) ((go_at_call 25; refine (H1.out _ _ (by first | rfl | omega | (rw [IntKind.wrap_i64]; omega))).mono ?_; rintro e w9 ⟨rfl, rfl⟩))
  go_wp2
  go_ret2
  have hmd : Mod (fun _ => False) w8 w8.drew := (Mod.refl _ w8).drew
  refine ⟨_, _, _, 0, rfl, ?_, Hat8.out.keep hmd, ?_⟩
  · exact App.next (g := v.g) (d := d) y Hmb.out Hne.out HF.out HG.out Hc.out
  · exact ((HmV.out.trans (Moved.stay ((Mod.refl _ wv).drew))).trans Hmv8.out).trans (Moved.stay hmd)

theorem append_ok (w w0 : World) (v : LV) (d : Dk) (h : v.At w0 w d) (r : RcD) (hr : r.At w) (hp : d.pend.length ≤ 1000) : Calls Tryz.prog 13 #[.pointer (some ⟨v.p, 0, none⟩), r.val] w (AppAns w0 w v d r) := by
  cases hmb : mayB r with
  | false => exact app_arg w w0 v d h r hr hmb
  | true =>
    by_cases hl : v.g.l = []
    · cases hg : growB v.g 1 with
      | false => exact app_full0 w w0 v d h r hr hmb hl hg
      | true => exact app_fit0 w w0 v d h r hr hmb hl hg (by rw [hl]; exact fits_one hr hmb)
    · cases hf : fitsB (v.g.l ++ [r]) with
      | true => exact app_fit1 w w0 v d h r hr hmb hl hf
      | false =>
        cases hg : growB v.g 2 with
        | false => exact app_full1 w w0 v d h r hr hmb hl hf hg
        | true => exact app_next w w0 v d h r hr hp hmb hl hf hg
end Go.Proofs.YtnbamljaiahmdaaGreat
