/-
  wal.Log.Force.
  The laws' arguments: a slice of calls.
  A log of a law's own: every call in one form; the chapter's example (awake); few.
-/
import Derived.Test.YtnbamljaiahmdaaGreatQWB
import Derived.Test.YtnbamljaiahmdaaGreatQO
import Derived.Test.YtnbamljaiahmdaaGreatQD
import Derived.Test.YtnbamljaiahmdaaGreatQDecE
namespace Go.Proofs.YtnbamljaiahmdaaGreat
open Go Go.RowKit Go.Shelf

theorem dev_sync2 (w0 w : World) (x : DV) (d : Dk) (h : Dev w0 w x d) (hW : d.pend.length ≤ 1000) :
    Calls Tryz.prog 36 #[.pointer (some ⟨x.p, 0, none⟩)] w fun e w' => e = .returned (.int .i64 d.syncE) ∧ ∃ x', x'.p = x.p ∧ Dev w0 w' x' d.sync ∧ Mod x.M w w' ∧ (∀ k, x'.M k → x.M k ∨ w.heap.size ≤ k) ∧ (∀ N : Nat → Prop, (∀ k, N k → k < w.heap.size) → x.Avoid N → x'.Avoid N) := by
  have hc := sync_ok w w0.heap.size x h.at_ (by rw [h.lenW]; exact hW)
  rw [h.dk] at hc
  refine hc.mono ?_
  rintro e w' ⟨rfl, x', hL⟩
  exact ⟨rfl, x', hL.p, h.left hL, hL.mod, hL.grows, hL.av⟩
theorem Dk.sync_good {d : Dk} (ha : d.armed = false) (hd : d.dead = false) : d.sync = { d with dur := d.now, pend := [] } ∧ d.syncE = 0 := by
  have hs : d.stepE = 0 := by unfold Dk.stepE; rw [if_neg (by rw [ha]; simp)]
  have hD : d.stepD = d := by unfold Dk.stepD; rw [if_neg (by rw [ha]; simp)]
  unfold Dk.sync Dk.syncE
  simp [hd, hs, hD]
theorem Dk.sync_idle {d : Dk} (ha : d.armed = false) (hd : d.dead = false) (hp : d.pend = []) : d.sync = d := by
  rw [(Dk.sync_good ha hd).1]
  unfold Dk.now
  rw [hp]
  obtain ⟨a, b, c, e, f⟩ := d
  simp only at hp
  subst hp
  rfl
/-- What waits is written. -/
def Lg.push (g : Lg) : Lg := if g.l = [] then g else g.wrote
def Lg.pushD (g : Lg) (d : Dk) : Dk := if g.l = [] then d else d.write g.place g.sec
def Lg.forced (g : Lg) : Lg := { g.push with du := g.push.nx }
def Lg.forcedD (g : Lg) (d : Dk) : Dk := (g.pushD d).sync
structure ForceAns (w0 w : World) (v : LV) (d : Dk) (e : Ending) (w' : World) : Prop where
  ex : ∃ v', e = .returned (.int .i64 0) ∧ v'.g = v.g.forced ∧ v'.At w0 w' (v.g.forcedD d) ∧ Moved w w' v v'

/-- Behind the sync. -/
theorem LV.At.synced {w0 w w' : World} {v : LV} {d : Dk} (h : v.At w0 w d) {x' : DV} (hp : x'.p = v.x.p) (hd : Dev w0 w' x' d.sync) (hm : Mod v.x.M w w') (hg : ∀ k, x'.M k → v.x.M k ∨ w.heap.size ≤ k)
    (hav : ∀ N : Nat → Prop, (∀ k, N k → k < w.heap.size) → v.x.Avoid N → x'.Avoid N) :
    (⟨v.p, x', v.A, v.c, { v.g with du := v.g.nx }⟩ : LV).At w0 (w'.setCell ⟨v.p, 7, none⟩ (.int .i64 v.g.nx)) d.sync ∧ Moved w (w'.setCell ⟨v.p, 7, none⟩ (.int .i64 v.g.nx)) v ⟨v.p, x', v.A, v.c, { v.g with du := v.g.nx }⟩ := by
  have ho : w'.heap[v.p]? = some (.cells v.obj 80 (0, 0)) := (hm.block _ h.lt h.pM).trans h.obj
  have hm2 : Mod (fun k => k = v.p) w' (w'.setCell ⟨v.p, 7, none⟩ (.int .i64 v.g.nx)) := (Mod.refl _ w').one _ _
  have ok := h.ok
  have hdd := (Dk.sync_good h.arm h.dead).1
  have hb1 : ∀ (z : VlD), z.Own w w0.heap.size → z.Own (w'.setCell ⟨v.p, 7, none⟩ (.int .i64 v.g.nx)) w0.heap.size := by
    intro z hz
    have h1 := own_mod hz hm (fun k cs e1 e2 => h.bytesM e1 (.inl e2))
    refine own_mod h1 hm2 (fun k cs e1 e2 => ?_)
    subst e2
    rw [ho] at e1
    injection e1 with e1
    injection e1 with _ e1
    exact absurd e1 (by decide)
  refine ⟨⟨hd.poke ho (by decide) (by decide) (by decide) (by simp [LV.obj]) h.pb hm2, ?_, h.pb, ?_, fun y hy => ⟨hb1 _ (h.vals y hy).1, hb1 _ (h.vals y hy).2⟩, ?_, ?_, ?_, ?_, ?_⟩, ⟨rfl, hp, ?_, ?_, hav⟩⟩
  · refine (heap_set ho 7 _).trans ?_
    simp only [LV.obj, hp]
    rfl
  · exact (h.row.mod hm (fun k hk e => h.rowM hk e)).mod hm2 (fun k hk e => h.rowp (e ▸ hk))
  · rw [hdd]
    show Lg.Ok _ d.now.length
    have : d.now.length = d.dur.length := lay_len _ _
    rw [this]
    exact ⟨ok.b0, ok.n2, ok.bn, ok.e1, ok.e2, ok.s0, ok.sn, ok.nm, ok.room, ok.f0, ok.fn, Int.le_trans ok.s0 ok.sn, Int.le_refl _, ok.fit, ok.some_⟩
  · rw [hdd]; exact h.arm
  · rw [hdd]; exact h.dead
  · rw [hdd]
    show ((0 : Nat) : Int) = v.g.nx - v.g.nx
    omega
  · exact hav _ (fun k hk => (h.row.lt k hk).2) h.av
  · exact (hm.mono (fun k _ e => .inl e)).trans (hm2.mono (fun k _ e => .inr (.inl e))) (fun _ _ h => h)
  · rintro k (e | e | e)
    · exact (hg k e).imp .inl id
    · exact .inl (.inr (.inl e))
    · exact .inl (.inr (.inr e))

set_option maxRecDepth 100000 in
theorem force_idle (w w0 : World) (v : LV) (d : Dk) (h : v.At w0 w d) (hl : v.g.l = []) (hd : v.g.du = v.g.nx) :
    Calls Tryz.prog 14 #[.pointer (some ⟨v.p, 0, none⟩)] w (ForceAns w0 w v d) := by
  have c6 := h.lc.c6
  have c7 := h.lc.c7
  have c8 := h.lc.c8
  rw [show v.g.l.length = 0 by rw [hl]; rfl] at c8
  rw [hd] at c7
  have Hh := Lib.hid h
  have Hl := Lib.hid hl
  have Hd := Lib.hid hd
  clear h hl hd
  go_enter Tryz.func14, Tryz.ntmps14
  go_wp2_with fail
  go_quiet (fail)
  go_wp2
  go_ret
  have hh := Hh.out
  have hp : d.pend = [] := List.eq_nil_of_length_eq_zero (by have := hh.wait; have := Hd.out; omega)
  have hm : Mod (fun _ => False) w (w.drewN nq) := (Mod.refl _ w).drewN _
  refine ⟨v, rfl, ?_, ?_, Moved.stay hm⟩
  · unfold Lg.forced Lg.push
    rw [if_pos Hl.out, ← Hd.out]
  · unfold Lg.forcedD Lg.pushD
    rw [if_pos Hl.out, Dk.sync_idle hh.arm hh.dead hp]
    exact hh.keep hm
set_option maxRecDepth 100000 in
theorem force_sync (w w0 : World) (v : LV) (d : Dk) (h : v.At w0 w d) (hp : d.pend.length ≤ 1000) (hl : v.g.l = []) (hd : ¬ v.g.du = v.g.nx) :
    Calls Tryz.prog 14 #[.pointer (some ⟨v.p, 0, none⟩)] w (ForceAns w0 w v d) := by
  have c6 := h.lc.c6
  have c7 := h.lc.c7
  have c8 := h.lc.c8
  have c0 := h.lc.c0
  rw [show v.g.l.length = 0 by rw [hl]; rfl] at c8
  have hne : (v.g.du == v.g.nx) = false := by simpa using hd
  have Hs : Hid (∀ W, Mod (fun _ => False) w W → Calls Tryz.prog 36 #[.pointer (some ⟨v.x.p, 0, none⟩)] W fun e w' => e = .returned (.int .i64 d.syncE) ∧ ∃ x', x'.p = v.x.p ∧ Dev w0 w' x' d.sync ∧ Mod v.x.M W w' ∧ (∀ k, x'.M k → v.x.M k ∨ W.heap.size ≤ k) ∧ (∀ N : Nat → Prop, (∀ k, N k → k < W.heap.size) → v.x.Avoid N → x'.Avoid N)) := fun W hW => dev_sync2 w0 W v.x d (h.dev.keep hW) hp
  rw [(Dk.sync_good h.arm h.dead).2] at Hs
  have Hh := Lib.hid h
  have Hl := Lib.hid hl
  have Hmd : Hid (∀ n, Mod (fun _ => False) w (w.drewN n)) := fun n => (Mod.refl _ w).drewN n
  clear h hl hd hp
  go_enter Tryz.func14, Tryz.ntmps14
  go_wp2_with fail
  go_quiet (fail)
  go_wp2_with fail
  refine (Hs.out _ (Hmd.out _)).mono ?_
  rintro e w2 ⟨rfl, x', hx', hd', hm', hg', hav'⟩
  have hs := LV.At.synced (w := w.drewN nq) (Hh.out.keep (Hmd.out _)) hx' hd' hm' hg' hav'
  have ho : w2.heap[v.p]? = some (.cells v.obj 80 (0, 0)) := (hm'.block _ Hh.out.lt Hh.out.pM).trans Hh.out.obj
  have c6' := (lc_of (v := v) ho).c6
  have c7' := (lc_of (v := v) ho).c7
  have fz := frozen_of_block ho 7
  have HS := Lib.hid hs
  clear hx' hd' hm' hg' hav' hs ho Hs c0 c6 c7 c8
  go_wp2
  go_ret
  refine ⟨_, rfl, ?_, ?_, (Moved.stay (Hmd.out _)).trans HS.out.2⟩
  · unfold Lg.forced Lg.push
    rw [if_pos Hl.out]
  · unfold Lg.forcedD Lg.pushD
    rw [if_pos Hl.out]
    exact HS.out.1
set_option maxRecDepth 100000 in
theorem force_write (w w0 : World) (v : LV) (d : Dk) (h : v.At w0 w d) (hp : d.pend.length ≤ 999) (hl : v.g.l ≠ []) :
    Calls Tryz.prog 14 #[.pointer (some ⟨v.p, 0, none⟩)] w (ForceAns w0 w v d) := by
  have c8 := h.lc.c8
  have hpos : 0 < v.g.l.length := List.length_pos_iff.2 hl
  have hpd : decide ((0 : Int) < (v.g.l.length : Int)) = true := by simpa using hpos
  have Hw := Lib.hid (lwrite_ok w w0 v d h hl (by omega))
  have Hh := Lib.hid h
  have Hl := Lib.hid hl
  have Hp : Hid ((d.write v.g.place v.g.sec).pend.length ≤ 1000) := by
    rw [(Dk.write_good h.arm h.dead h.ok.place.1 h.ok.place.2 h.ok.secL).1]
    show (d.pend ++ [_]).length ≤ 1000
    rw [List.length_append]
    simp only [List.length_cons, List.length_nil]
    omega
  have Hne : Hid ((v.g.du == v.g.nx + 1) = false) := by have := h.ok.dn; show _ = _; rw [beq_eq_false_iff_ne]; omega
  clear h hl hp
  go_enter Tryz.func14, Tryz.ntmps14
  go_wp2_with fail
  refine Hw.out.mono ?_
  rintro e w1 ⟨rfl, x1, hx1, hat1, hm1, hM1, hV1⟩
  have Hat1 := Lib.hid hat1
  have c6 : w1.cell? ⟨v.p, 6, none⟩ = some (.int .i64 (v.g.nx + 1)) := hat1.lc.c6
  have c7 : w1.cell? ⟨v.p, 7, none⟩ = some (.int .i64 v.g.du) := hat1.lc.c7
  have c0 : w1.cell? ⟨v.p, 0, none⟩ = some (.pointer (some ⟨x1.p, 0, none⟩)) := hat1.lc.c0
  have hne := Hne.out
  have hgr1 : ∀ k, (⟨v.p, x1, none, 0, v.g.wrote⟩ : LV).M k → v.M k ∨ w.heap.size ≤ k := by
    rintro k (e | e | e)
    · exact (hM1 k e).imp .inl id
    · exact .inl (.inr (.inl e))
    · cases e
  have Hmv1 : Hid (Moved w w1 v ⟨v.p, x1, none, 0, v.g.wrote⟩) := ⟨rfl, hx1, hm1, hgr1, hV1⟩
  have Hs : Hid (∀ W, Mod (fun _ => False) w1 W → Calls Tryz.prog 36 #[.pointer (some ⟨x1.p, 0, none⟩)] W fun e w' => e = .returned (.int .i64 (d.write v.g.place v.g.sec).syncE) ∧ ∃ x', x'.p = x1.p ∧ Dev w0 w' x' (d.write v.g.place v.g.sec).sync ∧ Mod x1.M W w' ∧ (∀ k, x'.M k → x1.M k ∨ W.heap.size ≤ k) ∧ (∀ N : Nat → Prop, (∀ k, N k → k < W.heap.size) → x1.Avoid N → x'.Avoid N)) := fun W hW => dev_sync2 w0 W x1 _ (hat1.dev.keep hW) Hp.out
  rw [(Dk.sync_good hat1.arm hat1.dead).2] at Hs
  have Hmd : Hid (∀ n, Mod (fun _ => False) w1 (w1.drewN n)) := fun n => (Mod.refl _ w1).drewN n
  clear hx1 hat1 hm1 hM1 hgr1 hV1 Hw c8
  go_wp2_with fail
  go_quiet (fail)
  go_wp2_with fail
  refine (Hs.out _ (Hmd.out _)).mono ?_
  rintro e w2 ⟨rfl, x', hx', hd', hm', hg', hav'⟩
  have hs := LV.At.synced (w := w1.drewN nq) (Hat1.out.keep (Hmd.out _)) hx' hd' hm' hg' hav'
  have ho : w2.heap[v.p]? = some (.cells (⟨v.p, x1, none, 0, v.g.wrote⟩ : LV).obj 80 (0, 0)) := (hm'.block _ Hat1.out.lt Hat1.out.pM).trans Hat1.out.obj
  have c6' : w2.cell? ⟨v.p, 6, none⟩ = some (.int .i64 (v.g.nx + 1)) := (lc_of (v := ⟨v.p, x1, none, 0, v.g.wrote⟩) ho).c6
  have c7' : w2.cell? ⟨v.p, 7, none⟩ = some (.int .i64 v.g.du) := (lc_of (v := ⟨v.p, x1, none, 0, v.g.wrote⟩) ho).c7
  have fz := frozen_of_block ho 7
  have HS := Lib.hid hs
  clear hx' hd' hm' hg' hav' hs ho Hs c0 c6 c7 hne
  go_wp2
  go_ret
  refine ⟨_, rfl, ?_, ?_, (Hmv1.out.trans (Moved.stay (Hmd.out _))).trans HS.out.2⟩
  · unfold Lg.forced Lg.push
    rw [if_neg Hl.out]
  · unfold Lg.forcedD Lg.pushD
    rw [if_neg Hl.out]
    exact HS.out.1
theorem force_ok (w w0 : World) (v : LV) (d : Dk) (h : v.At w0 w d) (hp : d.pend.length ≤ 999) :
    Calls Tryz.prog 14 #[.pointer (some ⟨v.p, 0, none⟩)] w (ForceAns w0 w v d) := by
  by_cases hl : v.g.l = []
  · by_cases hd : v.g.du = v.g.nx
    · exact force_idle w w0 v d h hl hd
    · exact force_sync w w0 v d h (by omega) hl hd
  · exact force_write w w0 v d h hp hl
end Go.Proofs.YtnbamljaiahmdaaGreat

namespace Go.Proofs.YtnbamljaiahmdaaGreat
open Go Go.RowKit Go.Shelf Go.ChangeShapes Go.WideShapes Go.ChangeAt

/-- A crash by value. -/
structure CrD where
  A : Option Addr
  n : Nat
  c : Nat
  ks : List Bool
  torn : Int
  k : Int
def CrD.At (w : World) (x : CrD) : Prop := Bl w x.A x.n x.c x.ks ∧ x.n ≤ 9223372036854775807
theorem CrD.At.keep {w w' : World} {x : CrD} (h : x.At w) (hm : Mod (fun _ => False) w w') : x.At w' := ⟨h.1.keep hm, h.2⟩
abbrev CrD.v (x : CrD) : Value := .agg #[.slice x.A x.n x.c, .int .i64 x.torn, .int .i64 x.k]
/-- A call by value. -/
structure OpD where
  k : Int
  n : Int
  r : RcD
  cr : CrD
structure OpD.Cells (w : World) (x : OpD) (b o : Nat) : Prop where
  c0 : w.cell? ⟨b, o, none⟩ = some (.int .i64 x.k)
  c1 : w.cell? ⟨b, o + 1, none⟩ = some (.int .i64 x.n)
  r : x.r.Cells w b (o + 2)
  c16 : w.cell? ⟨b, o + 16, none⟩ = some (.slice x.cr.A x.cr.n x.cr.c)
  c17 : w.cell? ⟨b, o + 17, none⟩ = some (.int .i64 x.cr.torn)
  c18 : w.cell? ⟨b, o + 18, none⟩ = some (.int .i64 x.cr.k)
theorem OpD.Cells.lt {w : World} {x : OpD} {b o : Nat} (h : x.Cells w b o) : b < w.heap.size := World.block_lt_of_cell? w _ h.c0
theorem OpD.Cells.keep {w w' : World} {x : OpD} {b o : Nat} (h : x.Cells w b o) (hk : w'.heap[b]? = w.heap[b]?) : x.Cells w' b o := by
  have k : ∀ (j : Nat) (v : Value), w.cell? ⟨b, j, none⟩ = some v → w'.cell? ⟨b, j, none⟩ = some v := fun j v hv => (World.cell?_of_block hk).trans hv
  exact ⟨k _ _ h.c0, k _ _ h.c1, h.r.keep hk, k _ _ h.c16, k _ _ h.c17, k _ _ h.c18⟩
structure OpsAt (w : World) (A : Option Addr) (n c : Nat) (l : List OpD) : Prop where
  len : l.length = n
  cap : n ≤ c
  cells : 0 < n → ∃ b o, A = some ⟨b, o, none⟩ ∧ ∀ (i : Nat) (x : OpD), l[i]? = some x → x.Cells w b (o + i * 19)
  ats : ∀ x ∈ l, x.r.At w ∧ x.cr.At w
theorem OpsAt.keep {w w' : World} {A : Option Addr} {n c : Nat} {l : List OpD} (h : OpsAt w A n c l) (hm : Mod (fun _ => False) w w') : OpsAt w' A n c l := by
  refine ⟨h.len, h.cap, fun hn => ?_, fun x hx => ⟨(h.ats x hx).1.keep hm, (h.ats x hx).2.keep hm⟩⟩
  obtain ⟨b, o, hA, hc⟩ := h.cells hn
  exact ⟨b, o, hA, fun i x hx => (hc i x hx).keep (hm.block b (hc i x hx).lt id)⟩

section
variable {H : Type} {enc : TypeId × Value → H} {W : World} {base : Nat} {spare : Nat → Bool} {held : Bool}
theorem open_bools {t e : TypeId} {a : Option Addr} {len cap : Nat} {d : DataW H} {p : List MemPlace} (ht : Tryz.prog.underlying t = some (.slice e)) (he : Tryz.prog.underlying e = some .bool) (hc : Tryz.prog.cellsOf e = 1)
    (h : DataW.Trod enc Tryz.prog W base spare held t (.slice a len cap) d p) : ∃ ks, Bl W a len cap ks ∧ cap ≤ maxLen := by
  obtain ⟨fuel, hf⟩ := h
  rcases Go.Deep.open_slice ht hf with ⟨hcs, _⟩ | ⟨x, l, c, m, n, D, Pl, hcs, _, hl, hm, hmm, hx, hi⟩
  · simp [Value.cells] at hcs
    obtain ⟨rfl, rfl, rfl⟩ := hcs
    exact ⟨[], ⟨rfl, Nat.le_refl _, fun h => absurd h (by omega)⟩, Nat.zero_le _⟩
  · simp [Value.cells] at hcs
    obtain ⟨rfl, rfl, rfl⟩ := hcs
    have hlm : len ≤ m := by rw [hmm]; split <;> omega
    have each : ∀ i, i < len → ∃ q : Bool, W.cell? (x.add i) = some (.bool q) := by
      intro i hil
      obtain ⟨cs', hc', ht'⟩ := hi i (by omega)
      rw [hc] at hc'
      obtain ⟨_, hcl, hat⟩ := World.cells?_some hc'
      obtain ⟨q, hq, _⟩ := DataW.trod_bool he ht'
      subst hq
      refine ⟨q, ?_⟩
      have := hat 0 (by omega)
      rw [Nat.mul_one] at this
      simpa [Addr.add] using this
    obtain ⟨ks, hkl, hks⟩ := list_of (Q := fun i q => W.cell? (x.add i) = some (.bool q)) len each
    refine ⟨ks, ⟨hkl, hl, fun hp => ?_⟩, hm⟩
    obtain ⟨b, o, spot⟩ := x
    have hspot : spot = none := by
      obtain ⟨q, hq⟩ := each 0 hp
      have := World.cell?_spot hq
      simpa [Addr.add] using this
    subst hspot
    refine ⟨b, o, rfl, fun j hj => ?_⟩
    have h1 := hks j _ (List.getElem?_eq_getElem (by omega))
    rw [Go.WideShapes.add_plain] at h1
    rw [h1]
    simp [show j < ks.length by omega]


end

end Go.Proofs.YtnbamljaiahmdaaGreat

namespace Go.Proofs.YtnbamljaiahmdaaGreat
open Go Go.RowKit Go.Shelf

/-- The log at p on the device at px, in memory laid since w0. -/
structure Lgs (w0 w : World) (p px : Nat) (g : Lg) (d : Dk) : Prop where
  ex : ∃ v : LV, v.p = p ∧ v.x.p = px ∧ v.g = g ∧ v.At w0 w d
section
variable {w0 w w' : World} {p px : Nat} {g : Lg} {d : Dk}
theorem Lgs.keep (h : Lgs w0 w p px g d) (hm : Mod (fun _ => False) w w') : Lgs w0 w' p px g d := by
  obtain ⟨v, h1, h2, h3, h4⟩ := h.ex
  exact ⟨v, h1, h2, h3, h4.keep hm⟩
theorem Lgs.old (h : Lgs w0 w p px g d) : Mod (fun _ => False) w0 w := by obtain ⟨v, _, _, _, h4⟩ := h.ex; exact h4.old
theorem Lgs.ok (h : Lgs w0 w p px g d) : g.Ok d.dur.length := by obtain ⟨v, _, _, h3, h4⟩ := h.ex; rw [← h3]; exact h4.ok
theorem Lgs.wait (h : Lgs w0 w p px g d) : (d.pend.length : Int) = g.nx - g.du := by obtain ⟨v, _, _, h3, h4⟩ := h.ex; rw [← h3]; exact h4.wait
theorem Lgs.arm (h : Lgs w0 w p px g d) : d.armed = false := by obtain ⟨v, _, _, h3, h4⟩ := h.ex; exact h4.arm
theorem Lgs.dead (h : Lgs w0 w p px g d) : d.dead = false := by obtain ⟨v, _, _, h3, h4⟩ := h.ex; exact h4.dead
theorem Lgs.dev (h : Lgs w0 w p px g d) : ∃ x : DV, x.p = px ∧ Dev w0 w x d := by obtain ⟨v, _, h2, _, h4⟩ := h.ex; exact ⟨v.x, h2, h4.dev⟩
theorem Lgs.ats (h : Lgs w0 w p px g d) : ∀ y ∈ g.l, y.At w := by obtain ⟨v, _, _, h3, h4⟩ := h.ex; rw [← h3]; exact h4.recs.ats
end
theorem lgs_new (w w0 : World) (x : DV) (d : Dk) (h : Dev w0 w x d) (base n ep st nx : Int) (bB : base < 9223372036854775808) (bb : -9223372036854775808 ≤ base) (nB : n < 9223372036854775808) (hn : MayL d.dur.length base n ep st nx) (ha : d.armed = false) (hd : d.dead = false) (hp : d.pend = []) :
    Calls Tryz.prog 12 #[.pointer (some ⟨x.p, 0, none⟩), .int .i64 base, .int .i64 n, .int .i64 ep, .int .i64 st, .int .i64 nx] w fun e w' => ∃ p, e = .returned (.tuple #[.pointer (some ⟨p, 0, none⟩), .int .i64 0]) ∧ Lgs w0 w' p x.p (newG base n ep st nx) d ∧ Mod (fun _ => False) w w' := by
  refine (lnew_ok w w0 x d h base n ep st nx bB bb nB hn ha hd hp).mono ?_
  rintro e w' ⟨rfl, h1, h2, _⟩
  exact ⟨_, rfl, ⟨_, rfl, rfl, rfl, h1⟩, h2⟩
theorem lgs_app {w0 w : World} {p px : Nat} {g : Lg} {d : Dk} (h : Lgs w0 w p px g d) (r : RcD) (hr : r.At w) (hp : d.pend.length ≤ 1000) :
    Calls Tryz.prog 13 #[.pointer (some ⟨p, 0, none⟩), r.val] w fun e w' => ∃ a er g' d', e = .returned (.tuple #[.int .i64 a, .int .i64 er]) ∧ App g d r a er g' d' ∧ Lgs w0 w' p px g' d' := by
  obtain ⟨v, h1, h2, h3, h4⟩ := h.ex
  subst h1 h2 h3
  refine (append_ok w w0 v d h4 r hr hp).mono ?_
  rintro e w' ⟨v', d', a, er, rfl, ha, hat, hmv⟩
  exact ⟨a, er, v'.g, d', rfl, ha, ⟨v', hmv.p, hmv.xp, rfl, hat⟩⟩
theorem lgs_force {w0 w : World} {p px : Nat} {g : Lg} {d : Dk} (h : Lgs w0 w p px g d) (hp : d.pend.length ≤ 999) :
    Calls Tryz.prog 14 #[.pointer (some ⟨p, 0, none⟩)] w fun e w' => e = .returned (.int .i64 0) ∧ Lgs w0 w' p px g.forced (g.forcedD d) := by
  obtain ⟨v, h1, h2, h3, h4⟩ := h.ex
  subst h1 h2 h3
  refine (force_ok w w0 v d h4 hp).mono ?_
  rintro e w' ⟨v', rfl, hg, hat, hmv⟩
  exact ⟨rfl, ⟨v', hmv.p, hmv.xp, hg, hat⟩⟩
theorem lgs_next_ok {w0 w : World} {p px : Nat} {g : Lg} {d : Dk} (h : Lgs w0 w p px g d) :
    Calls Tryz.prog 16 #[.pointer (some ⟨p, 0, none⟩)] w fun e w' => e = .returned (.int .i64 (256 * (g.nx + g.un))) ∧ Lgs w0 w' p px g d ∧ Mod (fun _ => False) w w' := by
  obtain ⟨v, h1, h2, h3, h4⟩ := h.ex
  subst h1 h2 h3
  refine (next_ok w w0 v d h4).mono ?_
  rintro e w' ⟨rfl, hm⟩
  exact ⟨rfl, ⟨v, rfl, rfl, rfl, h4.keep hm⟩, hm⟩
theorem lgs_durable_ok {w0 w : World} {p px : Nat} {g : Lg} {d : Dk} (h : Lgs w0 w p px g d) :
    Calls Tryz.prog 15 #[.pointer (some ⟨p, 0, none⟩)] w fun e w' => e = .returned (.int .i64 (256 * g.du)) ∧ Lgs w0 w' p px g d ∧ Mod (fun _ => False) w w' := by
  obtain ⟨v, h1, h2, h3, h4⟩ := h.ex
  subst h1 h2 h3
  refine (durable_ok w w0 v d h4).mono ?_
  rintro e w' ⟨rfl, hm⟩
  exact ⟨rfl, ⟨v, rfl, rfl, rfl, h4.keep hm⟩, hm⟩
theorem lgs_free_ok {w0 w : World} {p px : Nat} {g : Lg} {d : Dk} (h : Lgs w0 w p px g d) :
    Calls Tryz.prog 17 #[.pointer (some ⟨p, 0, none⟩)] w fun e w' => e = .returned (.int .i64 (g.n - (g.nx - g.st) - g.un)) ∧ Lgs w0 w' p px g d ∧ Mod (fun _ => False) w w' := by
  obtain ⟨v, h1, h2, h3, h4⟩ := h.ex
  subst h1 h2 h3
  refine (free_ok w w0 v d h4).mono ?_
  rintro e w' ⟨rfl, hm⟩
  exact ⟨rfl, ⟨v, rfl, rfl, rfl, h4.keep hm⟩, hm⟩
theorem App.yes {g : Lg} {d : Dk} {r : RcD} {a er : Int} {g' : Lg} {d' : Dk} (h : App g d r a er g' d') (hm : mayB r = true) (hg : g.l = [] → growB g 1 = true) (hf : fitsB (g.l ++ [r]) = true) :
    ∃ y, Cp r y ∧ a = 256 * g.nx + g.l.length ∧ er = 0 ∧ g' = { g with l := g.l ++ [y] } ∧ d' = d := by
  cases h with
  | arg h1 => rw [hm] at h1; cases h1
  | full h1 h2 =>
    rcases h2 with ⟨e1, e2⟩ | ⟨_, e2, _⟩
    · rw [hg e1] at e2; cases e2
    · rw [hf] at e2; cases e2
  | fit y _ _ _ hy => exact ⟨y, hy, rfl, rfl, rfl, rfl⟩
  | next y _ _ e _ _ => rw [hf] at e; cases e

/-! ### few -/
def fewB (l : List OpD) : Bool := decide (l.length ≤ 60) && l.all fun x => decide ((x.r.o.m : Int) ≤ 100) && decide ((x.r.v.m : Int) ≤ 100)
theorem fewB_true {l : List OpD} (h : fewB l = true) : l.length ≤ 60 := by
  unfold fewB at h
  rw [Bool.and_eq_true] at h
  simpa using h.1
/-! ### The chapter's example -/
def recK (k t : Int) : RcD := ⟨k, fun i => if i = 1 then t else 0, VlD.none, VlD.none⟩
theorem recK_at (k t : Int) (w : World) : (recK k t).At w := ⟨VlD.none_at w, VlD.none_at w⟩
set_option maxRecDepth 100000 in
set_option maxHeartbeats 4000000 in
theorem awake_ok (w : World) : Calls Tryz.prog 4 #[] w fun e w' => e = .returned (.bool true) ∧ Mod (fun _ => False) w w' := by
  have H0 := Lib.hid (dev_new w w (Mod.refl _ w) 6 (by omega) (by omega))
  go_enter Tryz.func4, Tryz.ntmps4
  go_wp2_with fail
  refine H0.out.mono ?_
  rintro e w1 ⟨x, rfl, hx⟩
  have hlen : (Dk.fresh (List.replicate (6 : Int).toNat (fill 0))).dur.length = 6 := by show (List.replicate 6 (fill 0)).length = 6; simp
  have H1 := Lib.hid (lgs_new w1 w x _ hx 1 4 1 0 0 (by omega) (by omega) (by omega) (by rw [hlen]; constructor <;> omega) rfl rfl rfl)
  clear hx H0 hlen
  generalize Dk.fresh (List.replicate (6 : Int).toNat (fill 0)) = d0 at *
  go_wp2_with fail
  refine H1.out.mono ?_
  rintro e w2 ⟨p, rfl, hL2, _⟩
  have h0 : (d0.pend.length : Int) = 0 := hL2.wait
  have H2 := Lib.hid (lgs_app hL2 (recK 7 0) (recK_at 7 0 w2) (by omega))
  have Hp0 := Lib.hid h0
  clear hL2 h0 H1
  go_wp2_with fail
  refine H2.out.mono ?_
  rintro e w3 ⟨a3, er3, g3, d3, rfl, ha3, hL3⟩
  obtain ⟨y3, hy3, rfl, rfl, rfl, hd3⟩ := ha3.yes rfl (fun _ => rfl) (by rfl)
  rw [hd3] at hL3
  clear ha3 hd3
  have H3 := Lib.hid (lgs_app hL3 (recK 3 1) (recK_at 3 1 w3) (by have := Hp0.out; omega))
  have Hy3 := Lib.hid hy3
  clear H2 hL3 hy3
  rw [show 256 * (newG 1 4 1 0 0).nx + ((newG 1 4 1 0 0).l.length : Int) = 0 from rfl]
  go_wp2_with fail
  refine H3.out.mono ?_
  rintro e w4 ⟨a4, er4, g4, d4, rfl, ha4, hL4⟩
  obtain ⟨y4, hy4, rfl, rfl, rfl, hd4⟩ := ha4.yes rfl (fun e => by cases e) (by
    have := (CpL.append (CpL.one Hy3.out) (CpL.refl [recK 3 1])).fits
    exact this.trans rfl)
  rw [hd4] at hL4
  clear ha4 hd4
  have H4 := Lib.hid (lgs_force hL4 (by have := Hp0.out; omega))
  clear H3 hL4 Hy3 hy4
  rw [show 256 * ({ newG 1 4 1 0 0 with l := (newG 1 4 1 0 0).l ++ [y3] } : Lg).nx + (({ newG 1 4 1 0 0 with l := (newG 1 4 1 0 0).l ++ [y3] } : Lg).l.length : Int) = 1 from rfl]
  go_wp2_with fail
  refine H4.out.mono ?_
  rintro e w5 ⟨rfl, hL5⟩
  obtain ⟨d5, hd5⟩ : ∃ d5, d5 = Lg.forcedD ⟨1, 4, 1, 0, 0, 0, 0, [] ++ [y3] ++ [y4]⟩ d0 := ⟨_, rfl⟩
  have hL5' : Lgs w w5 p x.p ⟨1, 4, 1, 0, 0, 1, 1, []⟩ d5 := by rw [hd5]; exact hL5
  have h5 : (d5.pend.length : Int) = 1 - 1 := hL5'.wait
  have H5 := Lib.hid (lgs_app hL5' (recK 7 0) (recK_at 7 0 w5) (by omega))
  have Hp5 := Lib.hid h5
  clear H4 hL5 hL5' hd5 h5
  go_wp2_with fail
  refine H5.out.mono ?_
  rintro e w6 ⟨a6, er6, g6, d6, rfl, ha6, hL6⟩
  obtain ⟨y6, hy6, rfl, rfl, rfl, rfl⟩ := ha6.yes rfl (fun _ => rfl) (by rfl)
  have hL6' : Lgs w w6 p x.p ⟨1, 4, 1, 0, 0, 1, 1, [y6]⟩ d6 := hL6
  have H6 := Lib.hid (lgs_durable_ok hL6')
  clear H5 ha6 hL6 hL6' hy6
  rw [show 256 * (⟨1, 4, 1, 0, 0, 1, 1, []⟩ : Lg).nx + ((⟨1, 4, 1, 0, 0, 1, 1, []⟩ : Lg).l.length : Int) = 256 from rfl]
  go_wp2_with fail
  refine H6.out.mono ?_
  rintro e w7 ⟨rfl, hL7, _⟩
  have H7 := Lib.hid (lgs_next_ok hL7)
  clear H6 hL7
  rw [show 256 * (⟨1, 4, 1, 0, 0, 1, 1, [y6]⟩ : Lg).du = 256 from rfl]
  go_wp2_with fail
  refine H7.out.mono ?_
  rintro e w8 ⟨rfl, hL8, _⟩
  have H8 := Lib.hid (lgs_free_ok hL8)
  clear H7 hL8
  rw [show 256 * ((⟨1, 4, 1, 0, 0, 1, 1, [y6]⟩ : Lg).nx + (⟨1, 4, 1, 0, 0, 1, 1, [y6]⟩ : Lg).un) = 512 from rfl]
  go_wp2_with fail
  refine H8.out.mono ?_
  rintro e w9 ⟨rfl, hL9, _⟩
  have Hm9 := Lib.hid hL9.old
  clear H8 hL9
  rw [show (⟨1, 4, 1, 0, 0, 1, 1, [y6]⟩ : Lg).n - ((⟨1, 4, 1, 0, 0, 1, 1, [y6]⟩ : Lg).nx - (⟨1, 4, 1, 0, 0, 1, 1, [y6]⟩ : Lg).st) - (⟨1, 4, 1, 0, 0, 1, 1, [y6]⟩ : Lg).un = 2 from rfl]
  go_wp2
  go_ret
  exact ⟨rfl, Hm9.out⟩
end Go.Proofs.YtnbamljaiahmdaaGreat
