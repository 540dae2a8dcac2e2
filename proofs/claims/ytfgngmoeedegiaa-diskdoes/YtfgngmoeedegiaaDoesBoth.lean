/-
  A device and the document's, side by side; the document's lies in a box B of the law's own.
-/
import Derived.Test.YtfgngmoeedegiaaDoesSame
import Derived.Test.YtfgngmoeedegiaaRef6
import Derived.Test.YtfgngmoeedegiaaRun
namespace Go.Proofs.Ytfgngmoeedegiaa
open Go Go.RowKit

theorem RV.At.over {w w' : World} {M M' : Nat → Prop} {r : RV} (h : r.At w M) (hm : Mod M w w') (hg : ∀ k, M' k → M k ∨ w.heap.size ≤ k) : r.At w' M' := by
  have h1 : r.At w (fun k => M k ∨ M' k) := h.avoid (fun k hk q => by rcases q with q | q; exact q; rcases hg k q with e | e; exact e; omega)
  have h2 := h1.mod (hm.mono (fun k _ e => .inl e))
  refine ⟨fun hp => ?_, fun hp => ?_, fun s hs => (h2.secs s hs).less (fun k e => .inr e), fun y hy => ⟨(h2.wsecs y hy).1, (h2.wsecs y hy).2.less (fun k e => .inr e)⟩, h2.few, h2.caps⟩
  · obtain ⟨b, o, e, hb, hc⟩ := h2.d hp
    exact ⟨b, o, e, fun q => hb (.inr q), hc⟩
  · obtain ⟨b, o, e, hb, hc⟩ := h2.wt hp
    exact ⟨b, o, e, fun q => hb (.inr q), hc⟩

section
variable {w0 w w' : World} {x : DV} {d d' : Dk} {r r' : RV} {B : Nat} {cs : Array Value}
theorem Dev.box (h : Dev w0 w x d) (hB : w.heap[B]? = some (.cells cs 31 (0, 0))) : ¬ x.M B := by
  rintro (e | e | e | e)
  · rw [e, h.at_.obj] at hB
    injection hB with hB
    injection hB with _ h2
    exact absurd h2 (by decide)
  · obtain ⟨_, cur, hg, _⟩ := h.at_.dur.block rfl
    rw [e, hg] at hB
    injection hB with hB
    injection hB with _ h2
    exact absurd h2 (by decide)
  · obtain ⟨_, cur, hg, _⟩ := h.at_.now.block rfl
    rw [e, hg] at hB
    injection hB with hB
    injection hB with _ h2
    exact absurd h2 (by decide)
  · rcases h.at_.pend.2 with hn | ⟨g, cap, cur, hv, hbg, hg, _⟩
    · have hn := hn.1
      injection hn with hn
      rw [hn] at e
      cases e
    · injection hv with hv
      rw [hv] at e
      injection e with e
      rw [← e, hg] at hB
      injection hB with hB
      injection hB with _ h2
      exact absurd h2 (by decide)
theorem Sct.At.small {M : Nat → Prop} {s : Sct} {t : TypeId} (h : s.At w M) (hB : w.heap[B]? = some (.cells cs t (0, 0))) (hc : cs.size = 5) : blkOf s.A ≠ some B := by
  intro e
  obtain ⟨b, o, hA, hcell⟩ := h.1.2.2 (by omega)
  rw [hA] at e
  injection e with e
  have := hcell 255 (by omega)
  rw [show b = B from e, cell_of_row _ _ _ _ _ _ hB, Array.getElem?_eq_none (by omega)] at this
  cases this
theorem Dev.store (h : Dev w0 w x d) (hB : w.heap[B]? = some (.cells cs 31 (0, 0))) (hc : cs.size = 5) (hw : w0.heap.size ≤ B) (hm : Mod (fun k => k = B) w w') : Dev w0 w' x d :=
  ⟨h.at_.mod hm (fun k e => by rw [e]; exact h.box hB) (fun s hs => ⟨hs.1.mod hm (fun k hk _ e => hs.small hB hc (by rw [hk, e])), hs.2⟩), h.dk, h.old.trans hm (fun k hk e => by omega)⟩

/-- The device has done it, the document's not yet. -/
structure Half (w0 w : World) (B : Nat) (x : DV) (d d' : Dk) (r : RV) : Prop where
  dev : Dev w0 w x d'
  at_ : r.At w (fun k => x.M k ∨ k = B)
  ali : Alike d r.dk
  box : w.heap[B]? = some (.cells (rowOf r) 31 (0, 0))
  hB : w0.heap.size ≤ B
/-- Both have done it; the box holds the elder one. -/
structure Done (w0 w : World) (B : Nat) (x : DV) (d' : Dk) (r r' : RV) : Prop where
  dev : Dev w0 w x d'
  at_ : r'.At w (fun k => x.M k ∨ k = B)
  ali : Alike d' r'.dk
  box : w.heap[B]? = some (.cells (rowOf r) 31 (0, 0))
  hB : w0.heap.size ≤ B
theorem Half.blt (h : Half w0 w B x d d' r) : B < w.heap.size := (Array.getElem?_eq_some_iff.1 h.box).1
theorem Half.M_lt (h : Half w0 w B x d d' r) : ∀ k, x.M k ∨ k = B → k < w.heap.size := fun k hk => by
  rcases hk with e | e
  · exact (h.dev.at_.M_lt e).2
  · have := h.blt; omega
theorem Half.keep (h : Half w0 w B x d d' r) (hm : Mod (fun _ => False) w w') : Half w0 w' B x d d' r :=
  ⟨h.dev.keep hm, h.at_.keep hm, h.ali, (hm.block B h.blt id).trans h.box, h.hB⟩
theorem Half.cells (h : Half w0 w B x d d' r) : w.cell? ⟨B, 0, none⟩ = some (.slice r.DA r.D.length r.dc) ∧ w.cell? ⟨B, 1, none⟩ = some (.slice r.WA r.W.length r.wc) ∧ w.cell? ⟨B, 2, none⟩ = some (.bool r.armed) ∧ w.cell? ⟨B, 3, none⟩ = some (.bool r.dead) ∧ w.cell? ⟨B, 4, none⟩ = some (.int .i64 r.left) := by
  refine ⟨?_, ?_, ?_, ?_, ?_⟩ <;> (rw [cell_of_row _ _ _ _ _ _ h.box]; rfl)
theorem Done.cells (h : Done w0 w B x d' r r') : (w.cell? ⟨B, 0, none⟩ = some (.slice r.DA r.D.length r.dc) ∧ w.cell? ⟨B, 1, none⟩ = some (.slice r.WA r.W.length r.wc) ∧ w.cell? ⟨B, 2, none⟩ = some (.bool r.armed) ∧ w.cell? ⟨B, 3, none⟩ = some (.bool r.dead) ∧ w.cell? ⟨B, 4, none⟩ = some (.int .i64 r.left)) ∧ ∀ i, w.frozen? ⟨B, i, none⟩ = false := by
  refine ⟨⟨?_, ?_, ?_, ?_, ?_⟩, fun i => frozen_of_block h.box i⟩ <;> (rw [cell_of_row _ _ _ _ _ _ h.box]; rfl)
theorem Half.lenW (h : Half w0 w B x d d' r) : r.W.length = d.pend.length := by rw [h.ali.pend]; simp [RV.dk]
theorem Half.lenD (h : Half w0 w B x d d r) : 0 < r.D.length := by
  have : r.D.length = d.dur.length := by rw [h.ali.dur, r.dk_len]
  rw [this, ← h.dev.lenD]
  exact h.dev.at_.pos
/-- From one call of the device. -/
theorem Half.turn {x' : DV} (h : Half w0 w B x d d r) (hm : Mod x.M w w') (hd : Dev w0 w' x' d') (hg : ∀ k, x'.M k → x.M k ∨ w.heap.size ≤ k) : Half w0 w' B x' d d' r :=
  ⟨hd, h.at_.over (hm.mono (fun _ _ e => .inl e)) (fun k q => by
      rcases q with q | q
      · rcases hg k q with e | e
        · exact .inl (.inl e)
        · exact .inr e
      · exact .inl (.inr q)), h.ali, (hm.block B h.blt (h.dev.box h.box)).trans h.box, h.hB⟩

theorem both_write (h : Half w0 w B x d d r) (i : Int) (A : Option Addr) (n c : Nat) (ys : List UInt8) (hy : Sl w A n c ys) (hM : ∀ k, blkOf A = some k → ¬ x.M k) (hW : d.pend.length ≤ 1000) :
    Calls Try.prog 13 #[.pointer (some ⟨x.p, 0, none⟩), .int .i64 i, .slice A n c] w fun e w' => e = .returned (.int .i64 (d.writeE i n)) ∧ ∃ x', x'.p = x.p ∧ Half w0 w' B x' d (d.write i ys) r ∧ Mod x.M w w' := by
  refine (dev_write w0 w x d h.dev i A n c ys hy hM hW).mono ?_
  rintro e w' ⟨he, x', hp, hd, hm, _, hg⟩
  exact ⟨he, x', hp, h.turn hm hd hg, hm⟩
theorem both_sync (h : Half w0 w B x d d r) (hW : d.pend.length ≤ 1000) :
    Calls Try.prog 15 #[.pointer (some ⟨x.p, 0, none⟩)] w fun e w' => e = .returned (.int .i64 d.syncE) ∧ ∃ x', x'.p = x.p ∧ Half w0 w' B x' d d.sync r ∧ Mod x.M w w' := by
  have hc := sync_ok w w0.heap.size x h.dev.at_ (by rw [h.dev.lenW]; exact hW)
  rw [h.dev.dk] at hc
  refine hc.mono ?_
  rintro e w' ⟨rfl, x', hL⟩
  exact ⟨rfl, x', hL.p, h.turn hL.mod (h.dev.left hL) hL.grows, hL.mod⟩
theorem both_arm (h : Half w0 w B x d d r) (n : Int) (hn : n < 9223372036854775808) :
    Calls Try.prog 17 #[.pointer (some ⟨x.p, 0, none⟩), .int .i64 n] w fun e w' => (∃ v, e = .returned v) ∧ ∃ x', x'.p = x.p ∧ Half w0 w' B x' d (d.arm n) r ∧ Mod x.M w w' := by
  have hc := arm_ok w w0.heap.size x h.dev.at_ n hn
  rw [h.dev.dk] at hc
  refine hc.mono ?_
  rintro e w' ⟨he, x', hL⟩
  exact ⟨he, x', hL.p, h.turn hL.mod (h.dev.left hL) hL.grows, hL.mod⟩
theorem both_crash (h : Half w0 w B x d d r) (hW : d.pend.length ≤ 1000) (kA : Option Addr) (kn kc : Nat) (ks : List Bool) (torn kk : Int) (hk : Bl w kA kn kc ks) (hkn : kn ≤ 9223372036854775807) :
    Calls Try.prog 19 #[.pointer (some ⟨x.p, 0, none⟩), .agg #[.slice kA kn kc, .int .i64 torn, .int .i64 kk]] w fun e w' => ∃ x', e = .returned (.pointer (some ⟨x'.p, 0, none⟩)) ∧ Half w0 w' B x' d (d.crash (keptN ks torn kk)) r ∧ Mod x.M w w' := by
  have hc := crash_ok w w0.heap.size x h.dev.at_ (by rw [h.dev.lenW]; exact hW) kA kn kc ks torn kk hk hkn
  rw [h.dev.dk] at hc
  refine hc.mono ?_
  rintro e w' ⟨x', rfl, hM⟩
  have hm : Mod x.M w w' := hM.2.2.2.mono (fun _ _ e => e.elim)
  exact ⟨x', rfl, h.turn hm (Dev.made h.dev.old hM) (fun k hk => .inr (hM.2.2.1 k hk)), hm⟩

theorem half_done (h : Half w0 w B x d d' r) (hm : Mod (fun _ => False) w w') (ha : r'.At w' (fun k => x.M k ∨ k = B)) (hl : Alike d' r'.dk) : Done w0 w' B x d' r r' :=
  ⟨h.dev.keep hm, ha, hl, (hm.block B h.blt id).trans h.box, h.hB⟩
theorem half_write {i : Int} {ys : List UInt8} (h : Half w0 w B x d (d.write i ys) r) (A : Option Addr) (n c : Nat) (hy : Sl w A n c ys) (hn : n ≤ 1000) (hW : d.pend.length ≤ 1000) :
    Calls Try.prog 14 #[.agg #[.slice r.DA r.D.length r.dc, .slice r.WA r.W.length r.wc, .bool r.armed, .bool r.dead, .int .i64 r.left], .int .i64 i, .slice A n c] w fun e w' => ∃ r' : RV, e = .returned (.tuple #[.agg #[.slice r'.DA r'.D.length r'.dc, .slice r'.WA r'.W.length r'.wc, .bool r'.armed, .bool r'.dead, .int .i64 r'.left], .int .i64 (d.writeE i n)]) ∧ Done w0 w' B x (d.write i ys) r r' := by
  refine (refWrite_ok w (fun k => x.M k ∨ k = B) h.M_lt d r h.at_ h.ali (by rw [h.lenW]; exact hW) i A n c ys hy hn).mono ?_
  rintro e w' ⟨r', rfl, ha, hl, hm⟩
  exact ⟨r', rfl, half_done h hm ha hl⟩
theorem half_sync (h : Half w0 w B x d d.sync r) (hpos : 0 < r.D.length) (hW : d.pend.length ≤ 1000) :
    Calls Try.prog 16 #[.agg #[.slice r.DA r.D.length r.dc, .slice r.WA r.W.length r.wc, .bool r.armed, .bool r.dead, .int .i64 r.left]] w fun e w' => ∃ r' : RV, e = .returned (.tuple #[.agg #[.slice r'.DA r'.D.length r'.dc, .slice r'.WA r'.W.length r'.wc, .bool r'.armed, .bool r'.dead, .int .i64 r'.left], .int .i64 d.syncE]) ∧ Done w0 w' B x d.sync r r' := by
  refine (refSync_ok w (fun k => x.M k ∨ k = B) h.M_lt d r h.at_ h.ali (by rw [h.lenW]; exact hW) hpos).mono ?_
  rintro e w' ⟨r', rfl, ha, hl, hm⟩
  exact ⟨r', rfl, half_done h hm ha hl⟩
theorem half_arm {n : Int} (h : Half w0 w B x d (d.arm n) r) (hn : n < 9223372036854775808) :
    Calls Try.prog 18 #[.agg #[.slice r.DA r.D.length r.dc, .slice r.WA r.W.length r.wc, .bool r.armed, .bool r.dead, .int .i64 r.left], .int .i64 n] w fun e w' => ∃ r' : RV, e = .returned (.agg #[.slice r'.DA r'.D.length r'.dc, .slice r'.WA r'.W.length r'.wc, .bool r'.armed, .bool r'.dead, .int .i64 r'.left]) ∧ Done w0 w' B x (d.arm n) r r' := by
  refine (refArm_ok w r n).mono ?_
  rintro e w' ⟨rfl, hm⟩
  exact ⟨r.arm n, rfl, half_done h hm (RV.At.flags (h.at_.keep hm) (decide (0 ≤ n)) r.dead n) (h.ali.arm n hn)⟩
theorem half_crash {kA : Option Addr} {kn kc : Nat} {ks : List Bool} {torn kk : Int} (h : Half w0 w B x d (d.crash (keptN ks torn kk)) r) (hpos : 0 < r.D.length) (hW : d.pend.length ≤ 1000) (hk : Bl w kA kn kc ks) (hkn : kn ≤ 9223372036854775807) :
    Calls Try.prog 20 #[.agg #[.slice r.DA r.D.length r.dc, .slice r.WA r.W.length r.wc, .bool r.armed, .bool r.dead, .int .i64 r.left], .agg #[.slice kA kn kc, .int .i64 torn, .int .i64 kk]] w fun e w' => ∃ r' : RV, e = .returned (.agg #[.slice r'.DA r'.D.length r'.dc, .slice r'.WA r'.W.length r'.wc, .bool r'.armed, .bool r'.dead, .int .i64 r'.left]) ∧ Done w0 w' B x (d.crash (keptN ks torn kk)) r r' := by
  refine (refCrash_ok w (fun k => x.M k ∨ k = B) h.M_lt d r h.at_ h.ali (by rw [h.lenW]; exact hW) hpos kA kn kc ks torn kk hk hkn).mono ?_
  rintro e w' ⟨r', rfl, ha, hl, hm⟩
  exact ⟨r', rfl, half_done h hm ha hl⟩

/-- The box is brought up to date. -/
theorem Done.store (h : Done w0 w B x d' r r') :
    Half w0 (((((w.setCell ⟨B, 0, none⟩ (.slice r'.DA r'.D.length r'.dc)).setCell ⟨B, 1, none⟩ (.slice r'.WA r'.W.length r'.wc)).setCell ⟨B, 2, none⟩ (.bool r'.armed)).setCell ⟨B, 3, none⟩ (.bool r'.dead)).setCell ⟨B, 4, none⟩ (.int .i64 r'.left)) B x d' d' r' := by
  have hm : Mod (fun k => k = B) w (((((w.setCell ⟨B, 0, none⟩ (.slice r'.DA r'.D.length r'.dc)).setCell ⟨B, 1, none⟩ (.slice r'.WA r'.W.length r'.wc)).setCell ⟨B, 2, none⟩ (.bool r'.armed)).setCell ⟨B, 3, none⟩ (.bool r'.dead)).setCell ⟨B, 4, none⟩ (.int .i64 r'.left)) := (((((Mod.refl _ w).one _ _).one _ _).one _ _).one _ _).one _ _
  refine ⟨h.dev.store h.box rfl h.hB hm, h.at_.mod (hm.mono (fun _ _ e => .inr e)), h.ali, ?_, h.hB⟩
  rw [heap_set (heap_set (heap_set (heap_set (heap_set h.box 0 _) 1 _) 2 _) 3 _) 4 _]
  rfl
theorem both_same (h : Half w0 w B x d d r) (hW : d.pend.length ≤ 1000) :
    Calls Try.prog 21 #[.pointer (some ⟨x.p, 0, none⟩), .agg #[.slice r.DA r.D.length r.dc, .slice r.WA r.W.length r.wc, .bool r.armed, .bool r.dead, .int .i64 r.left]] w fun e w' => e = .returned (.bool true) ∧ Half w0 w' B x d d r := by
  refine (devsame_ok w0 w x d r _ h.dev h.at_ h.ali (by rw [h.lenW]; exact hW)).mono ?_
  rintro e w' ⟨rfl, hm⟩
  exact ⟨rfl, h.keep hm⟩
end

/-- The law's own copy of a call. -/
def OpD.row3 (y : OpD) : Array Value := #[.int .i64 y.kind, .int .i64 y.at_, .int .i64 y.n, bv y.b, .bool y.short, .slice y.cr.A y.cr.n y.cr.c, .int .i64 y.cr.torn, .int .i64 y.cr.k]
theorem row3_cells {w : World} {g : Nat} {y : OpD} (h : w.heap[g]? = some (.cells y.row3 38 (0, 0))) : y.Cells w g 0 := by
  refine ⟨?_, ?_, ?_, ?_, ?_, ?_, ?_, ?_⟩ <;> (rw [cell_of_row _ _ _ _ _ _ h]; rfl)
theorem Sl.tail1 {w : World} {b : Nat} {xs : List UInt8} (h : Sl w (some ⟨b, 0, none⟩) 256 256 xs) : Sl w (some ⟨b, 1, none⟩) 255 255 (xs.drop 1) := by
  refine ⟨by simp [h.len], by omega, fun hp => ⟨b, 1, rfl, fun j hj => ?_⟩⟩
  obtain ⟨b', o', e, hcell⟩ := h.2.2 (by omega)
  injection e with e
  injection e with e1 e2
  subst e1; subst e2
  have := hcell (1 + j) (by omega)
  rw [Nat.zero_add] at this
  rw [this]
  simp [Nat.add_comm]
end Go.Proofs.Ytfgngmoeedegiaa
