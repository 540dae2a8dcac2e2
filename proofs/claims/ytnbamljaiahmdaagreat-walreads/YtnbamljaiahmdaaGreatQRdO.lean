/-
  wal.Read: what its loop has so far.
-/
import Derived.Test.YtnbamljaiahmdaaGreatQRdS
import Derived.Test.YtnbamljaiahmdaaGreatQRdA
import Derived.Test.YtnbamljaiahmdaaGreatQW2
namespace Go.Proofs.YtnbamljaiahmdaaGreat
open Go Go.RowKit Go.Shelf

/-- A device behind steps that turn blocks of other types. -/
theorem Dev.pokes {F : Nat → Prop} {w0 w w' : World} {x : DV} {d : Dk} (h : Dev w0 w x d) (hF : ∀ k, F k → ∃ (cs : Array Value) (t : TypeId), w.heap[k]? = some (.cells cs t (0, 0)) ∧ t ≠ 60 ∧ t ≠ 50 ∧ t ≠ 57 ∧ cs.size ≤ 255 ∧ w0.heap.size ≤ k)
    (hm : Mod F w w') : Dev w0 w' x d := by
  refine ⟨h.at_.mod hm (fun k hk hM => ?_) (fun s hs' => ?_), h.dk, h.old.trans hm (fun k hk e => ?_)⟩
  · obtain ⟨cs, t, e, h1, h2, h3, _⟩ := hF k hk
    exact h.notM e h1 h2 h3 hM
  · refine ⟨hs'.1.mod hm (fun k hk _ e => ?_), hs'.2⟩
    obtain ⟨cs, t, ho, _, _, _, hs, _⟩ := hF k e
    obtain ⟨b, o, hA, hc⟩ := hs'.1.2.2 (by omega)
    rw [hA] at hk
    injection hk with hk
    have hk : b = k := hk
    have h0 := hc 255 (by omega)
    rw [hk, cell_of_row _ _ _ _ _ _ ho] at h0
    have : o + 255 < cs.size := (Array.getElem?_eq_some_iff.1 h0).1
    omega
  · obtain ⟨_, _, _, _, _, _, _, hb⟩ := hF k e
    omega

theorem noncell_ne {W : World} {k : Nat} {cs : Array Value} {t : TypeId} {fr : Nat × Nat} (h : W.heap[k]? = some (.cells cs t fr)) : ¬ ∃ o : Obj, W.heap[k]? = some o ∧ o.isCells = false := by
  rintro ⟨o, ho, hc⟩
  rw [h] at ho
  injection ho with ho
  subst ho
  cases hc
theorem OwN.typed' {w : World} {base : Nat} {e : TypeId} {size : Nat} {A : Option Addr} {n c : Nat} {vs : List Value} (h : OwN w base e size A n c vs) {k : Nat} (hk : blkOf A = some k) : ∃ cs, w.heap[k]? = some (.cells cs e (0, 0)) := h.type_ hk

/-- The three boxes. -/
def G3 (Bo Be Bp : Nat) (k : Nat) : Prop := k = Bo ∨ k = Be ∨ k = Bp
/-- What the loop has, in memory laid since n0. -/
structure Ro (w : World) (n0 Bo Be Bp : Nat) (rows : List (Int × Rc)) (en ep : Int) (W : World) : Prop where
  ex : ∃ A c L, Boxed W Bo 30 (.slice A L.length c) ∧ OwN W n0 71 15 A L.length c (lgC L) ∧ (∀ y ∈ L, y.r.o.Own W n0 ∧ y.r.v.Own W n0) ∧ L.map LgD.p = rows
  be : Boxed W Be 3 (.int .i64 en)
  bp : Boxed W Bp 3 (.int .i64 ep)
  old : Mod (fun k => G3 Bo Be Bp k ∨ w.heap.size ≤ k) w W
section
variable {w W Y : World} {n0 Bo Be Bp : Nat} {rows : List (Int × Rc)} {en ep : Int}
theorem Ro.grow (hb : Bo < w.heap.size ∧ Be < w.heap.size ∧ Bp < w.heap.size) (h : Ro w n0 Bo Be Bp rows en ep W) {row : Option Nat} (hg : W.grownBy Y row) (hr : ∀ r, row = some r → w.heap.size ≤ r ∧ ((∃ o : Obj, W.heap[r]? = some o ∧ o.isCells = false) ∨ r < n0)) : Ro w n0 Bo Be Bp rows en ep Y := by
  obtain ⟨A, c, L, h1, h2, h3, h4⟩ := h.ex
  have key : ∀ {cs : Array Value} {t : TypeId} {fr : Nat × Nat} (k : Nat), n0 ≤ k → W.heap[k]? = some (.cells cs t fr) → some k ≠ row := fun k hk e e' => by
    rcases (hr k e'.symm).2 with h | h
    · exact noncell_ne e h
    · omega
  have own : ∀ y : VlD, y.Own W n0 → y.Own Y n0 := fun y hy => by
    have hm : Mod (fun k => row = some k) W Y := ⟨hg.os, hg.tape, hg.output, hg.size, fun k hk hne => hg.block k hk (fun e => hne e.symm)⟩
    exact OwV.mod hy hm (fun k hk e => by
      obtain ⟨cs, e2⟩ := own_type hy hk
      exact key k (OwV.lt hy k hk).1 e2 e.symm)
  have low : ∀ k, k < w.heap.size → some k ≠ row := fun k hk e => by have := (hr k e.symm).1; omega
  refine ⟨⟨A, c, L, h1.kept hg (low _ hb.1), ?_, fun y hy => ⟨own _ (h3 y hy).1, own _ (h3 y hy).2⟩, h4⟩, h.be.kept hg (low _ hb.2.1), h.bp.kept hg (low _ hb.2.2), h.old.grown hg (fun k e hk => by have := (hr k e).1; omega)⟩
  have hm : Mod (fun k => row = some k) W Y := ⟨hg.os, hg.tape, hg.output, hg.size, fun k hk hne => hg.block k hk (fun e => hne e.symm)⟩
  exact h2.mod hm (fun k hk e => by
    obtain ⟨cs, e2⟩ := h2.type_ hk
    exact key k (h2.lt k hk).1 e2 e.symm)
theorem Ro.keep (hb : Bo < w.heap.size ∧ Be < w.heap.size ∧ Bp < w.heap.size) (h : Ro w n0 Bo Be Bp rows en ep W) (hm : Mod (fun _ => False) W Y) : Ro w n0 Bo Be Bp rows en ep Y := h.grow hb (grown_none hm) (fun r e => by cases e)
end

/-- What the body's steps keep. -/
structure Stp (n0 : Nat) (G : Nat → Prop) (W Y : World) : Prop where
  ks : KeepsFrom n0 W Y
  kp : KpB n0 G W Y
theorem Stp.trans {n0 : Nat} {G : Nat → Prop} {A B C : World} (h : Stp n0 G A B) (k : Stp n0 G B C) : Stp n0 G A C := ⟨h.ks.trans k.ks, h.kp.trans k.kp⟩
theorem Stp.of {n0 : Nat} {G F : Nat → Prop} {W Y : World} (hm : Mod F W Y) (hF : ∀ k, F k → (G k ∨ n0 ≤ k) ∧ ∃ (cs : Array Value) (t : TypeId) (fr : Nat × Nat), W.heap[k]? = some (.cells cs t fr) ∧ t ≠ 68) : Stp n0 G W Y := by
  refine ⟨⟨hm.size, fun k o _ hk ho => ?_⟩, hm.mono (fun k _ h => (hF k h).1), fun k cur fr hk => ?_⟩
  · refine (hm.block k (Array.getElem?_eq_some_iff.1 hk).1 (fun e => ?_)).trans hk
    obtain ⟨cs, t, fr, e2, _⟩ := (hF k e).2
    exact noncell_ne e2 ⟨o, hk, ho⟩
  · refine (hm.block k (Array.getElem?_eq_some_iff.1 hk).1 (fun e => ?_)).trans hk
    obtain ⟨cs, t, fr', e2, ht⟩ := (hF k e).2
    rw [hk] at e2
    injection e2 with e2
    injection e2 with _ e2
    exact ht e2.symm
theorem Stp.keep {n0 : Nat} {G : Nat → Prop} {W Y : World} (hm : Mod (fun _ => False) W Y) : Stp n0 G W Y := .of hm (fun _ h => h.elim)

section
variable {w W : World} {n0 Bo Be Bp : Nat} {rows : List (Int × Rc)} {en ep : Int}
/-- One more. -/
theorem Ro.push (hb : Bo < w.heap.size ∧ Be < w.heap.size ∧ Bp < w.heap.size ∧ Bo ≠ Be ∧ Bo ≠ Bp ∧ Be ≠ Bp) (hw : w.heap.size ≤ n0) (h : Ro w n0 Bo Be Bp rows en ep W) {A A' : Option Addr} {c c' : Nat} {L : List LgD} {V : World} (y : LgD) (hyo : y.r.o.Own W n0) (hyv : y.r.v.Own W n0)
    (h1 : Boxed W Bo 30 (.slice A L.length c)) (h2 : OwN W n0 71 15 A L.length c (lgC L)) (h3 : ∀ y ∈ L, y.r.o.Own W n0 ∧ y.r.v.Own W n0) (h4 : L.map LgD.p = rows)
    (hown : OwN V n0 71 15 A' (L.length + 1) c' (lgC L ++ y.cells.toList)) (hg : (W.alloc (.cells y.cells 71)).grownBy V (blkOf A)) :
    Ro w n0 Bo Be Bp (rows ++ [y.p]) en ep (V.setCell ⟨Bo, 0, none⟩ (.slice A' (L.length + 1) c')) ∧ Stp w.heap.size (G3 Bo Be Bp) W (V.setCell ⟨Bo, 0, none⟩ (.slice A' (L.length + 1) c')) ∧
      Mod (fun k => k = Bo ∨ blkOf A = some k) W (V.setCell ⟨Bo, 0, none⟩ (.slice A' (L.length + 1) c')) := by
  have hmA : Mod (fun k => blkOf A = some k) W V := ((Mod.refl _ W).alloc _).grown hg (fun k e _ => e)
  have hAlow : ∀ k, blkOf A = some k → n0 ≤ k := fun k e => (h2.lt k e).1
  have hb1 : Boxed V Bo 30 (.slice A L.length c) := (hmA.block Bo h1.lt (fun e => by have := hAlow _ e; omega)).trans h1
  have hm2 : Mod (fun k => k = Bo) V (V.setCell ⟨Bo, 0, none⟩ (.slice A' (L.length + 1) c')) := (Mod.refl _ V).one _ _
  have hm : Mod (fun k => k = Bo ∨ blkOf A = some k) W (V.setCell ⟨Bo, 0, none⟩ (.slice A' (L.length + 1) c')) := (hmA.mono (fun _ _ e => .inr e)).trans hm2 (fun _ _ e => .inl e)
  have hAB : ∀ k, blkOf A' = some k → k ≠ Bo := fun k e e2 => by have := (hown.lt k e).1; omega
  have own : ∀ v : VlD, v.Own W n0 → v.Own (V.setCell ⟨Bo, 0, none⟩ (.slice A' (L.length + 1) c')) n0 := fun v hv => OwV.mod hv hm (fun k hk e => by
    obtain ⟨cs, e2⟩ := own_type hv hk
    rcases e with e | e
    · have := (OwV.lt hv k hk).1; omega
    · obtain ⟨cs', e3⟩ := h2.type_ e
      rw [e2] at e3
      injection e3 with e3
      injection e3 with _ e3
      exact absurd e3 (by decide))
  refine ⟨⟨⟨A', c', L ++ [y], by rw [List.length_append]; exact hb1.set _, ?_, fun v hv => ?_, by rw [List.map_append, h4]; rfl⟩, ?_, ?_, ?_⟩, .of hm (fun k hk => ?_), hm⟩
  · rw [lgC_snoc, List.length_append]
    exact hown.mod hm2 (fun k hk e => hAB k hk e)
  · rcases List.mem_append.1 hv with hv | hv
    · exact ⟨own _ (h3 v hv).1, own _ (h3 v hv).2⟩
    · rw [List.mem_singleton.1 hv]; exact ⟨own _ hyo, own _ hyv⟩
  · exact (hm.block Be h.be.lt (fun e => e.elim (fun e => hb.2.2.2.1 e.symm) (fun e => by have := hAlow _ e; omega))).trans h.be
  · exact (hm.block Bp h.bp.lt (fun e => e.elim (fun e => hb.2.2.2.2.1 e.symm) (fun e => by have := hAlow _ e; omega))).trans h.bp
  · exact h.old.trans hm (fun k hk e => e.elim (fun e => .inl (.inl e)) (fun e => .inr (by have := hAlow _ e; omega)))
  · rcases hk with rfl | hk
    · exact ⟨.inl (.inl rfl), _, _, _, h1, by decide⟩
    · obtain ⟨cs, e⟩ := h2.type_ hk
      exact ⟨.inr (by have := hAlow _ hk; omega), _, _, _, e, by decide⟩
/-- The end of a round. -/
theorem Ro.ends (hb : Bo < w.heap.size ∧ Be < w.heap.size ∧ Bp < w.heap.size ∧ Bo ≠ Be ∧ Bo ≠ Bp ∧ Be ≠ Bp) (hw : w.heap.size ≤ n0) (h : Ro w n0 Bo Be Bp rows en ep W) (en' ep' : Int) :
    Ro w n0 Bo Be Bp rows en' ep' ((W.setCell ⟨Be, 0, none⟩ (.int .i64 en')).setCell ⟨Bp, 0, none⟩ (.int .i64 ep')) ∧ Stp w.heap.size (G3 Bo Be Bp) W ((W.setCell ⟨Be, 0, none⟩ (.int .i64 en')).setCell ⟨Bp, 0, none⟩ (.int .i64 ep')) := by
  obtain ⟨A, c, L, h1, h2, h3, h4⟩ := h.ex
  have hm : Mod (fun k => k = Be ∨ k = Bp) W ((W.setCell ⟨Be, 0, none⟩ (.int .i64 en')).setCell ⟨Bp, 0, none⟩ (.int .i64 ep')) :=
    (((Mod.refl (fun k => k = Be) W).one 0 (.int .i64 en')).mono (fun _ _ e => .inl e)).trans ((Mod.refl (fun k => k = Bp) _).one 0 (.int .i64 ep')) (fun _ _ e => .inr e)
  have own : ∀ v : VlD, v.Own W n0 → v.Own ((W.setCell ⟨Be, 0, none⟩ (.int .i64 en')).setCell ⟨Bp, 0, none⟩ (.int .i64 ep')) n0 := fun v hv => OwV.mod hv hm (fun k hk e => by have := (OwV.lt hv k hk).1; omega)
  have e1 : Boxed (W.setCell ⟨Be, 0, none⟩ (.int .i64 en')) Bp 3 (.int .i64 ep) := h.bp.other (by omega) _
  refine ⟨⟨⟨A, c, L, (hm.block Bo h1.lt (by omega)).trans h1, h2.mod hm (fun k hk e => by have := (h2.lt k hk).1; omega), fun y hy => ⟨own _ (h3 y hy).1, own _ (h3 y hy).2⟩, h4⟩, (h.be.set _).other (by omega) _, e1.set _, h.old.trans hm (fun k hk e => .inl (e.elim (fun e => .inr (.inl e)) (fun e => .inr (.inr e))))⟩, .of hm (fun k hk => ?_)⟩
  rcases hk with rfl | rfl
  · exact ⟨.inl (.inr (.inl rfl)), _, _, _, h.be, by decide⟩
  · exact ⟨.inl (.inr (.inr rfl)), _, _, _, h.bp, by decide⟩
end
end Go.Proofs.YtnbamljaiahmdaaGreat
