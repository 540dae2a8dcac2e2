/-
  rec.Decode: its two functions.
-/
import Derived.Test.YtpkgeidenkjnfaaDecR
import Derived.Test.YtpkgeidenkjnfaaMay2
namespace Go.Proofs.Ytpkgeidenkjnfaa
open Go Go.RowKit Go.Shelf

def Rdn.err : Rdn Rc → Int
  | .bad e => e
  | .got _ _ => 0
/-- Where Decode's things lie: the bytes' row, the Reader, the boxes of 'in' and 'e', the record. -/
structure DL where
  rb : Nat
  rg : Nat
  ib : Nat
  eb : Nat
  g : Nat
  base : Nat
  o1 : base ≤ rb
  o2 : rb < rg
  o3 : rg < ib
  o4 : ib < eb
  o5 : eb < g
/-- Decode's memory when s has been read. -/
structure DS (L : DL) (w0 : World) (s : Rdn Rc) (W : World) : Prop where
  ibox : Bx W L.ib 60 (.pointer (some ⟨L.rg, 0, none⟩))
  ebox : Bx W L.eb 28 (.int .i64 s.err)
  rcd : ∃ y : RcD, y.In W L.g ∧ y.o.Own W w0.heap.size ∧ y.v.Own W w0.heap.size ∧ ∀ r xs, s = .got r xs → y.p = r
  rd : ∀ r xs, s = .got r xs → ∃ A n c, Rd W L.rg A n c xs ∧ c ≤ maxLen ∧ blkOf A = some L.rb
  ne : ∀ e, s = .bad e → e ≠ 0
  old : Mod (fun _ => False) w0 W
  base : L.base = w0.heap.size
  rlt : L.rb < W.heap.size

/-- The Reader has turned, and new memory has come. -/
theorem Own.far {w W W' : World} {x : VlD} {F : Nat → Prop} (h : x.Own W w.heap.size) (hm : Mod F W W') (hF : ∀ k, F k → ∃ cs t fr, W.heap[k]? = some (.cells cs t fr) ∧ t ≠ 5) : x.Own W' w.heap.size :=
  OwV.mod h hm (fun k hk e => by
    obtain ⟨cs, t, fr, h1, h2⟩ := hF k e
    exact ne_of_type h h1 h2 k hk rfl)

/-- A number is stored, and an error. -/
theorem DS.num {L : DL} {w0 W W1 : World} {r : Rc} {xs : List UInt8} (h : DS L w0 (.got r xs) W) (hm : Mod (fun k => k = L.rg) W W1) {i : Nat} (h1 : 1 ≤ i) (h9 : i ≤ 9) (z : Int) (s : Rdn Rc)
    (hs : (s = .bad 6) ∨ ∃ ys, s = .got { r with f := upd r.f i z } ys ∧ ∃ A n c, Rd W1 L.rg A n c ys ∧ c ≤ maxLen ∧ blkOf A = some L.rb) :
    DS L w0 s ((W1.setCell ⟨L.g, i, none⟩ (.int .i64 z)).setCell ⟨L.eb, 0, none⟩ (.int .i64 s.err)) := by
  obtain ⟨y, hy, hyo, hyv, hyp⟩ := h.rcd
  have o2 := L.o2; have o3 := L.o3; have o4 := L.o4; have o5 := L.o5; have o1 := L.o1
  obtain ⟨A0, n0, c0, hrd0, _, _⟩ := h.rd r xs rfl
  have hyp := hyp r xs rfl
  have b1 := h.ibox.mod hm (by omega)
  have b2 := h.ebox.mod hm (by omega)
  have b3 := hy.mod hm (by omega)
  have hm2 : Mod (fun k => k = L.g ∨ k = L.eb) W1 ((W1.setCell ⟨L.g, i, none⟩ (.int .i64 z)).setCell ⟨L.eb, 0, none⟩ (.int .i64 s.err)) := ((Mod.refl _ W1).setCell (p := ⟨L.g, i, none⟩) (fun _ => .inl rfl) _).setCell (p := ⟨L.eb, 0, none⟩) (fun _ => .inr rfl) _
  have far : ∀ k, (k = L.g ∨ k = L.eb) → ∃ cs t fr, W1.heap[k]? = some (.cells cs t fr) ∧ t ≠ 5 := by
    rintro k (rfl | rfl)
    · exact ⟨_, _, _, b3, by decide⟩
    · exact ⟨_, _, _, b2, by decide⟩
  have far0 : ∀ k, k = L.rg → ∃ cs t fr, W.heap[k]? = some (.cells cs t fr) ∧ t ≠ 5 := by
    rintro k rfl
    exact ⟨_, _, _, hrd0.1, by decide⟩
  have hbase := h.base
  refine ⟨b1.mod hm2 (by omega), ?_, ?_, ?_, ?_, ?_, h.base, ?_⟩
  · exact (b2.mod ((Mod.refl (fun k => k = L.g) W1).setCell (p := ⟨L.g, i, none⟩) (fun _ => rfl) (.int .i64 z)) (by omega)).set _
  · refine ⟨{ y with f := upd y.f i z }, ?_, ?_, ?_, ?_⟩
    · exact (b3.setN h1 h9 z).mod ((Mod.refl (fun k => k = L.eb) _).setCell (p := ⟨L.eb, 0, none⟩) (fun _ => rfl) _) (by omega)
    · exact Own.far (Own.far hyo hm far0) hm2 far
    · exact Own.far (Own.far hyv hm far0) hm2 far
    · rintro r' xs' rfl
      rcases hs with e | ⟨ys, e, _⟩
      · cases e
      · injection e with e1 e2
        subst e1
        rw [← hyp]
        rfl
  · rintro r' xs' rfl
    rcases hs with e | ⟨ys, e, A, n, c, k1, k2, k3⟩
    · cases e
    · injection e with e1 e2
      subst e2
      exact ⟨A, n, c, k1.mod hm2 (by omega) (fun k hk _ => by rw [k3] at hk; injection hk with hk; omega), k2, k3⟩
  · rintro e rfl
    rcases hs with e' | ⟨ys, e', _⟩
    · injection e' with e'; omega
    · cases e'
  · exact (h.old.trans hm (fun k hk e => by omega)).trans hm2 (fun k hk e => by omega)
  · have := h.rlt; have := hm.size; have := hm2.size; omega

set_option maxRecDepth 100000 in
set_option maxHeartbeats 1000000 in
theorem dec1_ok (L : DL) (w0 W : World) (s : Rdn Rc) (h : DS L w0 s W) (i wd : Nat) (h1 : 1 ≤ i) (h9 : i ≤ 9) (hw : wd = 1 ∨ wd = 2 ∨ wd = 4) :
    Calls Try.prog 59 #[.pointer (some ⟨L.g, i, none⟩), .int .i64 wd, .pointer (some ⟨L.eb, 0, none⟩), .pointer (some ⟨L.ib, 0, none⟩)] W fun e W' => e = .returned (.tuple #[]) ∧ DS L w0 (decStep s (.num i wd)) W' := by
  have he := h.ebox.cell
  have o5 := L.o5
  have o4 := L.o4
  have o3 := L.o3
  cases s with
  | bad e =>
    have hne : (e == 0) = false := by rw [beq_eq_false_iff_ne]; exact h.ne e rfl
    have H := Lib.hid h
    dsimp only [Rdn.err] at he
    clear h
    go_enter Try.func59, Try.ntmps59
    go_wp2
    go_end0
    exact ⟨rfl, H.out⟩
  | got r xs =>
    obtain ⟨A, n, c, hrd, hc, hA⟩ := h.rd r xs rfl
    obtain ⟨y, hy, _⟩ := h.rcd
    have hi := h.ibox.cell
    have hcg := hy.num h1 h9
    have hfg := hy.fz i
    have hef := h.ebox.fz
    have hlen := hrd.2.1.len
    dsimp only [Rdn.err] at he
    have H := Lib.hid h
    have HY := Lib.hid hy
    by_cases hs : xs.length < wd
    · have Hg := Lib.hid (get_short W L.rg A n c xs hrd (wd : Int) (by rcases hw with rfl | rfl | rfl <;> rfl) (by omega))
      have Hd : Hid (decStep (.got r xs) (.num i wd) = .bad 6) := by show _ = _; simp [decStep, decF, hs]
      have Hf := Lib.hid (H.out.num (Mod.refl _ W) h1 h9 0 (.bad 6) (.inl rfl))
      clear h hy hrd hs hlen
      go_enter Try.func59, Try.ntmps59
      go_wp2_with fail
      refine Hg.out.mono ?_
      rintro e W1 ⟨rfl, rfl⟩
      clear Hg
      go_wp2
      go_end0
      exact ⟨rfl, by rw [Hd.out]; exact Hf.out⟩
    · have hg := get_ok W L.rg A n c xs hrd hc (wd : Int) (by rcases hw with rfl | rfl | rfl <;> rfl) (by omega)
      rw [Int.toNat_natCast] at hg
      have Hg := Lib.hid hg
      have Hd : Hid (decStep (.got r xs) (.num i wd) = .got { r with f := upd r.f i (unle (xs.take wd)) } (xs.drop wd)) := by show _ = _; simp [decStep, decF, hs]
      have HA := Lib.hid hA
      clear h hy hrd hs hlen hg hA
      go_enter Try.func59, Try.ntmps59
      go_wp2_with fail
      refine Hg.out.mono ?_
      rintro e W1 ⟨rfl, A', k1, k2, k3, k4⟩
      have Hf := Lib.hid (H.out.num k3 h1 h9 (unle (xs.take wd)) (.got { r with f := upd r.f i (unle (xs.take wd)) } (xs.drop wd)) (.inr ⟨_, rfl, A', _, _, k1, by omega, k2.trans HA.out⟩))
      have hy1 := HY.out.mod k3 (by omega)
      have hcg1 := hy1.num h1 h9
      have hfg1 := hy1.fz i
      have hb1 := H.out.ebox.mod k3 (by omega)
      have he1 := hb1.cell
      have hef1 := hb1.fz
      dsimp only [Rdn.err] at he1
      clear Hg k1 k2 k3 k4 hy1 hb1 hcg hfg hef he hi
      go_wp2
      go_end0
      exact ⟨rfl, by rw [Hd.out]; exact Hf.out⟩

/-- A value is stored, and an error. -/
theorem DS.val_o {L : DL} {w0 W W1 : World} {r : Rc} {xs : List UInt8} (h : DS L w0 (.got r xs) W) (hm : Mod (fun k => k = L.rg) W W1) (z : VlD) (hz : z.Own W1 w0.heap.size) (s : Rdn Rc)
    (hs : (∃ e, e ≠ 0 ∧ s = .bad e) ∨ ∃ ys, s = .got { r with o := z.p } ys ∧ ∃ A n c, Rd W1 L.rg A n c ys ∧ c ≤ maxLen ∧ blkOf A = some L.rb) :
    DS L w0 s (((W1.setCell ⟨L.g, 10, none⟩ (.bool z.is)).setCell ⟨L.g, 11, none⟩ (.slice z.B z.m z.d)).setCell ⟨L.eb, 0, none⟩ (.int .i64 s.err)) := by
  obtain ⟨y, hy, hyo, hyv, hyp⟩ := h.rcd
  have o2 := L.o2; have o3 := L.o3; have o4 := L.o4; have o5 := L.o5; have o1 := L.o1
  obtain ⟨A0, n0, c0, hrd0, _, _⟩ := h.rd r xs rfl
  have hyp := hyp r xs rfl
  have b1 := h.ibox.mod hm (by omega)
  have b2 := h.ebox.mod hm (by omega)
  have b3 := hy.mod hm (by omega)
  have hmg : Mod (fun k => k = L.g) W1 ((W1.setCell ⟨L.g, 10, none⟩ (.bool z.is)).setCell ⟨L.g, 11, none⟩ (.slice z.B z.m z.d)) := ((Mod.refl (fun k => k = L.g) W1).setCell (p := ⟨L.g, 10, none⟩) (fun _ => rfl) _).setCell (p := ⟨L.g, 11, none⟩) (fun _ => rfl) _
  have hm2 : Mod (fun k => k = L.g ∨ k = L.eb) W1 (((W1.setCell ⟨L.g, 10, none⟩ (.bool z.is)).setCell ⟨L.g, 11, none⟩ (.slice z.B z.m z.d)).setCell ⟨L.eb, 0, none⟩ (.int .i64 s.err)) := (hmg.mono (fun _ _ h => .inl h)).setCell (p := ⟨L.eb, 0, none⟩) (fun _ => .inr rfl) _
  have far : ∀ k, (k = L.g ∨ k = L.eb) → ∃ cs t fr, W1.heap[k]? = some (.cells cs t fr) ∧ t ≠ 5 := by
    rintro k (rfl | rfl)
    · exact ⟨_, _, _, b3, by decide⟩
    · exact ⟨_, _, _, b2, by decide⟩
  have far0 : ∀ k, k = L.rg → ∃ cs t fr, W.heap[k]? = some (.cells cs t fr) ∧ t ≠ 5 := by
    rintro k rfl
    exact ⟨_, _, _, hrd0.1, by decide⟩
  have hbase := h.base
  refine ⟨b1.mod hm2 (by omega), (b2.mod hmg (by omega)).set _, ?_, ?_, ?_, ?_, h.base, ?_⟩
  · refine ⟨{ y with o := z }, (b3.setO z).mod ((Mod.refl (fun k => k = L.eb) _).setCell (p := ⟨L.eb, 0, none⟩) (fun _ => rfl) _) (by omega), Own.far hz hm2 far, Own.far (Own.far hyv hm far0) hm2 far, ?_⟩
    rintro r' xs' rfl
    rcases hs with ⟨e, _, e'⟩ | ⟨ys, e, _⟩
    · cases e'
    · injection e with e1 e2
      subst e1
      rw [← hyp]
      rfl
  · rintro r' xs' rfl
    rcases hs with ⟨e, _, e'⟩ | ⟨ys, e, A, n, c, k1, k2, k3⟩
    · cases e'
    · injection e with e1 e2
      subst e2
      exact ⟨A, n, c, k1.mod hm2 (by omega) (fun k hk _ => by rw [k3] at hk; injection hk with hk; omega), k2, k3⟩
  · rintro e rfl
    rcases hs with ⟨e0, h0, e'⟩ | ⟨ys, e', _⟩
    · injection e' with e'; omega
    · cases e'
  · exact (h.old.trans hm (fun k hk e => by omega)).trans hm2 (fun k hk e => by omega)
  · have := h.rlt; have := hm.size; have := hm2.size; omega

set_option maxRecDepth 100000 in
set_option maxHeartbeats 1000000 in
theorem dec2_o (L : DL) (w0 W : World) (s : Rdn Rc) (h : DS L w0 s W) :
    Calls Try.prog 60 #[.pointer (some ⟨L.g, 10, none⟩), .pointer (some ⟨L.eb, 0, none⟩), .pointer (some ⟨L.ib, 0, none⟩)] W fun e W' => e = .returned (.tuple #[]) ∧ DS L w0 (decStep s .old) W' := by
  have he := h.ebox.cell
  have o5 := L.o5
  have o4 := L.o4
  have o3 := L.o3
  cases s with
  | bad e =>
    have hne : (e == 0) = false := by rw [beq_eq_false_iff_ne]; exact h.ne e rfl
    have H := Lib.hid h
    dsimp only [Rdn.err] at he
    clear h
    go_enter Try.func60, Try.ntmps60
    go_wp2
    go_end0
    exact ⟨rfl, H.out⟩
  | got r xs =>
    obtain ⟨A, n, c, hrd, hc, hA⟩ := h.rd r xs rfl
    obtain ⟨y, hy, _⟩ := h.rcd
    have hi := h.ibox.cell
    dsimp only [Rdn.err] at he
    have H := Lib.hid h
    have HY := Lib.hid hy
    have Hg := Lib.hid (readValue_ok W L.rg A n c xs hrd hc (fun k hk => by rw [hA] at hk; injection hk with hk; have := h.rlt; omega))
    have HA := Lib.hid hA
    have hw0 := h.old.size
    clear h hy hrd hA hc
    go_enter Try.func60, Try.ntmps60
    go_wp2_with fail
    refine Hg.out.mono ?_
    rintro e W1 ⟨ha, k3⟩
    have hy1 := HY.out.mod k3 (by omega)
    have c0 := hy1.c10
    have c1 := hy1.c11
    have f0 := hy1.fz 10
    have f1 := hy1.fz 11
    have hb1 := H.out.ebox.mod k3 (by omega)
    have he1 := hb1.cell
    have hef1 := hb1.fz
    dsimp only [Rdn.err] at he1
    have K3 := Lib.hid k3
    clear Hg hy1 hb1 he hi k3
    cases hd : decV xs with
    | bad er =>
      rw [hd] at ha
      obtain rfl := ha
      have Hd : Hid (decStep (.got r xs) .old = .bad er) := by show _ = _; simp only [decStep, decF, hd]
      have hne : er ≠ 0 := by
        unfold decV at hd
        split at hd
        · injection hd with hd; omega
        · split at hd
          · cases hd
          · split at hd
            · injection hd with hd; omega
            · split at hd
              · injection hd with hd; omega
              · cases hd
      have Hf := Lib.hid (H.out.val_o K3.out VlD.none (VlD.none_own _ _) (.bad er) (.inl ⟨er, hne, rfl⟩))
      clear hd hne
      go_wp2
      go_end0
      exact ⟨rfl, by rw [Hd.out]; exact Hf.out⟩
    | got v ys =>
      rw [hd] at ha
      obtain ⟨z, rfl, hzp, hzo, A', n', c', k1, k2, k4⟩ := ha
      have Hd : Hid (decStep (.got r xs) .old = .got { r with o := v } ys) := by show _ = _; simp only [decStep, decF, hd]
      have Hf := Lib.hid (H.out.val_o K3.out z (OwV.rebase hzo (fun k hk => by have := (OwV.lt hzo k hk).1; omega)) (.got { r with o := v } ys) (.inr ⟨ys, by rw [hzp], A', n', c', k1, k2, k4.trans HA.out⟩))
      clear hd hzp hzo k1 k2 k4
      go_wp2
      go_end0
      exact ⟨rfl, by rw [Hd.out]; exact Hf.out⟩

/-- A value is stored, and an error. -/
theorem DS.val_v {L : DL} {w0 W W1 : World} {r : Rc} {xs : List UInt8} (h : DS L w0 (.got r xs) W) (hm : Mod (fun k => k = L.rg) W W1) (z : VlD) (hz : z.Own W1 w0.heap.size) (s : Rdn Rc)
    (hs : (∃ e, e ≠ 0 ∧ s = .bad e) ∨ ∃ ys, s = .got { r with v := z.p } ys ∧ ∃ A n c, Rd W1 L.rg A n c ys ∧ c ≤ maxLen ∧ blkOf A = some L.rb) :
    DS L w0 s (((W1.setCell ⟨L.g, 12, none⟩ (.bool z.is)).setCell ⟨L.g, 13, none⟩ (.slice z.B z.m z.d)).setCell ⟨L.eb, 0, none⟩ (.int .i64 s.err)) := by
  obtain ⟨y, hy, hyo, hyv, hyp⟩ := h.rcd
  have o2 := L.o2; have o3 := L.o3; have o4 := L.o4; have o5 := L.o5; have o1 := L.o1
  obtain ⟨A0, n0, c0, hrd0, _, _⟩ := h.rd r xs rfl
  have hyp := hyp r xs rfl
  have b1 := h.ibox.mod hm (by omega)
  have b2 := h.ebox.mod hm (by omega)
  have b3 := hy.mod hm (by omega)
  have hmg : Mod (fun k => k = L.g) W1 ((W1.setCell ⟨L.g, 12, none⟩ (.bool z.is)).setCell ⟨L.g, 13, none⟩ (.slice z.B z.m z.d)) := ((Mod.refl (fun k => k = L.g) W1).setCell (p := ⟨L.g, 12, none⟩) (fun _ => rfl) _).setCell (p := ⟨L.g, 13, none⟩) (fun _ => rfl) _
  have hm2 : Mod (fun k => k = L.g ∨ k = L.eb) W1 (((W1.setCell ⟨L.g, 12, none⟩ (.bool z.is)).setCell ⟨L.g, 13, none⟩ (.slice z.B z.m z.d)).setCell ⟨L.eb, 0, none⟩ (.int .i64 s.err)) := (hmg.mono (fun _ _ h => .inl h)).setCell (p := ⟨L.eb, 0, none⟩) (fun _ => .inr rfl) _
  have far : ∀ k, (k = L.g ∨ k = L.eb) → ∃ cs t fr, W1.heap[k]? = some (.cells cs t fr) ∧ t ≠ 5 := by
    rintro k (rfl | rfl)
    · exact ⟨_, _, _, b3, by decide⟩
    · exact ⟨_, _, _, b2, by decide⟩
  have far0 : ∀ k, k = L.rg → ∃ cs t fr, W.heap[k]? = some (.cells cs t fr) ∧ t ≠ 5 := by
    rintro k rfl
    exact ⟨_, _, _, hrd0.1, by decide⟩
  have hbase := h.base
  refine ⟨b1.mod hm2 (by omega), (b2.mod hmg (by omega)).set _, ?_, ?_, ?_, ?_, h.base, ?_⟩
  · refine ⟨{ y with v := z }, (b3.setV z).mod ((Mod.refl (fun k => k = L.eb) _).setCell (p := ⟨L.eb, 0, none⟩) (fun _ => rfl) _) (by omega), Own.far (Own.far hyo hm far0) hm2 far, Own.far hz hm2 far, ?_⟩
    rintro r' xs' rfl
    rcases hs with ⟨e, _, e'⟩ | ⟨ys, e, _⟩
    · cases e'
    · injection e with e1 e2
      subst e1
      rw [← hyp]
      rfl
  · rintro r' xs' rfl
    rcases hs with ⟨e, _, e'⟩ | ⟨ys, e, A, n, c, k1, k2, k3⟩
    · cases e'
    · injection e with e1 e2
      subst e2
      exact ⟨A, n, c, k1.mod hm2 (by omega) (fun k hk _ => by rw [k3] at hk; injection hk with hk; omega), k2, k3⟩
  · rintro e rfl
    rcases hs with ⟨e0, h0, e'⟩ | ⟨ys, e', _⟩
    · injection e' with e'; omega
    · cases e'
  · exact (h.old.trans hm (fun k hk e => by omega)).trans hm2 (fun k hk e => by omega)
  · have := h.rlt; have := hm.size; have := hm2.size; omega

set_option maxRecDepth 100000 in
set_option maxHeartbeats 1000000 in
theorem dec2_v (L : DL) (w0 W : World) (s : Rdn Rc) (h : DS L w0 s W) :
    Calls Try.prog 60 #[.pointer (some ⟨L.g, 12, none⟩), .pointer (some ⟨L.eb, 0, none⟩), .pointer (some ⟨L.ib, 0, none⟩)] W fun e W' => e = .returned (.tuple #[]) ∧ DS L w0 (decStep s .new) W' := by
  have he := h.ebox.cell
  have o5 := L.o5
  have o4 := L.o4
  have o3 := L.o3
  cases s with
  | bad e =>
    have hne : (e == 0) = false := by rw [beq_eq_false_iff_ne]; exact h.ne e rfl
    have H := Lib.hid h
    dsimp only [Rdn.err] at he
    clear h
    go_enter Try.func60, Try.ntmps60
    go_wp2
    go_end0
    exact ⟨rfl, H.out⟩
  | got r xs =>
    obtain ⟨A, n, c, hrd, hc, hA⟩ := h.rd r xs rfl
    obtain ⟨y, hy, _⟩ := h.rcd
    have hi := h.ibox.cell
    dsimp only [Rdn.err] at he
    have H := Lib.hid h
    have HY := Lib.hid hy
    have Hg := Lib.hid (readValue_ok W L.rg A n c xs hrd hc (fun k hk => by rw [hA] at hk; injection hk with hk; have := h.rlt; omega))
    have HA := Lib.hid hA
    have hw0 := h.old.size
    clear h hy hrd hA hc
    go_enter Try.func60, Try.ntmps60
    go_wp2_with fail
    refine Hg.out.mono ?_
    rintro e W1 ⟨ha, k3⟩
    have hy1 := HY.out.mod k3 (by omega)
    have c0 := hy1.c12
    have c1 := hy1.c13
    have f0 := hy1.fz 12
    have f1 := hy1.fz 13
    have hb1 := H.out.ebox.mod k3 (by omega)
    have he1 := hb1.cell
    have hef1 := hb1.fz
    dsimp only [Rdn.err] at he1
    have K3 := Lib.hid k3
    clear Hg hy1 hb1 he hi k3
    cases hd : decV xs with
    | bad er =>
      rw [hd] at ha
      obtain rfl := ha
      have Hd : Hid (decStep (.got r xs) .new = .bad er) := by show _ = _; simp only [decStep, decF, hd]
      have hne : er ≠ 0 := by
        unfold decV at hd
        split at hd
        · injection hd with hd; omega
        · split at hd
          · cases hd
          · split at hd
            · injection hd with hd; omega
            · split at hd
              · injection hd with hd; omega
              · cases hd
      have Hf := Lib.hid (H.out.val_v K3.out VlD.none (VlD.none_own _ _) (.bad er) (.inl ⟨er, hne, rfl⟩))
      clear hd hne
      go_wp2
      go_end0
      exact ⟨rfl, by rw [Hd.out]; exact Hf.out⟩
    | got v ys =>
      rw [hd] at ha
      obtain ⟨z, rfl, hzp, hzo, A', n', c', k1, k2, k4⟩ := ha
      have Hd : Hid (decStep (.got r xs) .new = .got { r with v := v } ys) := by show _ = _; simp only [decStep, decF, hd]
      have Hf := Lib.hid (H.out.val_v K3.out z (OwV.rebase hzo (fun k hk => by have := (OwV.lt hzo k hk).1; omega)) (.got { r with v := v } ys) (.inr ⟨ys, by rw [hzp], A', n', c', k1, k2, k4.trans HA.out⟩))
      clear hd hzp hzo k1 k2 k4
      go_wp2
      go_end0
      exact ⟨rfl, by rw [Hd.out]; exact Hf.out⟩
end Go.Proofs.Ytpkgeidenkjnfaa
