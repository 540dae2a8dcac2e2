/-
  A log and the document's log side by side.
-/
import Derived.Test.YtidligegmhlikaaQRA4
namespace Go.Proofs.Ytidligegmhlikaa
open Go Go.RowKit Go.Shelf

theorem LV.At.poke {w0 w w' : World} {v : LV} {d : Dk} {g : Nat} {cs : Array Value} {t : TypeId} (h : v.At w0 w d) (ho : w.heap[g]? = some (.cells cs t (0, 0))) (h1 : t ≠ 83) (h2 : t ≠ 69) (h3 : t ≠ 88) (h4 : t ≠ 76) (h5 : t ≠ 40) (h6 : t ≠ 5) (hs : cs.size ≤ 255) (hb : w0.heap.size ≤ g)
    (hm : Mod (fun k => k = g) w w') : v.At w0 w' d where
  dev := h.dev.poke ho h1 h2 h3 hs hb hm
  obj := (hm.block _ h.lt (fun e => by
    rw [← e, h.obj] at ho
    injection ho with ho
    injection ho with _ ho
    exact h4 ho.symm)).trans h.obj
  pb := h.pb
  row := h.row.mod hm (fun k hk e => by
    obtain ⟨cs', e'⟩ := h.row.type_ hk
    rw [e, ho] at e'
    injection e' with e'
    injection e' with _ e'
    exact h5 e')
  vals := fun y hy => by
    have hb : ∀ k cs', w.heap[k]? = some (.cells cs' 5 (0, 0)) → ¬ k = g := fun k cs' e1 e2 => by
      rw [e2, ho] at e1
      injection e1 with e1
      injection e1 with _ e1
      exact h6 e1
    exact ⟨own_mod (h.vals y hy).1 hm hb, own_mod (h.vals y hy).2 hm hb⟩
  ok := h.ok
  arm := h.arm
  dead := h.dead
  wait := h.wait
  av := h.av

/-- The rows of the document's log. -/
structure QAt (w : World) (q : RL) : Prop where
  len : q.l.length = q.m
  cap : q.m ≤ q.c
  cells : 0 < q.m → ∃ b o, q.A = some ⟨b, o, none⟩ ∧ ∀ (i : Nat) (x : RcD), q.l[i]? = some x → x.Cells w b (o + i * 14)
theorem QAt.mod {F : Nat → Prop} {w w' : World} {q : RL} (h : QAt w q) (hm : Mod F w w') (hF : ∀ k, blkOf q.A = some k → ¬ F k) : QAt w' q := by
  refine ⟨h.len, h.cap, fun hp => ?_⟩
  obtain ⟨b, o, hA, hc⟩ := h.cells hp
  exact ⟨b, o, hA, fun i x hx => (hc i x hx).keep (hm.block b (hc i x hx).lt (hF b (by rw [hA]; rfl)))⟩
structure Bt (w0 W : World) (p gR : Nat) (v : LV) (q : RL) (d : Dk) : Prop where
  at_ : v.At w0 W d
  vp : v.p = p
  box : LIn W q gR
  gb : w0.heap.size ≤ gR
  gM : ¬ v.M gR
  row : QAt W q
  rM : ∀ k, blkOf q.A = some k → ¬ v.M k ∧ k ≠ gR ∧ w0.heap.size ≤ k ∧ k < W.heap.size
  ats : ∀ x ∈ q.l, x.At w0
structure Rel (g : Lg) (q : RL) : Prop where
  n : q.n = g.n
  st : q.st = g.st
  nx : q.nx = g.nx
  du : q.du = g.du
  l : CpL q.l g.l
section
variable {w0 W W' : World} {p gR : Nat} {v v' : LV} {q q' : RL} {d d' : Dk}
theorem Bt.keep (h : Bt w0 W p gR v q d) (hm : Mod (fun _ => False) W W') : Bt w0 W' p gR v q d :=
  ⟨h.at_.keep hm, h.vp, h.box.keep hm, h.gb, h.gM, h.row.mod hm (fun _ _ => id), fun k hk => by have := h.rM k hk; exact ⟨this.1, this.2.1, this.2.2.1, Nat.lt_of_lt_of_le this.2.2.2 hm.size⟩, h.ats⟩
/-- A call of the log. -/
theorem Bt.log (h : Bt w0 W p gR v q d) (hat : v'.At w0 W' d') (hmv : Moved W W' v v') : Bt w0 W' p gR v' q d' :=
  ⟨hat, hmv.p.trans h.vp, (hmv.mod.block gR h.box.lt h.gM).trans h.box, h.gb, fun e => (hmv.grows _ e).elim h.gM (fun e => by have := h.box.lt; omega), h.row.mod hmv.mod (fun k hk => (h.rM k hk).1),
    fun k hk => by
      obtain ⟨a, b, c, e⟩ := h.rM k hk
      exact ⟨fun e' => (hmv.grows _ e').elim a (fun e'' => by omega), b, c, Nat.lt_of_lt_of_le e hmv.mod.size⟩, h.ats⟩
/-- The document's log is laid anew. -/
theorem Bt.store (h : Bt w0 W p gR v q d) (hm : Mod (fun k => k = gR) W W') (hI : LIn W' q' gR) (hrow : QAt W q') (hr : ∀ k, blkOf q'.A = some k → ¬ v.M k ∧ k ≠ gR ∧ w0.heap.size ≤ k ∧ k < W.heap.size) (hats : ∀ x ∈ q'.l, x.At w0) : Bt w0 W' p gR v q' d :=
  ⟨h.at_.poke h.box (by decide) (by decide) (by decide) (by decide) (by decide) (by decide) (by simp) h.gb hm, h.vp, hI, h.gb, h.gM, hrow.mod hm (fun k hk => (hr k hk).2.1), fun k hk => by have := hr k hk; exact ⟨this.1, this.2.1, this.2.2.1, Nat.lt_of_lt_of_le this.2.2.2 hm.size⟩, hats⟩
theorem Bt.rs (h : Bt w0 W p gR v q d) : Rs W q.A q.m q.c q.l := ⟨h.row.len, h.row.cap, h.row.cells, fun x hx => (h.ats x hx).keep h.at_.old⟩
theorem Rel.ok (h : Rel v.g q) (hb : Bt w0 W p gR v q d) : q.Ok := by
  have ok := hb.at_.ok
  have hf := hb.at_.few
  have hl := h.l.len
  have h60 := (fits_may ok.fit).2
  have hlen := hb.row.len
  refine ⟨by rw [h.n]; exact ok.n2, by rw [h.n]; exact hf.1, by rw [h.st]; exact ok.s0, by rw [h.st, h.nx]; exact ok.sn, by rw [h.nx]; exact ok.nm, by rw [h.st, h.nx, h.n]; exact ok.room, hlen, by omega, fun hp => ?_⟩
  rw [h.nx]
  refine (ok.some_ (fun e => ?_)).2
  rw [e] at hl
  simp at hl
  omega
theorem Rel.un (h : Rel v.g q) (hb : Bt w0 W p gR v q d) : q.un = v.g.un := by
  have hl := h.l.len
  have hlen := hb.row.len
  unfold RL.un Lg.un
  by_cases e : v.g.l = []
  · rw [if_pos e, if_pos (by rw [e] at hl; simp at hl; omega)]
  · rw [if_neg e, if_neg (by have := List.length_pos_iff.2 e; omega)]
theorem CpL.nil_iff {a b : List RcD} (h : CpL a b) : a = [] ↔ b = [] := by cases h <;> simp
/-- Both appends answer the same. -/
theorem App.same {g g' : Lg} {r : RcD} {a er b eq : Int} (h : App g d r a er g' d') (k : RA q r b eq q') (hr : Rel g q) : a = b ∧ er = eq ∧ Rel g' q' := by
  have hg : ∀ z, growR q z = growB g z := fun z => by unfold growR growB; rw [hr.n, hr.nx, hr.st]
  have hfit : ∀ y, Cp r y → True := fun _ _ => trivial
  have hf : fitsB (g.l ++ [r]) = fitsB (q.l ++ [r]) := (CpL.append hr.l (CpL.refl [r])).fits
  have hn := hr.l.nil_iff
  have hl := hr.l.len
  have hx := hr.nx
  cases h with
  | arg h1 =>
    cases k with
    | arg _ => exact ⟨rfl, rfl, hr⟩
    | full h2 _ => rw [h1] at h2; cases h2
    | fit _ _ h2 _ _ => rw [h1] at h2; cases h2
    | next _ _ h2 _ _ _ => rw [h1] at h2; cases h2
  | full h1 h2 =>
    cases k with
    | arg h3 => rw [h1] at h3; cases h3
    | full _ _ => exact ⟨rfl, rfl, hr⟩
    | fit _ _ _ k1 k2 =>
      rcases h2 with ⟨e1, e2⟩ | ⟨_, e2, _⟩
      · rw [← hg, k1 (hn.2 e1)] at e2; cases e2
      · rw [hf, k2] at e2; cases e2
    | next _ _ _ k1 k2 k3 =>
      rcases h2 with ⟨e1, e2⟩ | ⟨_, _, e2⟩
      · exact absurd (hn.2 e1) k1
      · rw [← hg, k3] at e2; cases e2
  | fit y h1 h2 h3 hy =>
    cases k with
    | arg h4 => rw [h1] at h4; cases h4
    | full _ k2 =>
      rcases k2 with ⟨e1, e2⟩ | ⟨_, e2, _⟩
      · rw [hg, h2 (hn.1 e1)] at e2; cases e2
      · rw [← hf, h3] at e2; cases e2
    | fit A c _ _ _ => exact ⟨by rw [hx, hl], rfl, ⟨hr.n, hr.st, hr.nx, hr.du, hr.l.append (CpL.one hy)⟩⟩
    | next _ _ _ _ k2 _ => rw [← hf, h3] at k2; cases k2
  | next y h1 h2 h3 h4 hy =>
    cases k with
    | arg h5 => rw [h1] at h5; cases h5
    | full _ k2 =>
      rcases k2 with ⟨e1, e2⟩ | ⟨_, _, e2⟩
      · exact absurd (hn.1 e1) h2
      · rw [hg, h4] at e2; cases e2
    | fit _ _ _ _ k2 => rw [hf, k2] at h3; cases h3
    | next A c _ _ _ _ => exact ⟨by rw [hx], rfl, ⟨hr.n, hr.st, by show q.nx + 1 = g.nx + 1; rw [hx], hr.du, CpL.one hy⟩⟩
theorem RA.mem {r : RcD} {b eq : Int} (k : RA q r b eq q') : ∀ x ∈ q'.l, x ∈ q.l ∨ x = r := by
  cases k with
  | arg _ => exact fun x h => .inl h
  | full _ _ => exact fun x h => .inl h
  | fit _ _ _ _ _ => intro x h; rcases List.mem_append.1 h with h | h; exact .inl h; exact .inr (by simpa using h)
  | next _ _ _ _ _ _ => intro x h; exact .inr (by simpa using h)
theorem Rel.forced (h : Rel v.g q) (hb : Bt w0 W p gR v q d) : Rel v.g.forced q.forced := by
  have hu := h.un hb
  have hnx := v.g.forced_nx
  have hk := v.g.forced_kin
  have hl := v.g.forced_l
  unfold RL.forced
  by_cases e : q.m = 0
  · rw [if_pos e]
    have : q.un = 0 := by unfold RL.un; rw [if_pos e]
    refine ⟨by rw [hk.n]; exact h.n, by rw [hk.st]; exact h.st, by show q.nx = _; rw [hnx.1, ← hu, h.nx]; omega, by show q.nx = _; rw [hnx.2, hnx.1, ← hu, h.nx]; omega, ?_⟩
    have hq : q.l = [] := List.eq_nil_of_length_eq_zero (by rw [hb.row.len]; exact e)
    show CpL q.l _
    rw [hq, hl]
    exact .nil
  · rw [if_neg e]
    have : q.un = 1 := by unfold RL.un; rw [if_neg e]
    refine ⟨by rw [hk.n]; exact h.n, by rw [hk.st]; exact h.st, by show q.nx + 1 = _; rw [hnx.1, ← hu, h.nx]; omega, by show q.nx + 1 = _; rw [hnx.2, hnx.1, ← hu, h.nx]; omega, ?_⟩
    rw [hl]
    exact .nil
end
theorem Bt.forcedQ {w0 W : World} {p gR : Nat} {v : LV} {q : RL} {d : Dk} (h : Bt w0 W p gR v q d) : QAt W q.forced ∧ (∀ k, blkOf q.forced.A = some k → ¬ v.M k ∧ k ≠ gR ∧ w0.heap.size ≤ k ∧ k < W.heap.size) ∧ ∀ x ∈ q.forced.l, x.At w0 := by
  unfold RL.forced
  by_cases e : q.m = 0
  · rw [if_pos e]
    exact ⟨⟨h.row.len, h.row.cap, h.row.cells⟩, h.rM, h.ats⟩
  · rw [if_neg e]
    exact ⟨⟨rfl, Nat.le_refl _, fun hp => absurd hp (by simp)⟩, (fun k hk => by cases hk), fun x hx => absurd hx (by simp)⟩
/-- A new row has something in it. -/
theorem RA_pos {w0 W : World} {p gR : Nat} {v : LV} {q q' : RL} {d : Dk} {r : RcD} {b eq : Int} (k : RA q r b eq q') {i : Nat} (hk : blkOf q'.A = some i) (hi : W.heap.size ≤ i) (hb : Bt w0 W p gR v q d) : ¬ ¬ 0 < q'.m := by
  intro hn
  cases k with
  | arg _ => have := (hb.rM i hk).2.2.2; omega
  | full _ _ => have := (hb.rM i hk).2.2.2; omega
  | fit _ _ _ _ _ => exact hn (Nat.succ_pos _)
  | next _ _ _ _ _ _ => exact hn (Nat.succ_pos _)
theorem App.pend {w0 W : World} {v : LV} {d d' : Dk} {r : RcD} {a er : Int} {g' : Lg} (h : App v.g d r a er g' d') (hat : v.At w0 W d) : d'.pend.length ≤ d.pend.length + 1 := by
  cases h with
  | arg _ => omega
  | full _ _ => omega
  | fit _ _ _ _ _ => omega
  | next y _ _ _ _ _ =>
    rw [(Dk.write_good hat.arm hat.dead hat.ok.place.1 hat.ok.place.2 hat.ok.secL).1]
    simp
end Go.Proofs.Ytidligegmhlikaa
