/-
  A law's own list of records beside a log.
-/
import Derived.Test.YtidligegmhlikaaQW3
import Derived.Test.YtidligegmhlikaaQSam
namespace Go.Proofs.Ytidligegmhlikaa
open Go Go.RowKit Go.Shelf

/-- A block of a log's types. -/
def TyL (w : World) (k : Nat) : Prop := ∃ (cs : Array Value) (t : TypeId), w.heap[k]? = some (.cells cs t (0, 0)) ∧ (t = 83 ∨ t = 69 ∨ t = 88 ∨ t = 76 ∨ t = 40)
theorem TyL.not {w : World} {k : Nat} (h : TyL w k) {cs : Array Value} {t : TypeId} (e : w.heap[k]? = some (.cells cs t (0, 0))) (n1 : t ≠ 83) (n2 : t ≠ 69) (n3 : t ≠ 88) (n4 : t ≠ 76) (n5 : t ≠ 40) : False := by
  obtain ⟨cs', t', e2, h⟩ := h
  rw [e] at e2
  injection e2 with e2
  injection e2 with _ e2
  subst e2
  rcases h with h | h | h | h | h
  · exact n1 h
  · exact n2 h
  · exact n3 h
  · exact n4 h
  · exact n5 h
theorem LV.At.tyL {w0 w : World} {v : LV} {d : Dk} (h : v.At w0 w d) {k : Nat} (hk : v.M k) : TyL w k := by
  rcases hk with (e | e | e | e) | e | e
  · exact ⟨_, _, by rw [e]; exact h.dev.at_.obj, .inl rfl⟩
  · obtain ⟨_, cur, hg, _⟩ := h.dev.at_.dur.block rfl
    exact ⟨_, _, by rw [e]; exact hg, .inr (.inl rfl)⟩
  · obtain ⟨_, cur, hg, _⟩ := h.dev.at_.now.block rfl
    exact ⟨_, _, by rw [e]; exact hg, .inr (.inl rfl)⟩
  · obtain ⟨cs, hg⟩ := h.dev.at_.pend.type_ e
    exact ⟨_, _, hg, .inr (.inr (.inl rfl))⟩
  · exact ⟨_, _, by rw [e]; exact h.obj, .inr (.inr (.inr (.inl rfl)))⟩
  · obtain ⟨cs, hg⟩ := h.row.type_ e
    exact ⟨_, _, hg, .inr (.inr (.inr (.inr rfl)))⟩

/-- A log at p on the device at px that has nothing in the blocks N. -/
structure LgN (w0 w : World) (p px : Nat) (g : Lg) (d : Dk) (N : Nat → Prop) : Prop where
  ex : ∃ v : LV, v.p = p ∧ v.x.p = px ∧ v.g = g ∧ v.At w0 w d ∧ v.x.Avoid N
section
variable {w0 w w' : World} {p px : Nat} {g : Lg} {d : Dk} {N N' : Nat → Prop}
theorem LgN.lgs (h : LgN w0 w p px g d N) : Lgs w0 w p px g d := by
  obtain ⟨v, h1, h2, h3, h4, _⟩ := h.ex
  exact ⟨v, h1, h2, h3, h4⟩
theorem LgN.keep (h : LgN w0 w p px g d N) (hm : Mod (fun _ => False) w w') : LgN w0 w' p px g d N := by
  obtain ⟨v, h1, h2, h3, h4, h5⟩ := h.ex
  exact ⟨v, h1, h2, h3, h4.keep hm, h5⟩
theorem LgN.old (h : LgN w0 w p px g d N) : Mod (fun _ => False) w0 w := h.lgs.old
theorem LgN.set (h : LgN w0 w p px g d N) (hN : ∀ k, N' k → N k ∨ w.heap.size ≤ k) : LgN w0 w p px g d N' := by
  obtain ⟨v, h1, h2, h3, h4, h5⟩ := h.ex
  exact ⟨v, h1, h2, h3, h4, (h5.or (h4.dev.at_.avoid_new (N := fun k => w.heap.size ≤ k) (fun _ h => h))).sub hN⟩
theorem LgN.poke (h : LgN w0 w p px g d N) {F : Nat → Prop} (hm : Mod F w w') (hF : ∀ k, F k → N k) (hT : ∀ k, F k → w0.heap.size ≤ k ∧ ∃ cs : Array Value, w.heap[k]? = some (.cells cs 59 (0, 0))) : LgN w0 w' p px g d N := by
  obtain ⟨v, h1, h2, h3, h4, h5⟩ := h.ex
  have hno : ∀ {cs : Array Value} {t : TypeId} (k : Nat), w.heap[k]? = some (.cells cs t (0, 0)) → t ≠ 59 → ¬ F k := fun k e n hk => by
    obtain ⟨_, cs', e2⟩ := hT k hk
    rw [e] at e2
    injection e2 with e2
    injection e2 with _ e2
    exact n e2
  refine ⟨v, h1, h2, h3, ⟨⟨h4.dev.at_.mod2 hm (fun k hk => ?_) (h5.sub hF), h4.dev.dk, h4.dev.old.trans hm (fun k hk e => by have := (hT k e).1; omega)⟩, ?_, h4.pb, ?_, fun y hy => ?_, h4.ok, h4.arm, h4.dead, h4.wait, h4.av⟩, h5⟩
  · obtain ⟨_, cs', e2⟩ := hT k hk
    exact h4.dev.notM e2 (by decide) (by decide) (by decide)
  · exact (hm.block _ h4.lt (hno _ h4.obj (by decide))).trans h4.obj
  · exact h4.row.mod hm (fun k hk => by obtain ⟨cs, e⟩ := h4.row.type_ hk; exact hno k e (by decide))
  · exact ⟨own_mod (h4.vals y hy).1 hm (fun k cs e => hno k e (by decide)), own_mod (h4.vals y hy).2 hm (fun k cs e => hno k e (by decide))⟩
end
theorem lgn_new (w w0 : World) (x : DV) (d : Dk) (h : Dev w0 w x d) (base n ep st nx : Int) (bB : base < 9223372036854775808) (bb : -9223372036854775808 ≤ base) (nB : n < 9223372036854775808) (hn : MayL d.dur.length base n ep st nx) (ha : d.armed = false) (hd : d.dead = false) (hp : d.pend = []) (N : Nat → Prop) (hN : x.Avoid N) :
    Calls Try.prog 11 #[.pointer (some ⟨x.p, 0, none⟩), .int .i64 base, .int .i64 n, .int .i64 ep, .int .i64 st, .int .i64 nx] w fun e w' => ∃ p, e = .returned (.tuple #[.pointer (some ⟨p, 0, none⟩), .int .i64 0]) ∧ LgN w0 w' p x.p (newG base n ep st nx) d N ∧ Mod (fun _ => False) w w' := by
  refine (lnew_ok w w0 x d h base n ep st nx bB bb nB hn ha hd hp).mono ?_
  rintro e w' ⟨rfl, h1, h2, _⟩
  exact ⟨_, rfl, ⟨_, rfl, rfl, rfl, h1, hN⟩, h2⟩
theorem lgn_app {w0 w : World} {p px : Nat} {g : Lg} {d : Dk} {N : Nat → Prop} (h : LgN w0 w p px g d N) (hN : ∀ k, N k → k < w.heap.size) (r : RcD) (hr : r.At w) (hp : d.pend.length ≤ 1000) :
    Calls Try.prog 13 #[.pointer (some ⟨p, 0, none⟩), r.val] w fun e w' => ∃ a er g' d', e = .returned (.tuple #[.int .i64 a, .int .i64 er]) ∧ App g d r a er g' d' ∧ LgN w0 w' p px g' d' N ∧ Mod (TyL w) w w' := by
  obtain ⟨v, h1, h2, h3, h4, h5⟩ := h.ex
  subst h1 h2 h3
  refine (append_ok w w0 v d h4 r hr hp).mono ?_
  rintro e w' ⟨v', d', a, er, rfl, ha, hat, hmv⟩
  exact ⟨a, er, v'.g, d', rfl, ha, ⟨v', hmv.p, hmv.xp, rfl, hat, hmv.av N hN h5⟩, hmv.mod.mono (fun _ _ hk => h4.tyL hk)⟩
theorem lgn_force {w0 w : World} {p px : Nat} {g : Lg} {d : Dk} {N : Nat → Prop} (h : LgN w0 w p px g d N) (hN : ∀ k, N k → k < w.heap.size) (hp : d.pend.length ≤ 999) :
    Calls Try.prog 15 #[.pointer (some ⟨p, 0, none⟩)] w fun e w' => e = .returned (.int .i64 0) ∧ LgN w0 w' p px g.forced (g.forcedD d) N ∧ Mod (TyL w) w w' := by
  obtain ⟨v, h1, h2, h3, h4, h5⟩ := h.ex
  subst h1 h2 h3
  refine (force_ok w w0 v d h4 hp).mono ?_
  rintro e w' ⟨v', rfl, hg, hat, hmv⟩
  exact ⟨rfl, ⟨v', hmv.p, hmv.xp, hg, hat, hmv.av N hN h5⟩, hmv.mod.mono (fun _ _ hk => h4.tyL hk)⟩

/-- A law's own list. -/
structure Al (w0 W : World) (A : Option Addr) (c : Nat) (L : List LgD) : Prop where
  row : OwN W w0.heap.size 59 15 A L.length c (lgC L)
  val : ∀ y ∈ L, y.r.At w0 ∨ (y.r.o.Own W w0.heap.size ∧ y.r.v.Own W w0.heap.size)
section
variable {w0 W V : World} {A A' : Option Addr} {c c' : Nat} {L : List LgD}
theorem al_nil (w0 W : World) : Al w0 W none 0 [] := ⟨OwN.nil _ _ _ _, fun y hy => absurd hy (by simp)⟩
theorem Al.ls (h : Al w0 W A c L) (old : Mod (fun _ => False) w0 W) : Ls W A L.length c L :=
  h.row.logs (fun y hy => (h.val y hy).elim (fun e => e.keep old) (fun e => ⟨e.1.at_, e.2.at_⟩))
theorem Al.mod (h : Al w0 W A c L) {F : Nat → Prop} (hm : Mod F W V) (hF : ∀ k, F k → TyL W k) : Al w0 V A c L := by
  refine ⟨h.row.mod hm (fun k hk e => ?_), fun y hy => (h.val y hy).imp id (fun ⟨a, b⟩ => ⟨own_mod a hm (fun k cs e1 e2 => ?_), own_mod b hm (fun k cs e1 e2 => ?_)⟩)⟩
  · obtain ⟨cs, e1⟩ := h.row.type_ hk
    exact (hF k e).not e1 (by decide) (by decide) (by decide) (by decide) (by decide)
  all_goals exact (hF k e2).not e1 (by decide) (by decide) (by decide) (by decide) (by decide)
theorem Al.keep (h : Al w0 W A c L) (hm : Mod (fun _ => False) W V) : Al w0 V A c L := h.mod hm (fun _ e => e.elim)
theorem Al.lt (h : Al w0 W A c L) : ∀ k, blkOf A = some k → k < W.heap.size := fun k hk => (h.row.lt k hk).2
/-- One more. -/
theorem Al.push (h : Al w0 W A c L) (y : LgD) (hy : y.r.At w0) (hown : OwN V w0.heap.size 59 15 A' (L.length + 1) c' (lgC L ++ y.cells.toList)) (hg : (W.alloc (.cells y.cells 59)).grownBy V (blkOf A)) : Al w0 V A' c' (L ++ [y]) := by
  have hm : Mod (fun k => blkOf A = some k) W V := ((Mod.refl _ W).alloc _).grown hg (fun k e _ => e)
  refine ⟨by rw [List.length_append, lgC_snoc]; exact hown, fun z hz => ?_⟩
  rcases List.mem_append.1 hz with hz | hz
  · refine (h.val z hz).imp id (fun ⟨a, b⟩ => ⟨own_mod a hm (fun k cs e1 e2 => ?_), own_mod b hm (fun k cs e1 e2 => ?_)⟩) <;>
    · obtain ⟨cs', e3⟩ := h.row.type_ e2
      rw [e1] at e3
      injection e3 with e3
      injection e3 with _ e3
      exact absurd e3 (by decide)
  · rw [List.mem_singleton.1 hz]
    exact .inl hy
theorem LgN.pushed {p px : Nat} {g : Lg} {d : Dk} (h : LgN w0 W p px g d (fun k => blkOf A = some k)) (ha : Al w0 W A c L) (y : LgD) (hg : (W.alloc (.cells y.cells 59)).grownBy V (blkOf A)) (hA : blkOf A' = blkOf A ∨ blkOf A' = some (W.alloc (.cells y.cells 59)).heap.size) : LgN w0 V p px g d (fun k => blkOf A' = some k) := by
  have hm : Mod (fun _ => False) W (W.alloc (.cells y.cells 59)) := (Mod.refl _ W).alloc _
  have h1 := (h.keep hm).set (N' := fun k => blkOf A = some k ∨ (W.alloc (.cells y.cells 59)).heap.size ≤ k) (fun k hk => hk)
  have hm2 : Mod (fun k => blkOf A = some k) (W.alloc (.cells y.cells 59)) V := (Mod.refl _ _).grown hg (fun k e _ => e)
  have h2 := h1.poke hm2 (fun k hk => .inl hk) (fun k hk => ⟨(ha.row.lt k hk).1, by
    obtain ⟨cs, e⟩ := ha.row.type_ hk
    exact ⟨cs, (hm.block k (ha.row.lt k hk).2 id).trans e⟩⟩)
  refine h2.set (fun k hk => .inl ?_)
  rcases hA with e | e
  · rw [e] at hk; exact .inl hk
  · rw [e] at hk; injection hk with hk; exact .inr (by omega)
end
/-- A slice of them as the source of an append. -/
theorem lgC_one (l : List LgD) : ∀ u ∈ lgC l, u.oneCell' = true := by
  intro u hu
  simp only [lgC, List.mem_flatMap] at hu
  obtain ⟨y, _, hy⟩ := hu
  exact lg_one y u hy
theorem Ls.src {w : World} {A : Option Addr} {n c : Nat} {l : List LgD} (h : Ls w A n c l) : SrcN w A n 15 (lgC l) := by
  refine ⟨by rw [lgC_len, h.len], lgC_one l, fun hp => ?_⟩
  obtain ⟨b, o, rfl, hc⟩ := h.cells hp
  refine ⟨_, rfl, fun j u hu => ?_⟩
  have hj : j < l.length * 15 := by rw [← lgC_len]; exact (List.getElem?_eq_some_iff.1 hu).1
  have hadd : (⟨b, o, none⟩ : Addr).add j = ⟨b, o + j, none⟩ := by unfold Addr.add; split <;> simp_all
  rw [hadd]
  have hi : j / 15 < l.length := by omega
  have hx : l[j / 15]? = some l[j / 15] := List.getElem?_eq_getElem hi
  have hr : j = j / 15 * 15 + j % 15 := by omega
  have h1 := lgC_get l (j / 15) _ hx (j % 15) (by omega)
  rw [← hr, hu] at h1
  have h2 := (hc (j / 15) _ hx).get h1.symm
  rw [Nat.add_assoc, ← hr] at h2
  exact h2
end Go.Proofs.Ytidligegmhlikaa
