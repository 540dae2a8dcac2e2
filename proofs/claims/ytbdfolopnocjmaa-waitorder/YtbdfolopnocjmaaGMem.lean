/-
  Memory of package wait: a list of those that wait, rows of numbers, maps that are keyed by numbers (whatever their elements).
-/
import Derived.Test.YtbdfolopnocjmaaRows
import Derived.Test.YtbdfolopnocjmaaGMath
import Derived.Test.YtbdfolopnocjmaaRowM
import Derived.Maps.RangeWalk
import Derived.Maps.OwnSet
import Derived.Maps.OwnIn
namespace Go.Proofs.Ytbdfolopnocjmaa
open Go Go.RowKit
open Go.Maps (Keyed)
open Go.ChangeMaps Go.MapKept Go.WideShapes
open Go.WideElems (Fit rd rg rd_key rg_of)

/-- A number of 64 bits. -/
def I64 (a : Int) : Prop := -9223372036854775808 ≤ a ∧ a ≤ 9223372036854775807
theorem I64.wf {a : Int} (h : I64 a) : (Lit.int .i64 a).wf = true := by
  unfold I64 at h
  simp [Lit.wf, IntKind.min, IntKind.max, IntKind.bits, IntKind.signed]
  omega
theorem I64.of_wf {a : Int} (h : (Lit.int .i64 a).wf = true) : I64 a := by
  simp [Lit.wf, IntKind.min, IntKind.max, IntKind.bits, IntKind.signed] at h
  unfold I64
  omega

/-! ### Rows of numbers -/
def ivs (zs : List Int) : List Value := zs.map (Value.int .i64)
theorem ivs_len (zs : List Int) : (ivs zs).length = zs.length := by simp [ivs]
theorem ivs_append (a b : List Int) : ivs (a ++ b) = ivs a ++ ivs b := by simp [ivs]
/-- A row of numbers of the call's own. -/
def OwI (w : World) (base : Nat) (A : Option Addr) (n c : Nat) (zs : List Int) : Prop := OwV w base 3 A n c (ivs zs)
/-- The slice value '.slice A n c' reads as the numbers zs. -/
def Il (w : World) (A : Option Addr) (n c : Nat) (zs : List Int) : Prop :=
  zs.length = n ∧ n ≤ c ∧ (0 < n → ∃ b o, A = some ⟨b, o, none⟩ ∧ ∀ j z, zs[j]? = some z → w.cell? ⟨b, o + j, none⟩ = some (.int .i64 z))
section
variable {w w' : World} {base : Nat} {A : Option Addr} {n c : Nat} {zs : List Int}
theorem OwI.len (h : OwI w base A n c zs) : zs.length = n := by have := OwV.len h; rwa [ivs_len] at this
theorem OwI.keep (h : OwI w base A n c zs) (hm : Mod (fun _ => False) w w') : OwI w' base A n c zs := OwV.mod h hm (fun _ _ => id)
theorem OwI.nil (w : World) (base : Nat) : OwI w base none 0 0 [] := OwV.nil w base _
theorem Il.len (h : Il w A n c zs) : zs.length = n := h.1
theorem Il.lt (h : Il w A n c zs) (hn : 0 < n) : ∃ b o, A = some ⟨b, o, none⟩ ∧ b < w.heap.size := by
  obtain ⟨b, o, rfl, hc⟩ := h.2.2 hn
  exact ⟨b, o, rfl, World.block_lt_of_cell? w _ (hc 0 _ (List.getElem?_eq_getElem (by rw [h.1]; exact hn)))⟩
theorem Il.mod {F : Nat → Prop} (h : Il w A n c zs) (hm : Mod F w w') (hF : ∀ k, blkOf A = some k → k < w.heap.size → ¬ F k) : Il w' A n c zs := by
  refine ⟨h.1, h.2.1, fun hn => ?_⟩
  obtain ⟨b, o, rfl, hc⟩ := h.2.2 hn
  refine ⟨b, o, rfl, fun j z hz => ?_⟩
  have hb := World.block_lt_of_cell? w _ (hc j z hz)
  exact (World.cell?_of_block (hm.block b hb (hF b rfl hb))).trans (hc j z hz)
theorem Il.keep (h : Il w A n c zs) (hm : Mod (fun _ => False) w w') : Il w' A n c zs := h.mod hm (fun _ _ _ => id)
/-- It stays where blocks turn that are new. -/
theorem Il.old (h : Il w A n c zs) (hm : Mod (fun k => w.heap.size ≤ k) w w') : Il w' A n c zs := h.mod hm (fun _ _ hk h => by omega)
theorem OwI.il (h : OwI w base A n c zs) : Il w A n c zs := by
  refine ⟨h.len, OwV.cap h, fun hn => ?_⟩
  obtain ⟨g, rfl, hc⟩ := OwV.cells h hn
  refine ⟨g, 0, rfl, fun j z hz => ?_⟩
  have hl := h.len
  have hj := (List.getElem?_eq_some_iff.1 hz).1
  rw [Nat.zero_add, hc j (by omega), ivs, List.getElem?_map, hz]
  rfl
theorem Il.src (h : Il w A n c zs) : Src w A n (ivs zs) := by
  refine ⟨by rw [ivs_len]; exact h.1, fun u hu => ?_, fun hn => ?_⟩
  · obtain ⟨x, _, rfl⟩ := List.mem_map.1 hu; rfl
  · obtain ⟨b, o, rfl, hc⟩ := h.2.2 hn
    refine ⟨_, rfl, fun j u hu => ?_⟩
    rw [ivs, List.getElem?_map] at hu
    cases hz : zs[j]? with
    | none => rw [hz] at hu; cases hu
    | some z =>
      rw [hz] at hu
      cases hu
      have hadd : (⟨b, o, none⟩ : Addr).add j = ⟨b, o + j, none⟩ := by unfold Addr.add; split <;> simp_all
      rw [hadd]
      exact hc j z hz
end
theorem intElem : Elem Try.prog 27 3 (.int .i64 0) 8 := Elem.mk_ Try.underlying27 rfl (by kernel_rfl)

/-! ### Those that wait -/
structure Wt where
  tx : Int
  A : Option Addr
  n : Nat
  c : Nat
  zs : List Int
def Wt.p (x : Wt) : Wp := (x.tx, x.zs)
def ps (l : List Wt) : List Wp := l.map Wt.p
def Wt.cells (x : Wt) : List Value := [.int .i64 x.tx, .slice x.A x.n x.c]
structure Wl (w : World) (A : Option Addr) (n c : Nat) (l : List Wt) : Prop where
  len : l.length = n
  cap : n ≤ c
  at_ : 0 < n → ∃ b o, A = some ⟨b, o, none⟩ ∧ ∀ (j : Nat) (x : Wt), l[j]? = some x → w.cell? ⟨b, o + j * 2, none⟩ = some (.int .i64 x.tx) ∧ w.cell? ⟨b, o + j * 2 + 1, none⟩ = some (.slice x.A x.n x.c)
  row : ∀ x ∈ l, Il w x.A x.n x.c x.zs
theorem Wl.nil (w : World) (A : Option Addr) (c : Nat) : Wl w A 0 c [] := ⟨rfl, Nat.zero_le _, fun h => absurd h (by omega), by simp⟩
theorem Wl.keep {w w' : World} {A : Option Addr} {n c : Nat} {l : List Wt} (h : Wl w A n c l) (hm : Mod (fun _ => False) w w') : Wl w' A n c l := by
  refine ⟨h.len, h.cap, fun hn => ?_, fun x hx => (h.row x hx).keep hm⟩
  obtain ⟨b, o, hA, hc⟩ := h.at_ hn
  have k : ∀ (p : Addr) (v : Value), w.cell? p = some v → w'.cell? p = some v := fun p v hv => (World.cell?_of_block (hm.block p.block (World.block_lt_of_cell? w _ hv) id)).trans hv
  exact ⟨b, o, hA, fun j x hx => ⟨k _ _ (hc j x hx).1, k _ _ (hc j x hx).2⟩⟩
theorem Wl.drew {w : World} {A : Option Addr} {n c : Nat} {l : List Wt} (h : Wl w A n c l) : Wl w.drew A n c l := h.keep (Mod.refl _ w).drew
/-- Its numbers are of 64 bits. -/
def Wt.ok (x : Wt) : Prop := I64 x.tx ∧ ∀ z ∈ x.zs, I64 z
theorem ps_len (l : List Wt) : (ps l).length = l.length := by simp [ps]
theorem ps_take (l : List Wt) (j : Nat) : ps (l.take j) = (ps l).take j := by simp [ps, List.map_take]
theorem ps_at {l : List Wt} {j : Nat} {x : Wt} (h : l[j]? = some x) : (ps l)[j]? = some x.p := by simp [ps, h]
theorem edg_i64 {l : List Wt} (h : ∀ x ∈ l, x.ok) {a b : Int} (e : (a, b) ∈ edg (ps l)) : I64 a ∧ I64 b := by
  obtain ⟨p, hp, e1, hb⟩ := mem_edg.1 e
  obtain ⟨x, hx, rfl⟩ := List.mem_map.1 hp
  exact ⟨by rw [← e1]; exact (h x hx).1, (h x hx).2 b hb⟩
theorem keys_i64 {l : List Wt} (h : ∀ x ∈ l, x.ok) {a : Int} (e : a ∈ keys (ps l)) : I64 a := by
  obtain ⟨p, hp, rfl⟩ := List.mem_map.1 e
  obtain ⟨x, hx, rfl⟩ := List.mem_map.1 hp
  exact (h x hx).1
/-- Not too many. -/
structure Few (l : List Wt) : Prop where
  n : l.length ≤ 1000
  e : (edg (ps l)).length ≤ 1000
theorem zs_le {l : List Wt} {x : Wt} (hx : x ∈ l) : x.zs.length ≤ (edg (ps l)).length := by
  induction l with
  | nil => cases hx
  | cons y l ih =>
    have e2 : edg (ps (y :: l)) = y.zs.map (fun z => (y.tx, z)) ++ edg (ps l) := by simp [edg, ps, Wt.p]
    rw [e2, List.length_append, List.length_map]
    rcases List.mem_cons.1 hx with rfl | h
    · omega
    · have := ih h; omega

/-! ### Maps that are keyed by numbers -/
theorem keyed : Keyed Try.prog 3 := Maps.int_keyed Try.underlying3
/-- An element as it is. -/
def rawE (v : Value) : Option (DataW Value × List MemPlace) := some (.held v, [])
abbrev kL (a : Int) : Lit := .int .i64 a
theorem key_of {a : Int} (h : I64 a) : keyOf Try.prog 3 (.int .i64 a) = some (kL a) := Maps.keyOf_int_mk Try.underlying3 h.wf
theorem kL_key {a : Int} (h : I64 a) : WideAt.IsKeyLit (kL a) := keyed.key (key_of h)
theorem kL_ne {a b : Int} (h : a ≠ b) : kL a ≠ kL b := fun e => h (by injection e)
/-- What the datum says of each number. -/
def Says (D : DataW Value) (f : Int → Option Value) : Prop :=
  ∀ a, (f a = none → Maps.has D (kL a) = false) ∧ ∀ v, f a = some v → Maps.has D (kL a) = true ∧ ∀ z, D.atKey (kL a) z = .held v
/-- Block b is a map of at most n entries, at a the element f a. -/
def Mp (w : World) (b n : Nat) (f : Int → Option Value) : Prop := (∃ D, w.ownsMap Try.prog 3 rawE b n D ∧ Says D f) ∧ ∀ a v, f a = some v → I64 a
def upd (f : Int → Option Value) (a : Int) (o : Option Value) : Int → Option Value := fun x => if x = a then o else f x
theorem upd_same (f : Int → Option Value) (a : Int) (o : Option Value) : upd f a o a = o := by simp [upd]
theorem upd_other (f : Int → Option Value) {a x : Int} (o : Option Value) (h : x ≠ a) : upd f a o x = f x := by simp [upd, h]

section
variable {w w' : World} {b n : Nat} {f : Int → Option Value} {a : Int} {t e ty : TypeId}
theorem mp_made (w : World) : Mp (w.alloc (.map #[] 0)) w.heap.size 0 (fun _ => none) :=
  ⟨⟨_, World.ownsMap_made w _ _ _, fun a => ⟨fun _ => rfl, fun v h => by cases h⟩⟩, fun a v h => by cases h⟩
theorem Mp.mono {n' : Nat} (h : Mp w b n f) (hn : n ≤ n') : Mp w b n' f := ⟨h.1.imp fun _ hD => ⟨hD.1.mono hn, hD.2⟩, h.2⟩
theorem Mp.lt (h : Mp w b n f) : b < w.heap.size := by obtain ⟨⟨D, hD, _⟩, _⟩ := h; exact hD.lt
theorem Mp.mod {F : Nat → Prop} (h : Mp w b n f) (hm : Mod F w w') (hF : ¬ F b) : Mp w' b n f := by
  obtain ⟨⟨D, ⟨es, clock, hb, r⟩, hs⟩, hi⟩ := h
  exact ⟨⟨D, ⟨es, clock, (hm.block b (Array.getElem?_eq_some_iff.1 hb).1 hF).trans hb, r⟩, hs⟩, hi⟩
theorem Mp.keep (h : Mp w b n f) (hm : Mod (fun _ => False) w w') : Mp w' b n f := h.mod hm id
theorem Mp.drew (h : Mp w b n f) : Mp w.drew b n f := h
theorem Mp.drewN (h : Mp w b n f) (k : Nat) : Mp (w.drewN k) b n f := h
theorem mod_of_turned (h : w.mapTurned w' b) : Mod (fun k => k = b) w w' := by
  obtain ⟨es, clock, es', clock', hb, rfl⟩ := h
  exact ⟨rfl, rfl, rfl, by simp [setBlock], fun i _ hi => heap_setBlock_other hb _ hi⟩
theorem size_of_turned (h : w.mapTurned w' b) : w'.heap.size = w.heap.size := by
  obtain ⟨es, clock, es', clock', hb, rfl⟩ := h
  simp [setBlock]

/-- m[a]. -/
theorem Mp.look (h : Mp w b n f) (ht : Try.prog.underlying t = some (.map 3 e)) {z : Value} (hz : (zeroValue e).run Try.prog w = .ok z w) (ha : I64 a) :
    (Instr.lookup t (.map (some b)) (.int .i64 a) false).run Try.prog w = .ok ((f a).getD z) w := by
  obtain ⟨⟨D, hD, hs⟩, _⟩ := h
  obtain ⟨v, ps, hr, hv⟩ := hD.lookup keyed ht hz (zd := .held z) (zp := []) rfl (key_of ha)
  rw [hr]
  unfold rawE at hv
  simp only [Option.some.injEq, Prod.mk.injEq] at hv
  cases hf : f a with
  | none =>
    have := hv.1
    rw [Maps.atKey_of_not_has ((hs a).1 hf)] at this
    injection this with this
    rw [this]; rfl
  | some u =>
    have := hv.1
    rw [((hs a).2 u hf).2] at this
    injection this with this
    rw [this]; rfl
/-- _, ok := m[a]. -/
theorem Mp.look2 (h : Mp w b n f) (ht : Try.prog.underlying t = some (.map 3 e)) {z : Value} (hz : (zeroValue e).run Try.prog w = .ok z w) (ha : I64 a) :
    (Instr.lookup t (.map (some b)) (.int .i64 a) true).run Try.prog w = .ok (.tuple #[(f a).getD z, .bool (f a).isSome]) w := by
  obtain ⟨⟨D, hD, hs⟩, _⟩ := h
  obtain ⟨v, ps, hr, hv⟩ := hD.look_ok keyed ht hz (zd := .held z) (zp := []) rfl (key_of ha)
  rw [hr]
  unfold rawE at hv
  simp only [Option.some.injEq, Prod.mk.injEq] at hv
  cases hf : f a with
  | none =>
    have := hv.1
    rw [Maps.atKey_of_not_has ((hs a).1 hf)] at this
    injection this with this
    rw [this, (hs a).1 hf]; rfl
  | some u =>
    have := hv.1
    rw [((hs a).2 u hf).2] at this
    injection this with this
    rw [this, ((hs a).2 u hf).1]; rfl
theorem Says.put_ {D : DataW Value} (hs : Says D f) (hm : Maps.IsMap D) (ha : I64 a) (v : Value) : Says (D.put (kL a) (.held v)) (upd f a (some v)) := by
  intro x
  by_cases hx : x = a
  · subst hx
    rw [upd_same]
    refine ⟨fun e => (by cases e), fun u e => ?_⟩
    injection e with e
    subst e
    exact ⟨Maps.has_put_same hm (kL_key ha) _, fun z => Maps.atKey_put_same hm (kL_key ha) _ z⟩
  · rw [upd_other _ _ hx]
    refine ⟨fun e => (Maps.has_put_other (kL_ne hx) _).trans ((hs x).1 e), fun u e => ⟨(Maps.has_put_other (kL_ne hx) _).trans ((hs x).2 u e).1, fun z => ?_⟩⟩
    rw [Maps.atKey_put_other (kL_ne hx)]
    exact ((hs x).2 u e).2 z
theorem Says.del {D : DataW Value} (hs : Says D f) (a : Int) : Says (D.del (kL a)) (upd f a none) := by
  intro x
  by_cases hx : x = a
  · subst hx
    rw [upd_same]
    exact ⟨fun _ => Maps.has_del_same, fun u e => (by cases e)⟩
  · rw [upd_other _ _ hx]
    refine ⟨fun e => (Maps.has_del_other (kL_ne hx)).trans ((hs x).1 e), fun u e => ⟨(Maps.has_del_other (kL_ne hx)).trans ((hs x).2 u e).1, fun z => ?_⟩⟩
    rw [Maps.atKey_del_other (kL_ne hx)]
    exact ((hs x).2 u e).2 z
theorem upd_i64 (hi : ∀ a v, f a = some v → I64 a) (ha : I64 a) (o : Option Value) : ∀ x v, upd f a o x = some v → I64 x := by
  intro x v h
  by_cases hx : x = a
  · rw [hx]; exact ha
  · rw [upd_other _ _ hx] at h; exact hi x v h
/-- m[a] = v. -/
theorem Mp.store (h : Mp w b n f) (ht : Try.prog.underlying t = some (.map 3 e)) (hn : n < maxLen) (ha : I64 a) (v : Value) :
    ∃ w', (Instr.mapUpdate t (.map (some b)) (.int .i64 a) v).run Try.prog w = .ok () w' ∧ Mp w' b (n + 1) (upd f a (some v)) ∧ Mod (fun k => k = b) w w' ∧ w'.heap.size = w.heap.size := by
  obtain ⟨⟨D, hD, hs⟩, hi⟩ := h
  obtain ⟨w', hr, h1, h2⟩ := hD.store keyed ht hn (key_of ha) (val := v) (d := .held v) (ps := []) rfl
  exact ⟨w', hr, ⟨⟨_, h1, hs.put_ hD.isMap ha v⟩, upd_i64 hi ha _⟩, mod_of_turned h2, size_of_turned h2⟩
/-- delete(m, a). -/
theorem Mp.drop (h : Mp w b n f) (ht : Try.prog.underlying t = some (.map 3 e)) (ha : I64 a) (ty : TypeId) :
    ∃ w', (Builtin.delete_ #[t, 3] ty #[.map (some b), .int .i64 a]).run Try.prog w = .ok (.tuple #[]) w' ∧ Mp w' b n (upd f a none) ∧ Mod (fun k => k = b) w w' ∧ w'.heap.size = w.heap.size := by
  obtain ⟨⟨D, hD, hs⟩, hi⟩ := h
  obtain ⟨w', hr, h1, h2⟩ := hD.drop keyed ht (key_of ha) ty
  exact ⟨w', hr, ⟨⟨_, h1, hs.del a⟩, upd_i64 hi ha _⟩, mod_of_turned h2, size_of_turned h2⟩
/-- A key that is there is a number. -/
theorem has_num {D : DataW Value} {m : Nat} (hD : w.ownsMap Try.prog 3 rawE b m D) {kl : Lit} (h : Maps.has D kl = true) : ∃ a, kl = kL a ∧ I64 a := by
  obtain ⟨es, clock, hb, F, hs, rfl⟩ := hD
  obtain ⟨p, hp, hpk⟩ := List.any_eq_true.1 h
  obtain ⟨x, hx, rfl⟩ := List.mem_map.1 (mem_sorted.1 hp)
  obtain ⟨y, hy⟩ := F.reads x hx
  obtain ⟨a, _, e2, hw⟩ := Maps.keyOf_int_inv Try.underlying3 (rd_key hy)
  have e1 := WideAt.sameKey_eq hpk
  rw [rg_of hy] at e1
  exact ⟨a, e1.symm.trans e2, I64.of_wf hw⟩
/-- len(m) == 0. -/
theorem Mp.len (h : Mp w b n f) (ht : Try.prog.underlying t = some (.map 3 e)) : ∃ k : Nat, (∀ ty, (Builtin.len_ #[t] ty #[.map (some b)]).run Try.prog w = .ok (.int .i64 k) w) ∧ (k = 0 ↔ ∀ a, f a = none) := by
  obtain ⟨⟨D, hD, hs⟩, _⟩ := h
  refine ⟨_, fun ty => hD.len ht ty, ?_, ?_⟩
  · intro h0 a
    cases hf : f a with
    | none => rfl
    | some v =>
      have := ((hs a).2 v hf).1
      obtain ⟨es, rfl⟩ := hD.isMap
      have he : es = [] := List.eq_nil_of_length_eq_zero h0
      subst he
      cases this
  · intro hall
    obtain ⟨es, he, _, hk⟩ := hD.entries keyed
    subst he
    cases es with
    | nil => rfl
    | cons p r =>
      have hp : Maps.has (DataW.map (p :: r)) p.1 = true := List.any_eq_true.2 ⟨p, by simp, WideAt.sameKey_self (hk p (by simp))⟩
      obtain ⟨a, ea, _⟩ := has_num hD hp
      rw [ea, (hs a).1 (hall a)] at hp
      cases hp
end

/-- A range over a map under way: who is still to come. -/
def Mr (w : World) (b r n : Nat) (f : Int → Option Value) (left : Int → Bool) (cnt : Nat) : Prop :=
  ∃ D lf, w.ranges Try.prog 3 rawE b r n D lf cnt ∧ Says D f ∧ ∀ a, lf (kL a) = left a
section
variable {w w' : World} {b r n cnt : Nat} {f : Int → Option Value} {left : Int → Bool}
theorem Mr.mod {F : Nat → Prop} (h : Mr w b r n f left cnt) (hm : Mod F w w') (hb : ¬ F b) (hr : ¬ F r) : Mr w' b r n f left cnt := by
  obtain ⟨D, lf, ⟨es, clock, since, seen, c0, h1, h2, h3, h4, h5, rest⟩, hs, hl⟩ := h
  exact ⟨D, lf, ⟨es, clock, since, seen, c0, (hm.block b (Array.getElem?_eq_some_iff.1 h1).1 hb).trans h1, h2, h3, h4, (hm.block r (Array.getElem?_eq_some_iff.1 h5).1 hr).trans h5, rest⟩, hs, hl⟩
theorem Mr.lt (h : Mr w b r n f left cnt) : r < w.heap.size := by obtain ⟨D, lf, h, _⟩ := h; exact h.lt
theorem Mr.left_ (h : Mr w b r n f left cnt) : w.rangeLeft b r = cnt := by obtain ⟨D, lf, h, _⟩ := h; exact h.left_eq

variable {P : Program} {ops : Array Oper} {rest : List Oper} {o : Oper} {ac : Act} {Q : Exit → Act → World → Prop}
/-- range m. -/
theorem wpList_range_mp (hg : o.guard = none) (m : Operand) {t e : TypeId} (hop : o.op = Op.range t m) (ht : Try.prog.underlying t = some (.map 3 e))
    (hm : ac.eval m = .map (some b)) (h : Mp w b n f)
    (hK : ∀ w' cnt, Mr w' b w.heap.size n f (fun a => (f a).isSome) cnt → Mod (fun _ => False) w w' → w'.heap.size = w.heap.size + 1 → wpList Try.prog ops Q rest (ac.put o.dst (.pointer (some ⟨w.heap.size, 0, none⟩))) w') :
    wpList Try.prog ops Q (o :: rest) ac w := by
  obtain ⟨⟨D, hD, hs⟩, _⟩ := h
  refine wpList_range_own w hg m t hop 3 e keyed ht rawE b n D hm hD fun w' h1 h2 h3 => hK w' _ ⟨D, _, h1, hs, fun a => ?_⟩ ⟨h2.os, h2.tape, h2.output, h2.size, fun i hi _ => h2.block i hi (by simp)⟩ h3
  dsimp only
  cases hf : f a with
  | none => rw [(hs a).1 hf]; rfl
  | some v => rw [((hs a).2 v hf).1]; rfl
/-- The step. -/
theorem wpList_next_mp (hg : o.guard = none) (it : Operand) (hop : o.op = Op.next it false) (hit : ac.eval it = .pointer (some ⟨r, 0, none⟩)) (h : Mr w b r n f left cnt)
    (hDone : (∀ a, left a = false) → wpList Try.prog ops Q rest (ac.put o.dst (.tuple #[.bool false])) w)
    (hMore : ∀ (x : Int) (v : Value) (w' : World) (cnt' : Nat), I64 x → left x = true → f x = some v → Mr w' b r n f (fun a => left a && !(a == x)) cnt' → cnt' < cnt → Mod (fun k => k = r) w w' → w'.heap.size = w.heap.size →
      (Instr.entry (.pointer (some ⟨r, 0, none⟩))).run Try.prog w' = .ok (.tuple #[.int .i64 x, v]) w' → wpList Try.prog ops Q rest (ac.put o.dst (.tuple #[.bool true, .int .i64 x, v])) w') :
    wpList Try.prog ops Q (o :: rest) ac w := by
  obtain ⟨D, lf, hr, hs, hl⟩ := h
  refine wpList_next_ranges w hg it hop 3 keyed rawE (Value.int .i64) (fun v : Value => v) (fun key kl hk => ?_) (fun v y _ => ⟨v, rfl⟩) b r n D lf cnt hit hr (fun _ h0 => hDone (fun a => by rw [← hl]; exact h0 _)) ?_
  · obtain ⟨x, rfl, _⟩ := Maps.keyOf_int_inv Try.underlying3 hk
    exact ⟨x, rfl⟩
  · intro x v kl y w' cnt' hk hlk hv hat hrg hlt hgr hsz hen
    obtain ⟨x', ex, rfl, hw⟩ := Maps.keyOf_int_inv Try.underlying3 hk
    injection ex with _ ex
    subst ex
    have hlx : left x = true := by rw [← hl]; exact hlk
    have hfx : f x = some v := by
      cases hf : f x with
      | none =>
        have h1 := Maps.atKey_of_not_has ((hs x).1 hf) (DataW.lit (.bool true))
        have h2 := Maps.atKey_of_not_has ((hs x).1 hf) (DataW.lit (.bool false))
        rw [hat] at h1 h2
        rw [h1] at h2
        cases h2
      | some u =>
        have h1 := ((hs x).2 u hf).2 .nil
        rw [hat] at h1
        unfold rawE at hv
        simp only [Option.some.injEq] at hv
        rw [← hv] at h1
        injection h1 with h1
        rw [h1]
    refine hMore x v w' cnt' (I64.of_wf hw) hlx hfx ⟨D, _, hrg, hs, fun a => ?_⟩ hlt ⟨hgr.os, hgr.tape, hgr.output, hgr.size, fun i hi hne => hgr.block i hi (fun e => hne (Option.some.inj e))⟩ hsz hen
    dsimp only
    rw [hl]
    congr 2
    by_cases ha : a = x
    · subst ha
      rw [WideAt.sameKey_self (kL_key (I64.of_wf hw))]; simp
    · rw [Maps.sameKey_ne (kL_ne ha)]; simp [ha]
end

/-! ### At the operation, for the walk -/
section
variable {w : World} {b n : Nat} {f : Int → Option Value} {ops : Array Oper} {rest : List Oper} {o : Oper} {ac : Act} {Q : Exit → Act → World → Prop} {t e : TypeId} {a : Int}
theorem wpList_store_mp (hg : o.guard = none) (m x v : Operand) (hop : o.op = Op.mapUpdate t m x v) (ht : Try.prog.underlying t = some (.map 3 e)) (hm : ac.eval m = .map (some b)) (h : Mp w b n f) (hn : n < maxLen)
    {val : Value} (hx : ac.eval x = .int .i64 a) (hv : ac.eval v = val) (ha : I64 a)
    (hK : ∀ w', Mp w' b (n + 1) (upd f a (some val)) → Mod (fun k => k = b) w w' → w'.heap.size = w.heap.size → wpList Try.prog ops Q rest (ac.put o.dst undef) w') :
    wpList Try.prog ops Q (o :: rest) ac w := by
  refine wpList_plain hg fun K' hK' => ?_
  obtain ⟨w', hr, r1, r2, r3⟩ := h.store ht hn ha val
  unfold Oper.wp
  simp [execOp, hop, hm, hx, hv, hr, Result.andThen]
  exact hK' _ _ (hK w' r1 r2 r3)
theorem wpList_delete_mp (hg : o.guard = none) (m x : Operand) (hop : o.op = Op.call { callee := Callee.builtin Builtin.delete, args := #[m, x], argTypes := #[t, 3] })
    (ht : Try.prog.underlying t = some (.map 3 e)) (hm : ac.eval m = .map (some b)) (h : Mp w b n f) (hx : ac.eval x = .int .i64 a) (ha : I64 a)
    (hK : ∀ w', Mp w' b n (upd f a none) → Mod (fun k => k = b) w w' → w'.heap.size = w.heap.size → wpList Try.prog ops Q rest (ac.put o.dst (.tuple #[])) w') :
    wpList Try.prog ops Q (o :: rest) ac w := by
  refine wpList_plain hg fun K' hK' => ?_
  obtain ⟨w', hr, r1, r2, r3⟩ := h.drop ht ha o.type
  unfold Oper.wp
  simp [execOp, hop, resolve, invoke, builtin, hm, hx, hr, Result.andThen]
  exact hK' _ _ (hK w' r1 r2 r3)
variable {F : Fence} {nF : Nat}
theorem wpListIn_store_mp (hg : o.guard = none) (m x v : Operand) (hop : o.op = Op.mapUpdate t m x v) (ht : Try.prog.underlying t = some (.map 3 e)) (hm : ac.eval m = .map (some b)) (h : Mp w b n f) (hn : n < maxLen)
    {val : Value} (hx : ac.eval x = .int .i64 a) (hv : ac.eval v = val) (ha : I64 a)
    (hK : ∀ w', Mp w' b (n + 1) (upd f a (some val)) → Mod (fun k => k = b) w w' → w'.heap.size = w.heap.size → wpListIn F nF Try.prog ops Q rest (ac.put o.dst undef) w') :
    wpListIn F nF Try.prog ops Q (o :: rest) ac w := by
  refine wpListIn_plain hg fun K' hK' => ?_
  obtain ⟨w', hr, r1, r2, r3⟩ := h.store ht hn ha val
  unfold Oper.wpIn
  refine ⟨by simp [Oper.about, hop], ?_⟩
  rw [Oper.semAt_plain F _ _ (by rw [hop]; intro c hc'; cases hc')]
  simp [execOp, hop, hm, hx, hv, hr, Result.andThen]
  exact hK' _ _ (hK w' r1 r2 r3)
end
end Go.Proofs.Ytbdfolopnocjmaa
