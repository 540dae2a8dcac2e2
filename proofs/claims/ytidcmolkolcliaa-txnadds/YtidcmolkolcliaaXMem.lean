/-
  Memory of package txn: numbers, values, changes, transactions: by value, in boxes, in slices, in rows of the call's own.
-/
import Derived.Test.YtidcmolkolcliaaXMath
import Derived.Test.YtidcmolkolcliaaSame
import Derived.Test.YtidcmolkolcliaaRowM
import Derived.Test.YtidcmolkolcliaaRows
namespace Go.Proofs.Ytidcmolkolcliaa
open Go Go.RowKit

/-! ### Numbers -/
def ivs (zs : List Int) : List Value := zs.map (Value.int .i64)
theorem ivs_len (zs : List Int) : (ivs zs).length = zs.length := by simp [ivs]
theorem ivs_append (a b : List Int) : ivs (a ++ b) = ivs a ++ ivs b := by simp [ivs]
/-- A row of numbers of the call's own. -/
def OwI (w : World) (base : Nat) (A : Option Addr) (n c : Nat) (zs : List Int) : Prop := OwV w base 3 A n c (ivs zs)
/-- The slice value '.slice A n c' reads as the numbers zs. -/
def Il (w : World) (A : Option Addr) (n c : Nat) (zs : List Int) : Prop :=
  zs.length = n ∧ n ≤ c ∧ (0 < n → ∃ b o, A = some ⟨b, o, none⟩ ∧ ∀ j z, zs[j]? = some z → w.cell? ⟨b, o + j, none⟩ = some (.int .i64 z))
section
variable {w w' : World} {base : Nat} {A : Option Addr} {n c : Nat} {zs : List Int}
theorem OwI.len (h : OwI w base A n c zs) : zs.length = n := by have := OwV.len h; rwa [ivs_len] at this
theorem OwI.keep (h : OwI w base A n c zs) (hm : Mod (fun _ => False) w w') : OwI w' base A n c zs := OwV.mod h hm (fun _ _ => id)
theorem OwI.nil (w : World) (base : Nat) : OwI w base none 0 0 [] := OwV.nil w base _
theorem Il.len (h : Il w A n c zs) : zs.length = n := h.1
theorem Il.cap (h : Il w A n c zs) : n ≤ c := h.2.1
theorem Il.nil (w : World) (A : Option Addr) (c : Nat) : Il w A 0 c [] := ⟨rfl, Nat.zero_le _, fun h => absurd h (by omega)⟩
theorem Il.lt (h : Il w A n c zs) (hn : 0 < n) : ∃ b o, A = some ⟨b, o, none⟩ ∧ b < w.heap.size := by
  obtain ⟨b, o, rfl, hc⟩ := h.2.2 hn
  exact ⟨b, o, rfl, World.block_lt_of_cell? w _ (hc 0 _ (List.getElem?_eq_getElem (by rw [h.1]; exact hn)))⟩
theorem Il.mod {F : Nat → Prop} (h : Il w A n c zs) (hm : Mod F w w') (hF : ∀ k, blkOf A = some k → 0 < n → ¬ F k) : Il w' A n c zs := by
  refine ⟨h.1, h.2.1, fun hn => ?_⟩
  obtain ⟨b, o, rfl, hc⟩ := h.2.2 hn
  refine ⟨b, o, rfl, fun j z hz => ?_⟩
  have hb := World.block_lt_of_cell? w _ (hc j z hz)
  exact (World.cell?_of_block (hm.block b hb (hF b rfl hn))).trans (hc j z hz)
theorem Il.keep (h : Il w A n c zs) (hm : Mod (fun _ => False) w w') : Il w' A n c zs := h.mod hm (fun _ _ _ => id)
theorem Il.pre (h : Il w A n c zs) {k : Nat} (hk : k ≤ n) (c' : Nat) (hc : k ≤ c') : Il w A k c' (zs.take k) := by
  have := h.1
  refine ⟨by simp; omega, hc, fun hp => ?_⟩
  obtain ⟨b, o, hA, hc⟩ := h.2.2 (by omega)
  refine ⟨b, o, hA, fun j z hz => hc j z ?_⟩
  rw [List.getElem?_take] at hz
  split at hz
  · exact hz
  · cases hz
theorem OwI.il (h : OwI w base A n c zs) : Il w A n c zs := by
  refine ⟨h.len, OwV.cap h, fun hn => ?_⟩
  obtain ⟨g, rfl, hc⟩ := OwV.cells h hn
  refine ⟨g, 0, rfl, fun j z hz => ?_⟩
  have hl := h.len
  have hj := (List.getElem?_eq_some_iff.1 hz).1
  rw [Nat.zero_add, hc j (by omega), ivs, List.getElem?_map, hz]
  rfl
theorem Il.src (h : Il w A n c zs) : Src w A n (ivs zs) := by
  refine ⟨by rw [ivs_len]; exact h.1, fun u hu => ?_, fun hn => ?_⟩
  · obtain ⟨x, _, rfl⟩ := List.mem_map.1 hu; rfl
  · obtain ⟨b, o, rfl, hc⟩ := h.2.2 hn
    refine ⟨_, rfl, fun j u hu => ?_⟩
    rw [ivs, List.getElem?_map] at hu
    cases hz : zs[j]? with
    | none => rw [hz] at hu; cases hu
    | some z =>
      rw [hz] at hu
      cases hu
      have hadd : (⟨b, o, none⟩ : Addr).add j = ⟨b, o + j, none⟩ := by unfold Addr.add; split <;> simp_all
      rw [hadd]
      exact hc j z hz
end
theorem intElem : Elem Try.prog 23 3 (.int .i64 0) 8 := Elem.mk_ Try.underlying23 rfl (by kernel_rfl)

/-! ### Values -/
structure VlD where
  is : Bool
  B : Option Addr
  m : Nat
  d : Nat
  vs : List UInt8
abbrev VlD.v (x : VlD) : Value := .agg #[.bool x.is, .slice x.B x.m x.d]
def VlD.p (x : VlD) : Vp := (x.is, x.vs)
def VlD.At (w : World) (x : VlD) : Prop := Sl w x.B x.m x.d x.vs
def VlD.none : VlD := ⟨false, Option.none, 0, 0, []⟩
def VlD.Own (w : World) (base : Nat) (x : VlD) : Prop := OwV w base 5 x.B x.m x.d (x.vs.map bv)
theorem VlD.At.keep {w w' : World} {x : VlD} (h : x.At w) (hm : Mod (fun _ => False) w w') : x.At w' := Sl.mod h hm (fun _ _ _ => id)
theorem VlD.At.len {w : World} {x : VlD} (h : x.At w) : x.vs.length = x.m := h.1
theorem VlD.none_at (w : World) : VlD.none.At w := Sl.none_ w _ _
theorem VlD.Own.at_ {w : World} {base : Nat} {x : VlD} (h : x.Own w base) : x.At w := OwV.sl h
theorem VlD.Own.keep {w w' : World} {base : Nat} {x : VlD} (h : x.Own w base) (hm : Mod (fun _ => False) w w') : x.Own w' base := OwV.mod h hm (fun _ _ => id)
/-- It stays where blocks of another type turn. -/
theorem VlD.Own.far {F : Nat → Prop} {w w' : World} {base : Nat} {x : VlD} (h : x.Own w base) (hm : Mod F w w') (hF : ∀ k, F k → ∃ cs t fr, w.heap[k]? = some (.cells cs t fr) ∧ t ≠ 5) : x.Own w' base :=
  OwV.mod h hm (fun k hk hFk => by
    obtain ⟨_, cur, hc, _⟩ := OwV.block h hk
    obtain ⟨cs, t, fr, hb, ht⟩ := hF k hFk
    rw [hc] at hb
    injection hb with hb
    injection hb with _ hb
    exact ht hb.symm)

/-! ### Changes -/
structure ChD where
  lsn : Int
  page : Int
  key : Int
  o : VlD
  v : VlD
def ChD.p (x : ChD) : Cp := ⟨x.lsn, x.page, x.key, x.o.p, x.v.p⟩
abbrev ChD.cells (x : ChD) : Array Value := #[.int .i64 x.lsn, .int .i64 x.page, .int .i64 x.key, .bool x.o.is, .slice x.o.B x.o.m x.o.d, .bool x.v.is, .slice x.v.B x.v.m x.v.d]
abbrev ChD.val (x : ChD) : Value := .agg x.cells
def ChD.zero : ChD := ⟨0, 0, 0, VlD.none, VlD.none⟩
structure ChD.At (w : World) (x : ChD) : Prop where
  o : x.o.At w
  v : x.v.At w
structure ChD.Own (w : World) (base : Nat) (x : ChD) : Prop where
  o : x.o.Own w base
  v : x.v.Own w base
theorem ChD.At.keep {w w' : World} {x : ChD} (h : x.At w) (hm : Mod (fun _ => False) w w') : x.At w' := ⟨h.o.keep hm, h.v.keep hm⟩
theorem ChD.Own.keep {w w' : World} {base : Nat} {x : ChD} (h : x.Own w base) (hm : Mod (fun _ => False) w w') : x.Own w' base := ⟨h.o.keep hm, h.v.keep hm⟩
theorem ChD.Own.at_ {w : World} {base : Nat} {x : ChD} (h : x.Own w base) : x.At w := ⟨h.o.at_, h.v.at_⟩
theorem ChD.zero_at (w : World) : ChD.zero.At w := ⟨VlD.none_at w, VlD.none_at w⟩
theorem ChD.Own.far {F : Nat → Prop} {w w' : World} {base : Nat} {x : ChD} (h : x.Own w base) (hm : Mod F w w') (hF : ∀ k, F k → ∃ cs t fr, w.heap[k]? = some (.cells cs t fr) ∧ t ≠ 5) : x.Own w' base := ⟨h.o.far hm hF, h.v.far hm hF⟩
/-- Its cells, from a place on. -/
structure ChD.Cells (w : World) (x : ChD) (b o : Nat) : Prop where
  c0 : w.cell? ⟨b, o, none⟩ = some (.int .i64 x.lsn)
  c1 : w.cell? ⟨b, o + 1, none⟩ = some (.int .i64 x.page)
  c2 : w.cell? ⟨b, o + 2, none⟩ = some (.int .i64 x.key)
  c3 : w.cell? ⟨b, o + 3, none⟩ = some (.bool x.o.is)
  c4 : w.cell? ⟨b, o + 4, none⟩ = some (.slice x.o.B x.o.m x.o.d)
  c5 : w.cell? ⟨b, o + 5, none⟩ = some (.bool x.v.is)
  c6 : w.cell? ⟨b, o + 6, none⟩ = some (.slice x.v.B x.v.m x.v.d)
theorem ChD.Cells.of {w : World} {x : ChD} {b o : Nat} (h : ∀ (j : Nat) (u : Value), x.cells[j]? = some u → w.cell? ⟨b, o + j, none⟩ = some u) : x.Cells w b o :=
  ⟨h 0 _ rfl, h 1 _ rfl, h 2 _ rfl, h 3 _ rfl, h 4 _ rfl, h 5 _ rfl, h 6 _ rfl⟩
theorem ChD.Cells.get {w : World} {x : ChD} {b o : Nat} (h : x.Cells w b o) {j : Nat} {u : Value} (hj : x.cells[j]? = some u) : w.cell? ⟨b, o + j, none⟩ = some u := by
  have hlt : j < 7 := (Array.getElem?_eq_some_iff.1 hj).1
  match j, hlt with
  | 0, _ => injection hj with e; subst e; exact h.c0
  | 1, _ => injection hj with e; subst e; exact h.c1
  | 2, _ => injection hj with e; subst e; exact h.c2
  | 3, _ => injection hj with e; subst e; exact h.c3
  | 4, _ => injection hj with e; subst e; exact h.c4
  | 5, _ => injection hj with e; subst e; exact h.c5
  | 6, _ => injection hj with e; subst e; exact h.c6
theorem ChD.Cells.keep {w w' : World} {x : ChD} {b o : Nat} (h : x.Cells w b o) (hk : w'.heap[b]? = w.heap[b]?) : x.Cells w' b o :=
  .of fun _ _ hu => (World.cell?_of_block hk).trans (h.get hu)
theorem ChD.Cells.lt {w : World} {x : ChD} {b o : Nat} (h : x.Cells w b o) : b < w.heap.size := World.block_lt_of_cell? w _ h.c0
/-- A change in a box. -/
def ChD.In (w : World) (x : ChD) (g : Nat) : Prop := w.heap[g]? = some (.cells x.cells 30 (0, 0))
section
variable {w w' : World} {x : ChD} {g : Nat}
theorem ChD.In.lt (h : x.In w g) : g < w.heap.size := (Array.getElem?_eq_some_iff.1 h).1
theorem ChD.In.fz (h : x.In w g) (i : Nat) : w.frozen? ⟨g, i, none⟩ = false := frozen_of_block h i
theorem ChD.In.cells (h : x.In w g) : w.cell? ⟨g, 0, none⟩ = some (.int .i64 x.lsn) ∧ w.cell? ⟨g, 1, none⟩ = some (.int .i64 x.page) ∧ w.cell? ⟨g, 2, none⟩ = some (.int .i64 x.key) ∧ w.cell? ⟨g, 3, none⟩ = some (.bool x.o.is) ∧ w.cell? ⟨g, 4, none⟩ = some (.slice x.o.B x.o.m x.o.d) ∧ w.cell? ⟨g, 5, none⟩ = some (.bool x.v.is) ∧ w.cell? ⟨g, 6, none⟩ = some (.slice x.v.B x.v.m x.v.d) := by
  refine ⟨?_, ?_, ?_, ?_, ?_, ?_, ?_⟩ <;> (rw [cell_of_row _ _ _ _ _ _ h]; rfl)
theorem ChD.In.mod {F : Nat → Prop} (h : x.In w g) (hm : Mod F w w') (hg : ¬ F g) : x.In w' g := (hm.block g h.lt hg).trans h
theorem ChD.In.keep (h : x.In w g) (hm : Mod (fun _ => False) w w') : x.In w' g := h.mod hm id
theorem ChD.In.new (w : World) (x : ChD) : x.In (w.alloc (.cells x.cells 30)) w.heap.size := heap_alloc_new w _
end
/-- Seven stores of one change, from a place on. -/
def stC (W : World) (g o : Nat) (y : ChD) : World := ((((((W.setCell ⟨g, o, none⟩ (.int .i64 y.lsn)).setCell ⟨g, o + 1, none⟩ (.int .i64 y.page)).setCell ⟨g, o + 2, none⟩ (.int .i64 y.key)).setCell ⟨g, o + 3, none⟩ (.bool y.o.is)).setCell ⟨g, o + 4, none⟩ (.slice y.o.B y.o.m y.o.d)).setCell ⟨g, o + 5, none⟩ (.bool y.v.is)).setCell ⟨g, o + 6, none⟩ (.slice y.v.B y.v.m y.v.d)
theorem Mod.one {F : Nat → Prop} {a w : World} (h : Mod F a w) {g : Nat} (hg : g < a.heap.size → F g) (i : Nat) (u : Value) : Mod F a (w.setCell ⟨g, i, none⟩ u) := h.setCell hg u
theorem stC_mod (W : World) (g o : Nat) (y : ChD) : Mod (fun k => k = g) W (stC W g o y) :=
  (((((((Mod.refl (fun k => k = g) W).one (fun _ => rfl) _ _).one (fun _ => rfl) _ _).one (fun _ => rfl) _ _).one (fun _ => rfl) _ _).one (fun _ => rfl) _ _).one (fun _ => rfl) _ _).one (fun _ => rfl) _ _
theorem ChD.In.set {w : World} {x : ChD} {g : Nat} (h : x.In w g) (y : ChD) : y.In (stC w g 0 y) g := by
  have k := heap_set (heap_set (heap_set (heap_set (heap_set (heap_set (heap_set h 0 (.int .i64 y.lsn)) 1 (.int .i64 y.page)) 2 (.int .i64 y.key)) 3 (.bool y.o.is)) 4 (.slice y.o.B y.o.m y.o.d)) 5 (.bool y.v.is)) 6 (.slice y.v.B y.v.m y.v.d)
  simp only [List.setIfInBounds_toArray, List.set_cons_zero, List.set_cons_succ] at k
  unfold ChD.In stC
  simp only [Nat.zero_add]
  exact k

/-! ### Slices of changes -/
structure Cs (w : World) (A : Option Addr) (n c : Nat) (l : List ChD) : Prop where
  len : l.length = n
  cap : n ≤ c
  cells : 0 < n → ∃ b o, A = some ⟨b, o, none⟩ ∧ ∀ (i : Nat) (x : ChD), l[i]? = some x → x.Cells w b (o + i * 7)
  ats : ∀ x ∈ l, x.At w
def pc (l : List ChD) : List Cp := l.map ChD.p
theorem pc_len (l : List ChD) : (pc l).length = l.length := by simp [pc]
theorem pc_take (l : List ChD) (k : Nat) : pc (l.take k) = (pc l).take k := by simp [pc, List.map_take]
theorem pc_at {l : List ChD} {j : Nat} {x : ChD} (h : l[j]? = some x) : (pc l)[j]? = some x.p := by simp [pc, h]
section
variable {w w' : World} {A : Option Addr} {n c : Nat} {l : List ChD}
theorem Cs.nil (w : World) (A : Option Addr) (c : Nat) : Cs w A 0 c [] := ⟨rfl, Nat.zero_le _, fun h => absurd h (by omega), by simp⟩
theorem Cs.keep (h : Cs w A n c l) (hm : Mod (fun _ => False) w w') : Cs w' A n c l := by
  refine ⟨h.len, h.cap, fun hp => ?_, fun x hx => (h.ats x hx).keep hm⟩
  obtain ⟨b, o, hA, hc⟩ := h.cells hp
  exact ⟨b, o, hA, fun i x hx => (hc i x hx).keep (hm.block b (hc i x hx).lt id)⟩
theorem Cs.pre (h : Cs w A n c l) {k : Nat} (hk : k ≤ n) (c' : Nat) (hc : k ≤ c') : Cs w A k c' (l.take k) := by
  have := h.len
  refine ⟨by simp; omega, hc, fun hp => ?_, fun x hx => h.ats x (List.mem_of_mem_take hx)⟩
  obtain ⟨b, o, hA, hc⟩ := h.cells (by omega)
  refine ⟨b, o, hA, fun i x hx => hc i x ?_⟩
  rw [List.getElem?_take] at hx
  split at hx
  · exact hx
  · cases hx
end

/-! ### Rows of changes of the call's own -/
theorem OwN.form {w : World} {A : Option Addr} {n c base : Nat} {e : TypeId} {size : Nat} {vs : List Value} (h : OwN w base e size A n c vs) : A = none ∨ ∃ b, A = some ⟨b, 0, none⟩ := by
  rcases h.2 with ⟨hv, _⟩ | ⟨g, cap, cur, hv, _⟩
  · injection hv with hA; exact .inl hA
  · injection hv with hA; exact .inr ⟨g, hA⟩
theorem OwN.open_ {w : World} {A : Option Addr} {n c base : Nat} {e : TypeId} {size : Nat} {vs : List Value} (h : OwN w base e size A n c vs) (hn : 0 < n) :
    ∃ g cur, A = some ⟨g, 0, none⟩ ∧ base ≤ g ∧ w.heap[g]? = some (.cells (List.toArray cur) e (0, 0)) ∧ n ≤ c ∧ c ≤ maxLen ∧ cur.length = c * size ∧ cur.take (n * size) = vs := by
  rcases h.2 with ⟨_, h0⟩ | ⟨g, cap, cur, hv, hb, hh, h1, h2, h3, h4⟩
  · omega
  · injection hv with hA _ hc
    subst hA; subst hc
    exact ⟨g, cur.toList, rfl, hb, by simpa using hh, h1, h2, by simpa using h3, h4⟩
theorem OwN.mk_ {w : World} {n c base g : Nat} {e : TypeId} {size : Nat} {vs cur : List Value} (hb : base ≤ g) (hh : w.heap[g]? = some (.cells (List.toArray cur) e (0, 0))) (h1 : n ≤ c) (h2 : c ≤ maxLen) (h3 : cur.length = c * size) (h4 : cur.take (n * size) = vs) (hv : vs.length = n * size) :
    OwN w base e size (some ⟨g, 0, none⟩) n c vs :=
  ⟨hv, .inr ⟨g, c, cur.toArray, rfl, hb, hh, h1, h2, by simpa using h3, by simpa using h4⟩⟩
theorem OwN.blk {w : World} {A : Option Addr} {n c base : Nat} {e : TypeId} {size : Nat} {vs : List Value} (h : OwN w base e size A n c vs) {k : Nat} (hk : blkOf A = some k) : ∃ cs, w.heap[k]? = some (.cells cs e (0, 0)) := by
  rcases h.2 with ⟨hv, _⟩ | ⟨g, cap, cur, hv, hb, hh, _⟩
  · injection hv with hA; subst hA; simp [blkOf] at hk
  · injection hv with hA
    subst hA
    simp [blkOf] at hk
    subst hk
    exact ⟨cur, hh⟩
def chc (x : ChD) : List Value := [.int .i64 x.lsn, .int .i64 x.page, .int .i64 x.key, .bool x.o.is, .slice x.o.B x.o.m x.o.d, .bool x.v.is, .slice x.v.B x.v.m x.v.d]
def chs (l : List ChD) : List Value := l.flatMap chc
theorem chs_cons (x : ChD) (l : List ChD) : chs (x :: l) = chc x ++ chs l := rfl
theorem chs_append (a b : List ChD) : chs (a ++ b) = chs a ++ chs b := List.flatMap_append
theorem chs_len : ∀ l : List ChD, (chs l).length = l.length * 7
  | [] => rfl
  | x :: l => by rw [chs_cons, List.length_append, chs_len l, List.length_cons]; simp [chc]; omega
theorem chs_get : ∀ (l : List ChD) (i : Nat) (x : ChD), l[i]? = some x → ∀ j, j < 7 → (chs l)[i * 7 + j]? = (chc x)[j]?
  | [], i, x, h, _, _ => by simp at h
  | y :: l, 0, x, h, j, hj => by
    rw [chs_cons, Nat.zero_mul, Nat.zero_add, List.getElem?_append_left (by simp [chc]; omega)]
    simp at h
    rw [h]
  | y :: l, i + 1, x, h, j, hj => by
    rw [chs_cons, List.getElem?_append_right (by simp [chc]; omega)]
    have e : (i + 1) * 7 + j - (chc y).length = i * 7 + j := by simp [chc]; omega
    rw [e]
    exact chs_get l i x (by simpa using h) j hj
theorem chs_one (l : List ChD) : ∀ u ∈ chs l, u.oneCell' = true := by
  intro u hu
  simp only [chs, List.mem_flatMap] at hu
  obtain ⟨x, _, hx⟩ := hu
  simp [chc] at hx
  rcases hx with rfl | rfl | rfl | rfl | rfl | rfl | rfl <;> rfl
theorem chs_set : ∀ (l : List ChD) (i : Nat) (x : ChD), i < l.length → (((((((chs l).set (i * 7) (.int .i64 x.lsn)).set (i * 7 + 1) (.int .i64 x.page)).set (i * 7 + 2) (.int .i64 x.key)).set (i * 7 + 3) (.bool x.o.is)).set (i * 7 + 4) (.slice x.o.B x.o.m x.o.d)).set (i * 7 + 5) (.bool x.v.is)).set (i * 7 + 6) (.slice x.v.B x.v.m x.v.d) = chs (l.set i x)
  | [], i, _, h => by simp at h
  | y :: l, 0, x, _ => by simp [chs_cons, chc]
  | y :: l, i + 1, x, h => by
    have ih := chs_set l i x (by simpa using h)
    rw [chs_cons, show (i + 1) * 7 = (chc y).length + i * 7 by simp [chc]; omega]
    simp only [Nat.add_assoc]
    rw [List.set_append_right _ _ (by omega), List.set_append_right _ _ (by omega), List.set_append_right _ _ (by omega), List.set_append_right _ _ (by omega), List.set_append_right _ _ (by omega), List.set_append_right _ _ (by omega), List.set_append_right _ _ (by omega)]
    simp only [Nat.add_sub_cancel_left]
    rw [ih]
    rfl
theorem Cs.src {w : World} {A : Option Addr} {n c : Nat} {l : List ChD} (h : Cs w A n c l) : SrcN w A n 7 (chs l) := by
  refine ⟨by rw [chs_len, h.len], chs_one l, fun hp => ?_⟩
  obtain ⟨b, o, rfl, hc⟩ := h.cells hp
  refine ⟨_, rfl, fun j u hu => ?_⟩
  have hj : j < l.length * 7 := by rw [← chs_len]; exact (List.getElem?_eq_some_iff.1 hu).1
  have hadd : (⟨b, o, none⟩ : Addr).add j = ⟨b, o + j, none⟩ := by unfold Addr.add; split <;> simp_all
  rw [hadd]
  obtain ⟨x, hx⟩ : ∃ x, l[j / 7]? = some x := ⟨_, List.getElem?_eq_getElem (by omega)⟩
  have g := chs_get l (j / 7) x hx (j % 7) (by omega)
  have e : j / 7 * 7 + j % 7 = j := by omega
  rw [e, hu] at g
  have := (hc _ x hx).get (j := j % 7) (u := u) (by rw [← Array.getElem?_toList]; exact g.symm)
  rwa [Nat.add_assoc, e] at this
abbrev OwC (w : World) (base : Nat) (A : Option Addr) (n c : Nat) (l : List ChD) : Prop := OwN w base 30 7 A n c (chs l)
theorem chElem : ElemN Try.prog 22 30 (.agg #[.int .i64 0, .int .i64 0, .int .i64 0, .bool false, .slice none 0 0, .bool false, .slice none 0 0]) 7 88 := ElemN.mk_ Try.underlying22 rfl (by decide) (by kernel_rfl)
section
variable {w w' : World} {base : Nat} {A : Option Addr} {n c : Nat} {l : List ChD}
theorem OwC.len (h : OwC w base A n c l) : l.length = n := by have := h.1; rw [chs_len] at this; omega
theorem OwC.cs (h : OwC w base A n c l) (ha : ∀ x ∈ l, x.At w) : Cs w A n c l := by
  refine ⟨OwC.len h, OwN.cap h, fun hp => ?_, ha⟩
  obtain ⟨g, rfl, hc⟩ := OwN.cells h hp
  refine ⟨g, 0, rfl, fun i x hx => .of fun j u hu => ?_⟩
  have hl := OwC.len h
  have hi := (List.getElem?_eq_some_iff.1 hx).1
  have hj : j < 7 := (Array.getElem?_eq_some_iff.1 hu).1
  have d := chs_get l i x hx j hj
  have d2 : (chc x)[j]? = some u := by rw [← Array.getElem?_toList] at hu; exact hu
  rw [Nat.zero_add, hc _ (by omega), d, d2]
end

/-! ### Transactions -/
structure TxD where
  id : Int
  st : Int
  f : Int
  l : Int
  A : Option Addr
  n : Nat
  c : Nat
  L : List ChD
  B : Option Addr
  m : Nat
  d : Nat
  S : List Int
def TxD.p (x : TxD) : Tp := ⟨x.id, x.st, x.f, x.l, pc x.L, x.S⟩
abbrev TxD.cells (x : TxD) : Array Value := #[.int .i64 x.id, .int .i64 x.st, .int .i64 x.f, .int .i64 x.l, .slice x.A x.n x.c, .slice x.B x.m x.d]
abbrev TxD.val (x : TxD) : Value := .agg x.cells
def TxD.zero : TxD := ⟨0, 0, 0, 0, none, 0, 0, [], none, 0, 0, []⟩
structure TxD.At (w : World) (x : TxD) : Prop where
  L : Cs w x.A x.n x.c x.L
  S : Il w x.B x.m x.d x.S
structure TxD.Own (w : World) (base : Nat) (x : TxD) : Prop where
  L : OwC w base x.A x.n x.c x.L
  vals : ∀ y ∈ x.L, y.Own w base
  S : OwI w base x.B x.m x.d x.S
def TxD.In (w : World) (x : TxD) (g : Nat) : Prop := w.heap[g]? = some (.cells x.cells 25 (0, 0))
section
variable {w w' : World} {x y : TxD} {g base : Nat}
theorem TxD.At.keep (h : x.At w) (hm : Mod (fun _ => False) w w') : x.At w' := ⟨h.L.keep hm, h.S.keep hm⟩
theorem TxD.At.nL (h : x.At w) : x.p.L.length = x.n := (pc_len _).trans h.L.len
theorem TxD.At.nS (h : x.At w) : x.p.S.length = x.m := h.S.len
theorem TxD.zero_at (w : World) : TxD.zero.At w := ⟨Cs.nil _ _ _, Il.nil _ _ _⟩
theorem TxD.zero_p : TxD.zero.p = noT := rfl
theorem TxD.Own.at_ (h : x.Own w base) : x.At w := ⟨OwC.cs h.L (fun y hy => (h.vals y hy).at_), OwI.il h.S⟩
theorem TxD.Own.keep (h : x.Own w base) (hm : Mod (fun _ => False) w w') : x.Own w' base := ⟨OwN.mod h.L hm (fun _ _ h => h), fun y hy => (h.vals y hy).keep hm, h.S.keep hm⟩
theorem TxD.In.lt (h : x.In w g) : g < w.heap.size := (Array.getElem?_eq_some_iff.1 h).1
theorem TxD.In.fz (h : x.In w g) (i : Nat) : w.frozen? ⟨g, i, none⟩ = false := frozen_of_block h i
theorem TxD.In.cells (h : x.In w g) : w.cell? ⟨g, 0, none⟩ = some (.int .i64 x.id) ∧ w.cell? ⟨g, 1, none⟩ = some (.int .i64 x.st) ∧ w.cell? ⟨g, 2, none⟩ = some (.int .i64 x.f) ∧ w.cell? ⟨g, 3, none⟩ = some (.int .i64 x.l) ∧ w.cell? ⟨g, 4, none⟩ = some (.slice x.A x.n x.c) ∧ w.cell? ⟨g, 5, none⟩ = some (.slice x.B x.m x.d) := by
  refine ⟨?_, ?_, ?_, ?_, ?_, ?_⟩ <;> (rw [cell_of_row _ _ _ _ _ _ h]; rfl)
theorem TxD.In.mod {F : Nat → Prop} (h : x.In w g) (hm : Mod F w w') (hg : ¬ F g) : x.In w' g := (hm.block g h.lt hg).trans h
theorem TxD.In.keep (h : x.In w g) (hm : Mod (fun _ => False) w w') : x.In w' g := h.mod hm (fun h => h)
theorem TxD.In.new (w : World) (x : TxD) : x.In (w.alloc (.cells x.cells 25)) w.heap.size := heap_alloc_new w _
end
/-- Six stores into a box. -/
def stT (W : World) (g : Nat) (y : TxD) : World := (((((W.setCell ⟨g, 0, none⟩ (.int .i64 y.id)).setCell ⟨g, 1, none⟩ (.int .i64 y.st)).setCell ⟨g, 2, none⟩ (.int .i64 y.f)).setCell ⟨g, 3, none⟩ (.int .i64 y.l)).setCell ⟨g, 4, none⟩ (.slice y.A y.n y.c)).setCell ⟨g, 5, none⟩ (.slice y.B y.m y.d)
theorem stT_mod (W : World) (g : Nat) (y : TxD) : Mod (fun k => k = g) W (stT W g y) :=
  ((((((Mod.refl (fun k => k = g) W).one (fun _ => rfl) _ _).one (fun _ => rfl) _ _).one (fun _ => rfl) _ _).one (fun _ => rfl) _ _).one (fun _ => rfl) _ _).one (fun _ => rfl) _ _
theorem TxD.In.set {w : World} {x : TxD} {g : Nat} (h : x.In w g) (y : TxD) : y.In (stT w g y) g := by
  have k := heap_set (heap_set (heap_set (heap_set (heap_set (heap_set h 0 (.int .i64 y.id)) 1 (.int .i64 y.st)) 2 (.int .i64 y.f)) 3 (.int .i64 y.l)) 4 (.slice y.A y.n y.c)) 5 (.slice y.B y.m y.d)
  simp only [List.setIfInBounds_toArray, List.set_cons_zero, List.set_cons_succ] at k
  exact k
/-- Its cells, from a place on. -/
structure TxD.Cells (w : World) (x : TxD) (b o : Nat) : Prop where
  c0 : w.cell? ⟨b, o, none⟩ = some (.int .i64 x.id)
  c1 : w.cell? ⟨b, o + 1, none⟩ = some (.int .i64 x.st)
  c2 : w.cell? ⟨b, o + 2, none⟩ = some (.int .i64 x.f)
  c3 : w.cell? ⟨b, o + 3, none⟩ = some (.int .i64 x.l)
  c4 : w.cell? ⟨b, o + 4, none⟩ = some (.slice x.A x.n x.c)
  c5 : w.cell? ⟨b, o + 5, none⟩ = some (.slice x.B x.m x.d)
theorem TxD.Cells.of {w : World} {x : TxD} {b o : Nat} (h : ∀ (j : Nat) (u : Value), x.cells[j]? = some u → w.cell? ⟨b, o + j, none⟩ = some u) : x.Cells w b o :=
  ⟨h 0 _ rfl, h 1 _ rfl, h 2 _ rfl, h 3 _ rfl, h 4 _ rfl, h 5 _ rfl⟩
theorem TxD.Cells.get {w : World} {x : TxD} {b o : Nat} (h : x.Cells w b o) {j : Nat} {u : Value} (hj : x.cells[j]? = some u) : w.cell? ⟨b, o + j, none⟩ = some u := by
  have hlt : j < 6 := (Array.getElem?_eq_some_iff.1 hj).1
  match j, hlt with
  | 0, _ => injection hj with e; subst e; exact h.c0
  | 1, _ => injection hj with e; subst e; exact h.c1
  | 2, _ => injection hj with e; subst e; exact h.c2
  | 3, _ => injection hj with e; subst e; exact h.c3
  | 4, _ => injection hj with e; subst e; exact h.c4
  | 5, _ => injection hj with e; subst e; exact h.c5
theorem TxD.Cells.keep {w w' : World} {x : TxD} {b o : Nat} (h : x.Cells w b o) (hk : w'.heap[b]? = w.heap[b]?) : x.Cells w' b o :=
  .of fun _ _ hu => (World.cell?_of_block hk).trans (h.get hu)
theorem TxD.Cells.lt {w : World} {x : TxD} {b o : Nat} (h : x.Cells w b o) : b < w.heap.size := World.block_lt_of_cell? w _ h.c0
structure Xs (w : World) (A : Option Addr) (n c : Nat) (l : List TxD) : Prop where
  len : l.length = n
  cap : n ≤ c
  cells : 0 < n → ∃ b o, A = some ⟨b, o, none⟩ ∧ ∀ (i : Nat) (x : TxD), l[i]? = some x → x.Cells w b (o + i * 6)
  ats : ∀ x ∈ l, x.At w
def pt (l : List TxD) : List Tp := l.map TxD.p
theorem pt_len (l : List TxD) : (pt l).length = l.length := by simp [pt]
theorem pt_at {l : List TxD} {j : Nat} {x : TxD} (h : l[j]? = some x) : (pt l)[j]? = some x.p := by simp [pt, h]
theorem Xs.keep {w w' : World} {A : Option Addr} {n c : Nat} {l : List TxD} (h : Xs w A n c l) (hm : Mod (fun _ => False) w w') : Xs w' A n c l := by
  refine ⟨h.len, h.cap, fun hp => ?_, fun x hx => (h.ats x hx).keep hm⟩
  obtain ⟨b, o, hA, hc⟩ := h.cells hp
  exact ⟨b, o, hA, fun i x hx => (hc i x hx).keep (hm.block b (hc i x hx).lt (fun h => h))⟩
end Go.Proofs.Ytidcmolkolcliaa
