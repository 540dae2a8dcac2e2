/-
  A log: what it is in memory; copied records; its smallest functions.
  A log's numbers: mayGrow, unwritten, Next, Durable, Start, Free, Cut; a copied record.
-/
import Derived.Test.YtnbamljaiahmdaaGreatQU2
import Derived.Test.YtnbamljaiahmdaaGreatQS
import Derived.Test.YtnbamljaiahmdaaGreatQU
import Derived.Test.YtnbamljaiahmdaaGreatQB
import Derived.Test.YtnbamljaiahmdaaGreatQE
namespace Go.Proofs.YtnbamljaiahmdaaGreat
open Go Go.RowKit Go.Shelf

/-! ### Records that are the same but for where their bytes lie -/
structure Cp (x y : RcD) : Prop where
  k : y.k = x.k
  f : y.f = x.f
  oi : y.o.is = x.o.is
  om : y.o.m = x.o.m
  ov : y.o.vs = x.o.vs
  vi : y.v.is = x.v.is
  vm : y.v.m = x.v.m
  vv : y.v.vs = x.v.vs
theorem Cp.refl (x : RcD) : Cp x x := ⟨rfl, rfl, rfl, rfl, rfl, rfl, rfl, rfl⟩
theorem Cp.symm {x y : RcD} (h : Cp x y) : Cp y x := ⟨h.k.symm, h.f.symm, h.oi.symm, h.om.symm, h.ov.symm, h.vi.symm, h.vm.symm, h.vv.symm⟩
theorem Cp.p {x y : RcD} (h : Cp x y) : y.p = x.p := by
  obtain ⟨k, f, o, v⟩ := x
  obtain ⟨k', f', o', v'⟩ := y
  obtain ⟨h1, h2, h3, h4, h5, h6, h7, h8⟩ := h
  simp only at *
  simp [RcD.p, VlD.p, *]
theorem cp_okV {x y : VlD} (h1 : y.is = x.is) (h2 : y.m = x.m) : okV y = okV x := by unfold okV noneV; rw [h1, h2]
theorem Cp.okF {x y : RcD} (h : Cp x y) (f : Fld) : okF y f = okF x f := by
  cases f with
  | num i wd => show okN (y.f i) wd = okN (x.f i) wd; rw [h.f]
  | old => exact cp_okV h.oi h.om
  | new => exact cp_okV h.vi h.vm
theorem Cp.zeroF {x y : RcD} (h : Cp x y) (f : Fld) : Cp (zeroF x f) (zeroF y f) := by
  obtain ⟨h1, h2, h3, h4, h5, h6, h7, h8⟩ := h
  cases f with
  | num i wd => exact ⟨h1, by show upd y.f i 0 = upd x.f i 0; rw [h2], h3, h4, h5, h6, h7, h8⟩
  | old => exact ⟨h1, h2, rfl, rfl, rfl, h6, h7, h8⟩
  | new => exact ⟨h1, h2, h3, h4, h5, rfl, rfl, rfl⟩
theorem Cp.fold : ∀ (fl : List Fld) {x y : RcD}, Cp x y → Cp (fl.foldl Go.Proofs.YtnbamljaiahmdaaGreat.zeroF x) (fl.foldl Go.Proofs.YtnbamljaiahmdaaGreat.zeroF y)
  | [], _, _, h => h
  | f :: fl, _, _, h => Cp.fold fl (h.zeroF f)
theorem Cp.empty {x y : RcD} (h : Cp x y) : emptyB y = emptyB x := by
  unfold emptyB noneV
  rw [h.f, h.oi, h.om, h.vi, h.vm]
theorem Cp.may {x y : RcD} (h : Cp x y) : mayB y = mayB x := by
  cases hf : fieldsOf x.k with
  | none => unfold mayB; rw [h.k, hf]
  | some fl =>
    rw [mayB_split (x := x) hf, mayB_split (x := y) (by rw [h.k]; exact hf), (Cp.fold fl h).empty]
    congr 1
    exact congrArg (fun g => fl.all g) (funext fun f => h.okF f)
theorem Cp.enc {x y : RcD} (h : Cp x y) : encB y = encB x := by
  unfold encB
  rw [h.k]
  cases hf : fieldsOf x.k with
  | none => rfl
  | some fl =>
    show encR fl y = encR fl x
    unfold encR
    rw [h.k, show encF y = encF x from funext fun f => by
      cases f with
      | num i wd => show le wd (y.f i).toNat = le wd (x.f i).toNat; rw [h.f]
      | old => show encV y.o = encV x.o; unfold encV; rw [h.oi, h.ov]
      | new => show encV y.v = encV x.v; unfold encV; rw [h.vi, h.vv]]
/-- Two lists of records, one by one the same. -/
inductive CpL : List RcD → List RcD → Prop
  | nil : CpL [] []
  | cons {x y : RcD} {a b : List RcD} (h : Cp x y) (t : CpL a b) : CpL (x :: a) (y :: b)
theorem CpL.len {a b : List RcD} (h : CpL a b) : b.length = a.length := by
  induction h with
  | nil => rfl
  | cons _ _ ih => rw [List.length_cons, List.length_cons, ih]
theorem CpL.append {a b c d : List RcD} (h : CpL a b) (k : CpL c d) : CpL (a ++ c) (b ++ d) := by
  induction h with
  | nil => exact k
  | cons h1 _ ih => exact .cons h1 ih
theorem CpL.one {x y : RcD} (h : Cp x y) : CpL [x] [y] := .cons h .nil
theorem CpL.refl : ∀ l : List RcD, CpL l l
  | [] => .nil
  | x :: l => .cons (Cp.refl x) (CpL.refl l)
theorem CpL.may {a b : List RcD} (h : CpL a b) : b.all mayB = a.all mayB := by
  induction h with
  | nil => rfl
  | cons h1 _ ih => rw [List.all_cons, List.all_cons, h1.may, ih]
theorem CpL.recs {a b : List RcD} (h : CpL a b) : recsB b = recsB a := by
  induction h with
  | nil => rfl
  | cons h1 _ ih => simp only [recsB, List.flatMap_cons] at *; rw [ih]; unfold lenc; rw [h1.enc]
theorem CpL.pack {a b : List RcD} (h : CpL a b) (e s f : Int) : packB e s f b = packB e s f a := by unfold packB; rw [h.len, h.recs]
theorem CpL.packE {a b : List RcD} (h : CpL a b) (e s f : Int) : packE e s f b = packE e s f a := by unfold Go.Proofs.YtnbamljaiahmdaaGreat.packE; rw [h.may, h.len, h.pack]
theorem CpL.fits {a b : List RcD} (h : CpL a b) : fitsB b = fitsB a := by unfold fitsB; rw [h.packE]
theorem fits_may {l : List RcD} (h : fitsB l = true) : l.all mayB = true ∧ l.length ≤ 60 := by
  unfold fitsB at h
  have h2 := packE_zero (by simpa using h)
  exact ⟨h2.2.1, h2.2.2.1⟩
theorem fits_pack {l : List RcD} (h : fitsB l = true) {e s f : Int} (hh : headOk e s f = true) : packE e s f l = 0 := by
  unfold fitsB at h
  have h2 := packE_zero (by simpa using h)
  refine packE_ok hh h2.2.1 ?_
  have h3 := h2.2.2
  unfold packB at *
  rw [List.length_append, headB_len] at *
  omega

/-! ### A log in memory -/
structure Lg where
  b : Int
  n : Int
  ep : Int
  fr : Int
  st : Int
  nx : Int
  du : Int
  l : List RcD
structure LV where
  p : Nat
  x : DV
  A : Option Addr
  c : Nat
  g : Lg
def LV.obj (v : LV) : Array Value := #[.pointer (some ⟨v.x.p, 0, none⟩), .int .i64 v.g.b, .int .i64 v.g.n, .int .i64 v.g.ep, .int .i64 v.g.fr, .int .i64 v.g.st, .int .i64 v.g.nx, .int .i64 v.g.du, .slice v.A v.g.l.length v.c]
/-- The blocks that its calls turn. -/
def LV.M (v : LV) (k : Nat) : Prop := v.x.M k ∨ k = v.p ∨ blkOf v.A = some k
structure Lg.Ok (g : Lg) (N : Nat) : Prop where
  b0 : 0 ≤ g.b
  n2 : 2 ≤ g.n
  bn : g.b ≤ N - g.n
  e1 : 1 ≤ g.ep
  e2 : g.ep ≤ 255
  s0 : 0 ≤ g.st
  sn : g.st ≤ g.nx
  nm : g.nx ≤ 16777215
  room : g.nx - g.st ≤ g.n
  f0 : 0 ≤ g.fr
  fn : g.fr ≤ g.nx
  d0 : 0 ≤ g.du
  dn : g.du ≤ g.nx
  fit : fitsB g.l = true
  some_ : g.l ≠ [] → g.nx - g.st + 1 ≤ g.n ∧ g.nx + 1 ≤ 16777215
structure LV.At (w0 w : World) (v : LV) (d : Dk) : Prop where
  dev : Dev w0 w v.x d
  obj : w.heap[v.p]? = some (.cells v.obj 80 (0, 0))
  pb : w0.heap.size ≤ v.p
  row : OwN w w0.heap.size 47 14 v.A v.g.l.length v.c (recsC v.g.l)
  vals : ∀ y ∈ v.g.l, y.o.Own w w0.heap.size ∧ y.v.Own w w0.heap.size
  ok : v.g.Ok d.dur.length
  arm : d.armed = false
  dead : d.dead = false
  wait : (d.pend.length : Int) = v.g.nx - v.g.du
  av : v.x.Avoid (fun k => blkOf v.A = some k)

theorem Dev.notM {w0 w : World} {x : DV} {d : Dk} (h : Dev w0 w x d) {k : Nat} {cs : Array Value} {t : TypeId} {fr : Nat × Nat} (hk : w.heap[k]? = some (.cells cs t fr))
    (h1 : t ≠ 60) (h2 : t ≠ 50) (h3 : t ≠ 57) : ¬ x.M k := by
  have key : ∀ {cs' : Array Value} {t' : TypeId} {fr' : Nat × Nat}, w.heap[k]? = some (.cells cs' t' fr') → t = t' := by
    intro cs' t' fr' e
    rw [hk] at e
    injection e with e
    injection e with _ e
  rintro (e | e | e | e)
  · exact h1 (key (e ▸ h.at_.obj))
  · obtain ⟨_, cur, hg, _⟩ := h.at_.dur.block rfl
    exact h2 (key (e ▸ hg))
  · obtain ⟨_, cur, hg, _⟩ := h.at_.now.block rfl
    exact h2 (key (e ▸ hg))
  · obtain ⟨_, hg⟩ := h.at_.pend.type_ e
    exact h3 (key hg)
section
variable {w0 w w' : World} {v : LV} {d : Dk}
theorem LV.At.old (h : v.At w0 w d) : Mod (fun _ => False) w0 w := h.dev.old
theorem LV.At.lt (h : v.At w0 w d) : v.p < w.heap.size := (Array.getElem?_eq_some_iff.1 h.obj).1
theorem LV.At.pM (h : v.At w0 w d) : ¬ v.x.M v.p := h.dev.notM h.obj (by decide) (by decide) (by decide)
theorem LV.At.rowM (h : v.At w0 w d) {k : Nat} (hk : blkOf v.A = some k) : ¬ v.x.M k := by
  obtain ⟨cs, e⟩ := h.row.type_ hk
  exact h.dev.notM e (by decide) (by decide) (by decide)
theorem LV.At.rowp (h : v.At w0 w d) : blkOf v.A ≠ some v.p := by
  intro hk
  obtain ⟨cs, e⟩ := h.row.type_ hk
  rw [h.obj] at e
  injection e with e
  injection e with _ e
  exact absurd e (by decide)
theorem own_type {w : World} {base : Nat} {x : VlD} (h : x.Own w base) {k : Nat} (hk : blkOf x.B = some k) : ∃ cs, w.heap[k]? = some (.cells cs 5 (0, 0)) := by
  obtain ⟨_, cur, e, _⟩ := OwV.block h hk
  exact ⟨cur, e⟩
theorem own_mod {F : Nat → Prop} {w w' : World} {base : Nat} {x : VlD} (h : x.Own w base) (hm : Mod F w w') (hF : ∀ k cs, w.heap[k]? = some (.cells cs 5 (0, 0)) → ¬ F k) : x.Own w' base :=
  OwV.mod h hm (fun _ hk => by obtain ⟨cs, e⟩ := own_type h hk; exact hF _ cs e)
theorem LV.At.bytesM (h : v.At w0 w d) {k : Nat} {cs : Array Value} (hk : w.heap[k]? = some (.cells cs 5 (0, 0))) : ¬ v.M k := by
  rintro (e | e | e)
  · exact h.dev.notM hk (by decide) (by decide) (by decide) e
  · subst e
    rw [h.obj] at hk
    injection hk with hk
    injection hk with _ hk
    exact absurd hk (by decide)
  · obtain ⟨cs', e⟩ := h.row.type_ e
    rw [e] at hk
    injection hk with hk
    injection hk with _ hk
    exact absurd hk (by decide)
theorem LV.At.M_lt (h : v.At w0 w d) {k : Nat} (hk : v.M k) : w0.heap.size ≤ k ∧ k < w.heap.size := by
  rcases hk with e | rfl | e
  · exact h.dev.at_.M_lt e
  · exact ⟨h.pb, h.lt⟩
  · exact h.row.lt k e
theorem LV.At.keep (h : v.At w0 w d) (hm : Mod (fun _ => False) w w') : v.At w0 w' d where
  dev := h.dev.keep hm
  obj := (hm.block _ h.lt id).trans h.obj
  pb := h.pb
  row := h.row.mod hm (fun _ _ => id)
  vals := fun y hy => ⟨own_mod (h.vals y hy).1 hm (fun _ _ _ => id), own_mod (h.vals y hy).2 hm (fun _ _ _ => id)⟩
  ok := h.ok
  arm := h.arm
  dead := h.dead
  wait := h.wait
  av := h.av
theorem LV.At.few (h : v.At w0 w d) : v.g.n ≤ 4096 ∧ v.g.b ≤ 4096 ∧ d.dur.length ≤ 4096 := by
  have h1 := h.dev.at_.few
  have h2 := h.dev.lenD
  have h3 := h.ok.bn
  have h4 := h.ok.b0
  have h5 := h.ok.n2
  omega
theorem LV.At.recs (h : v.At w0 w d) : Rs w v.A v.g.l.length v.c v.g.l := h.row.recs (fun y hy => ⟨(h.vals y hy).1.at_, (h.vals y hy).2.at_⟩)
/-- Its cells. -/
structure LC (w : World) (v : LV) : Prop where
  c0 : w.cell? ⟨v.p, 0, none⟩ = some (.pointer (some ⟨v.x.p, 0, none⟩))
  c1 : w.cell? ⟨v.p, 1, none⟩ = some (.int .i64 v.g.b)
  c2 : w.cell? ⟨v.p, 2, none⟩ = some (.int .i64 v.g.n)
  c3 : w.cell? ⟨v.p, 3, none⟩ = some (.int .i64 v.g.ep)
  c4 : w.cell? ⟨v.p, 4, none⟩ = some (.int .i64 v.g.fr)
  c5 : w.cell? ⟨v.p, 5, none⟩ = some (.int .i64 v.g.st)
  c6 : w.cell? ⟨v.p, 6, none⟩ = some (.int .i64 v.g.nx)
  c7 : w.cell? ⟨v.p, 7, none⟩ = some (.int .i64 v.g.du)
  c8 : w.cell? ⟨v.p, 8, none⟩ = some (.slice v.A v.g.l.length v.c)
theorem lc_of (h : w.heap[v.p]? = some (.cells v.obj 80 (0, 0))) : LC w v := by
  refine ⟨?_, ?_, ?_, ?_, ?_, ?_, ?_, ?_, ?_⟩ <;> (rw [cell_of_row _ _ _ _ _ _ h]; rfl)
theorem LV.At.lc (h : v.At w0 w d) : LC w v := lc_of h.obj
theorem LV.At.fz (h : v.At w0 w d) (i : Nat) : w.frozen? ⟨v.p, i, none⟩ = false := frozen_of_block h.obj i
end

/-- Steps that turn blocks in which no sector lies, and none of its own, leave a device. -/
theorem DV.At.mod2 {F : Nat → Prop} {w w' : World} {base : Nat} {x : DV} (h : x.At w base) (hm : Mod F w w') (hF : ∀ k, F k → ¬ x.M k) (hav : x.Avoid F) : x.At w' base where
  obj := (hm.block _ (h.M_lt (.inl rfl)).2 (fun f => hF _ f (.inl rfl))).trans h.obj
  dur := h.dur.mod hm (fun k hk f => hF _ f (by simp [blkOf] at hk; exact .inr (.inl hk.symm)))
  now := h.now.mod hm (fun k hk f => hF _ f (by simp [blkOf] at hk; exact .inr (.inr (.inl hk.symm))))
  pend := h.pend.mod hm (fun k hk f => hF _ f (.inr (.inr (.inr hk))))
  secs := fun s hs => ⟨(h.secs s hs).1.mod hm (fun k hk _ => hav.1 s hs k hk), (h.secs s hs).2⟩
  wsecs := fun y hy => ⟨(h.wsecs y hy).1, (h.wsecs y hy).2.1.mod hm (fun k hk _ => hav.2 y hy k hk), (h.wsecs y hy).2.2⟩
  pb := h.pb
  d1 := h.d1
  d2 := h.d2
  d3 := h.d3
  d4 := h.d4
  pos := h.pos
  few := h.few
  lft := h.lft
theorem DV.At.avoid_new {w : World} {base : Nat} {x : DV} (h : x.At w base) {N : Nat → Prop} (hN : ∀ k, N k → w.heap.size ≤ k) : x.Avoid N := by
  have key : ∀ s : Sct, s.At w x.M → ∀ k, blkOf s.A = some k → ¬ N k := by
    intro s hs k hk hn
    obtain ⟨b, o, hA, hb⟩ := hs.1.lt (by omega)
    rw [hA] at hk
    injection hk with hk
    have hk : b = k := hk
    have := hN k hn
    omega
  exact ⟨fun s hs => key s (h.secs s hs), fun y hy => key y.2 (h.wsecs y hy).2⟩
theorem DV.Avoid.or {x : DV} {N N' : Nat → Prop} (h : x.Avoid N) (h' : x.Avoid N') : x.Avoid (fun k => N k ∨ N' k) :=
  ⟨fun s hs k hk e => e.elim (h.1 s hs k hk) (h'.1 s hs k hk), fun s hs k hk e => e.elim (h.2 s hs k hk) (h'.2 s hs k hk)⟩
theorem DV.Avoid.sub {x : DV} {N N' : Nat → Prop} (h : x.Avoid N) (hs : ∀ k, N' k → N k) : x.Avoid N' :=
  ⟨fun s hm k hk e => h.1 s hm k hk (hs k e), fun s hm k hk e => h.2 s hm k hk (hs k e)⟩
theorem DV.Avoid.none_ (x : DV) : x.Avoid (fun k => blkOf none = some k) := ⟨(fun _ _ _ _ e => by cases e), (fun _ _ _ _ e => by cases e)⟩

/-! ### Copies -/
set_option maxRecDepth 100000 in
theorem cbytes_ok (w : World) (A : Option Addr) (n c : Nat) (xs : List UInt8) (h : Sl w A n c xs) (hn : n ≤ 140737488355328) :
    Calls Tryz.prog 56 #[.slice A n c] w fun e w' => e = .returned (.slice (some ⟨w.heap.size, 0, none⟩) n n) ∧
      w'.heap[w.heap.size]? = some (.cells (xs.map bv).toArray 5 (0, 0)) ∧ w'.heap.size = w.heap.size + 1 ∧ Mod (fun _ => False) w w' := by
  have hmk := fun W => run_makeBytes n hn W
  go_enter Tryz.func56, Tryz.ntmps56
  go_wp2_with (with_reducible refine wpList_copyall (.tmp 7) (.tmp 8) (g := w.heap.size) (n := n) (cur := List.replicate n (.int .u8 0)) (news := xs.map bv) byteElem rfl rfl rfl rfl ?hg (by simp) ?hs ?_)
  case hg =>
    rw [heap_alloc_new]
    have e : madeCells #[Value.int .u8 0] n = (List.replicate n (Value.int .u8 0)).toArray := by
      rw [← toList_madeCells_one]
    rw [e]
  case hs => exact (h.alloc _).src
  intro w1 hb hm hz
  have hmod : Mod (fun _ => False) w w1 := ((Mod.refl (fun _ => False) w).alloc _).trans hm (fun i hi e => by omega)
  have Hb := Lib.hid hb
  have Hz := Lib.hid hz
  clear hb hz hmk
  go_wp2
  go_ret
  exact ⟨rfl, Hb.out, Hz.out, hmod⟩

/-! ### Numbers -/
set_option maxRecDepth 100000 in
theorem wstamp_ok (w : World) (e s : Int) (e0 : 0 ≤ e) (e1 : e ≤ 65535) (s0 : 0 ≤ s) (s1 : s ≤ 16777215) :
    Calls Tryz.prog 59 #[.int .i64 e, .int .i64 s] w fun r w' => r = .returned (.int .i64 (16777216 * e + s)) ∧ w = w' := by
  go_enter Tryz.func59, Tryz.ntmps59
  go_wp2
  go_ret
  exact ⟨rfl, rfl⟩
set_option maxRecDepth 100000 in
theorem place_ok (w : World) (px : Option Addr) (b n s : Int) (b0 : 0 ≤ b) (b1 : b ≤ 4096) (n2 : 2 ≤ n) (n1 : n ≤ 4096) (s0 : 0 ≤ s) :
    Calls Tryz.prog 60 #[.agg #[.pointer px, .int .i64 b, .int .i64 n], .int .i64 s] w fun r w' => r = .returned (.int .i64 (b + s % n)) ∧ Mod (fun _ => False) w w' := by
  have Hm : Hid (Mod (fun _ => False) w (w.alloc (.cells #[.pointer px, .int .i64 b, .int .i64 n] 64))) := (Mod.refl _ w).alloc _
  have hr : Int.tmod s n = s % n := Int.tmod_eq_emod_of_nonneg s0
  have hn : ¬ n = 0 := by omega
  have hlt := Int.emod_lt_of_pos s (show 0 < n by omega)
  have hge := Int.emod_nonneg s hn
  have Hr := Lib.hid hr
  generalize s % n = z at *
  clear Hr
  go_enter Tryz.func60, Tryz.ntmps60
  go_wp2
  go_quiet (fail)
  go_wp2
  go_ret
  exact ⟨rfl, Hm.out.drewN _⟩
set_option maxRecDepth 100000 in
theorem lleft_ok (w : World) (w0 : World) (v : LV) (d : Dk) (h : v.At w0 w d) :
    Calls Tryz.prog 38 #[.pointer (some ⟨v.p, 0, none⟩)] w fun r w' => r = .returned (.int .i64 (v.g.n - (v.g.nx - v.g.st))) ∧ Mod (fun _ => False) w w' := by
  obtain ⟨c0, c1, c2, c3, c4, c5, c6, c7, c8⟩ := h.lc
  have hb := h.few
  have ok := h.ok
  obtain ⟨_, n2, _, _, _, s0, sn, nm, room, _, _, _, _, _, _⟩ := ok
  obtain ⟨hb1, _, _⟩ := hb
  clear h c0 c1 c3 c4 c7 c8
  go_enter Tryz.func38, Tryz.ntmps38
  go_wp2_with fail
  go_quiet (fail)
  go_wp2
  go_ret
  exact ⟨rfl, (Mod.refl _ w).drewN _⟩
end Go.Proofs.YtnbamljaiahmdaaGreat

namespace Go.Proofs.YtnbamljaiahmdaaGreat
open Go Go.RowKit Go.Shelf

def growB (g : Lg) (k : Int) : Bool := decide (k ≤ g.n - (g.nx - g.st)) && decide (g.nx + k ≤ 16777215)
set_option maxRecDepth 100000 in
theorem mayGrow_ok (w w0 : World) (v : LV) (d : Dk) (h : v.At w0 w d) (k : Int) (k0 : 0 ≤ k) (k2 : k ≤ 2) :
    Calls Tryz.prog 32 #[.pointer (some ⟨v.p, 0, none⟩), .int .i64 k] w fun r w' => r = .returned (.bool (growB v.g k)) ∧ Mod (fun _ => False) w w' := by
  have Hl := Lib.hid (lleft_ok w w0 v d h)
  have Hh := Lib.hid h
  have n0 : 0 ≤ v.g.nx := Int.le_trans h.ok.s0 h.ok.sn
  have n1 : v.g.nx ≤ 16777215 := h.ok.nm
  clear h
  by_cases hA : k ≤ v.g.n - (v.g.nx - v.g.st)
  · have hd : decide (k ≤ v.g.n - (v.g.nx - v.g.st)) = true := by simpa using hA
    have Hr : Hid (growB v.g k = decide (v.g.nx + k ≤ 16777215)) := by show _ = _; unfold growB; rw [hd]; rfl
    generalize v.g.n - (v.g.nx - v.g.st) = L at *
    clear hA
    go_enter Tryz.func32, Tryz.ntmps32
    go_wp2_with fail
    refine Hl.out.mono ?_
    rintro e w1 ⟨rfl, hm1⟩
    have c6 := (Hh.out.keep hm1).lc.c6
    have Hm1 := Lib.hid hm1
    clear hm1 Hl
    go_wp2
    go_ret
    exact ⟨by rw [Hr.out]; rfl, Hm1.out⟩
  · have hd : decide (k ≤ v.g.n - (v.g.nx - v.g.st)) = false := by simpa using hA
    have Hr : Hid (growB v.g k = false) := by show _ = _; unfold growB; rw [hd]; rfl
    generalize v.g.n - (v.g.nx - v.g.st) = L at *
    clear hA
    go_enter Tryz.func32, Tryz.ntmps32
    go_wp2_with fail
    refine Hl.out.mono ?_
    rintro e w1 ⟨rfl, hm1⟩
    have Hm1 := Lib.hid hm1
    clear hm1 Hl
    go_wp2
    go_ret
    exact ⟨by rw [Hr.out]; rfl, Hm1.out⟩

def Lg.un (g : Lg) : Int := if g.l = [] then 0 else 1
theorem Lg.un_min (g : Lg) : g.un = min (g.l.length : Int) 1 := by
  unfold Lg.un
  cases g.l with
  | nil => rfl
  | cons x l => rw [if_neg (by simp), List.length_cons]; omega
set_option maxRecDepth 100000 in
theorem unwritten_ok (w w0 : World) (v : LV) (d : Dk) (h : v.At w0 w d) :
    Calls Tryz.prog 37 #[.pointer (some ⟨v.p, 0, none⟩)] w fun r w' => r = .returned (.int .i64 v.g.un) ∧ Mod (fun _ => False) w w' := by
  obtain ⟨c0, c1, c2, c3, c4, c5, c6, c7, c8⟩ := h.lc
  have Hl := Lib.hid (fits_may h.ok.fit).2
  have Hu := Lib.hid v.g.un_min
  clear h c0 c1 c2 c3 c4 c5 c6 c7
  go_enter Tryz.func37, Tryz.ntmps37
  go_wp2
  all_goals (go_ret; refine ⟨?_, Mod.refl _ w⟩; rw [Hu.out])
  · rw [Int.min_eq_right (by omega)]; rfl
  · rw [Int.min_eq_left (by omega)]; rfl

end Go.Proofs.YtnbamljaiahmdaaGreat
