/-
  The body of Disk.Crash's loop: after[w.at], _ = frame.Part(after[w.at], w.s, k).
  The contract of Disk.Crash.
  A device in a law's own memory: every call in one form. The chapter's example (awake).
-/
import Derived.Test.YtnbamljaiahmdaaGreatQD
namespace Go.Proofs.YtnbamljaiahmdaaGreat
open Go Go.RowKit

def crashOrder : List (Nat × Bool) := [(0, true), (1, true), (2, true), (3, true), (4, true), (5, true), (6, true), (8, true), (9, true), (10, true), (7, false), (11, false), (12, true), (13, true), (14, true), (15, true), (16, false)]

end Go.Proofs.YtnbamljaiahmdaaGreat

namespace Go.Proofs.YtnbamljaiahmdaaGreat
open Go Go.RowKit Go.Shelf
attribute [local go_sem] Oper.semAt_some

/-- What survivors leave of the sectors. -/
def applySv (D : List (List UInt8)) (zs : List Sv) : List (List UInt8) := zs.foldl (fun D z => D.set z.i (partOf (D.getD z.i []) z.s.xs z.k)) D
theorem applySv_snoc (D : List (List UInt8)) (zs : List Sv) (z : Sv) : applySv D (zs ++ [z]) = (applySv D zs).set z.i (partOf ((applySv D zs).getD z.i []) z.s.xs z.k) := by simp [applySv]
theorem set_getD (D : List (List UInt8)) (i : Nat) : D.set i (D.getD i []) = D := by
  apply List.ext_getElem (by simp)
  intro j h1 h2
  rw [List.getElem_set]
  split
  · rename_i e; subst e; simp at h1; simp [h1]
  · rfl
theorem applySv_surv (f : Nat → Nat) (W : List (Nat × Sct)) : ∀ (i : Nat) (D : List (List UInt8)), applySv D (survGo f i W) = crashGo f i (W.map fun y => (y.1, y.2.xs)) D := by
  induction W with
  | nil => intro i D; rfl
  | cons y W ih =>
    intro i D
    show applySv D (if 0 < f i then _ else _) = crashGo f (i + 1) _ (D.set y.1 (partOf (D.getD y.1 []) y.2.xs (f i)))
    split
    · exact ih (i + 1) _
    · rename_i h
      have h0 : f i = 0 := by omega
      rw [ih, h0, part_zero, set_getD]

/-! ### What a turn of a block that is no cells leaves -/
section
variable {W W' : World} {row : Option Nat}
theorem blk_kept {k : Nat} {cs : Array Value} {t : TypeId} {fr : Nat × Nat} (h : W.heap[k]? = some (.cells cs t fr)) (hg : W.grownBy W' row) (hr : ∀ r, row = some r → ∃ o : Obj, W.heap[r]? = some o ∧ o.isCells = false) : W'.heap[k]? = some (.cells cs t fr) := by
  refine (hg.block k (Array.getElem?_eq_some_iff.1 h).1 (fun e => ?_)).trans h
  obtain ⟨o, ho, hc⟩ := hr k e.symm
  rw [h] at ho
  injection ho with ho
  subst ho
  cases hc
theorem Sl.own {A : Option Addr} {n c : Nat} {xs : List UInt8} (h : Sl W A n c xs) (hg : W.grownBy W' row) (hr : ∀ r, row = some r → ∃ o : Obj, W.heap[r]? = some o ∧ o.isCells = false) : Sl W' A n c xs := by
  refine ⟨h.1, h.2.1, fun hn => ?_⟩
  obtain ⟨b, o, rfl, hc⟩ := h.2.2 hn
  exact ⟨b, o, rfl, fun j hj => cell_kept (hc j hj) hg hr⟩
theorem OwV.own {base : Nat} {e : TypeId} {g n c : Nat} {vs : List Value} (h : OwV W base e (some ⟨g, 0, none⟩) n c vs) (hg : W.grownBy W' row) (hr : ∀ r, row = some r → ∃ o : Obj, W.heap[r]? = some o ∧ o.isCells = false) : OwV W' base e (some ⟨g, 0, none⟩) n c vs := by
  have hl := h.1
  obtain ⟨_, cur, hb, h1, h2, h3, h4⟩ := h.block rfl
  exact ⟨hl, .inr ⟨g, c, cur, rfl, (h.lt g rfl).1, blk_kept hb hg hr, h1, h2, by simpa using h3, by simpa using h4⟩⟩
theorem OwN.own {base : Nat} {e : TypeId} {size : Nat} {A : Option Addr} {n c : Nat} {vs : List Value} (h : OwN W base e size A n c vs) (hg : W.grownBy W' row) (hr : ∀ r, row = some r → ∃ o : Obj, W.heap[r]? = some o ∧ o.isCells = false) : OwN W' base e size A n c vs := by
  refine ⟨h.1, ?_⟩
  rcases h.2 with hn | ⟨g, cap, cur, hv, hb, hgg, rest⟩
  · exact .inl hn
  · exact .inr ⟨g, cap, cur, hv, hb, blk_kept hgg hg hr, rest⟩
theorem DV.At.own {base : Nat} {x : DV} (h : x.At W base) (hg : W.grownBy W' row) (hr : ∀ r, row = some r → ∃ o : Obj, W.heap[r]? = some o ∧ o.isCells = false) : x.At W' base where
  obj := blk_kept h.obj hg hr
  dur := h.dur.own hg hr
  now := h.now.own hg hr
  pend := h.pend.own hg hr
  secs := fun s hs => ⟨(h.secs s hs).1.own hg hr, (h.secs s hs).2⟩
  wsecs := fun y hy => ⟨(h.wsecs y hy).1, (h.wsecs y hy).2.1.own hg hr, (h.wsecs y hy).2.2⟩
  pb := h.pb
  d1 := h.d1
  d2 := h.d2
  d3 := h.d3
  d4 := h.d4
  pos := h.pos
  few := h.few
  lft := h.lft
theorem Mod.turn {F : Nat → Prop} {w : World} (h : Mod F w W) (hg : W.grownBy W' row) (hr : ∀ r, row = some r → r < w.heap.size → F r) : Mod F w W' := h.grown hg hr
end

/-- The sectors of the device that is being made. -/
structure Aft (w : World) (W : World) (g n c : Nat) (D' : List Sct) : Prop where
  own : OwV W w.heap.size 50 (some ⟨g, 0, none⟩) n c (D'.map Sct.v)
  secs : ∀ s ∈ D', s.At W (fun k => k = g)
theorem Aft.own_ {w W W' : World} {row : Option Nat} {g n c : Nat} {D' : List Sct} (h : Aft w W g n c D') (hg : W.grownBy W' row) (hr : ∀ r, row = some r → ∃ o : Obj, W.heap[r]? = some o ∧ o.isCells = false) : Aft w W' g n c D' :=
  ⟨h.own.own hg hr, fun s hs => ⟨(h.secs s hs).1.own hg hr, (h.secs s hs).2⟩⟩
theorem Aft.keep {w W W' : World} {g n c : Nat} {D' : List Sct} (h : Aft w W g n c D') (hm : Mod (fun _ => False) W W') : Aft w W' g n c D' :=
  ⟨h.own.mod hm (fun _ _ => id), fun s hs => (h.secs s hs).keep hm⟩
theorem Aft.len {w W : World} {g n c : Nat} {D' : List Sct} (h : Aft w W g n c D') : D'.length = n := by have := h.own.len; simpa using this

def noDefer (ops : Array Oper) : Bool := ops.all fun o => match o.op with
  | .defer _ => false
  | _ => true
theorem noDefer_spec {ops : Array Oper} (h : noDefer ops = true) : ∀ (i : Nat) (o : Oper), ops[i]? = some o → ∀ c, o.op ≠ .defer c := by
  intro i o ho c hc
  obtain ⟨hi, e⟩ := Array.getElem?_eq_some_iff.1 ho
  have := Array.all_eq_true.1 h i hi
  rw [e, hc] at this
  cases this

end Go.Proofs.YtnbamljaiahmdaaGreat

namespace Go.Proofs.YtnbamljaiahmdaaGreat
open Go Go.RowKit

section
variable {w : World} {base base' : Nat} {x : DV}
theorem OwN.rebaseD {e : TypeId} {size : Nat} {A : Option Addr} {n c : Nat} {vs : List Value} (h : OwN w base e size A n c vs) (hb : base' ≤ base) : OwN w base' e size A n c vs := by
  refine ⟨h.1, ?_⟩
  rcases h.2 with hn | ⟨g, cap, cur, hv, hbg, rest⟩
  · exact .inl hn
  · exact .inr ⟨g, cap, cur, hv, by omega, rest⟩
theorem DV.At.rebase (h : x.At w base) (hb : base' ≤ base) : x.At w base' where
  obj := h.obj
  dur := h.dur.rebase (fun k hk => by have := (h.dur.lt k hk).1; omega)
  now := h.now.rebase (fun k hk => by have := (h.now.lt k hk).1; omega)
  pend := h.pend.rebaseD hb
  secs := h.secs
  wsecs := h.wsecs
  pb := by have := h.pb; omega
  d1 := h.d1
  d2 := h.d2
  d3 := h.d3
  d4 := h.d4
  pos := h.pos
  few := h.few
  lft := h.lft
end

/-- The device x, in memory laid since w0, is d; nothing that lay at w0 has turned. -/
structure Dev (w0 w : World) (x : DV) (d : Dk) : Prop where
  at_ : x.At w w0.heap.size
  dk : x.dk = d
  old : Mod (fun _ => False) w0 w
section
variable {w0 w w' : World} {x x' : DV} {d d' : Dk}
theorem Dev.keep (h : Dev w0 w x d) (hm : Mod (fun _ => False) w w') : Dev w0 w' x d := ⟨h.at_.keep hm, h.dk, h.old.trans hm (fun _ _ h => h)⟩
theorem Dev.left (h : Dev w0 w x d) (hL : Left w w' w0.heap.size x x' d') : Dev w0 w' x' d' :=
  ⟨hL.at_, hL.dk, h.old.trans hL.mod (fun k hk hM => by have := (h.at_.M_lt hM).1; omega)⟩
theorem Dev.made (h : Mod (fun _ => False) w0 w) (hM : Made w w' w.heap.size x d) : Dev w0 w' x d := ⟨hM.1.rebase h.size, hM.2.1, h.trans hM.2.2.2 (fun _ _ h => h)⟩
theorem Dev.lenD (h : Dev w0 w x d) : x.D.length = d.dur.length := by rw [← h.dk, x.dk_len]
theorem Dev.lenW (h : Dev w0 w x d) : x.W.length = d.pend.length := by rw [← h.dk]; simp [DV.dk]
/-- New memory is none of its own. -/
theorem Dev.apart (h : Dev w0 w x d) {k : Nat} (hk : w.heap.size ≤ k) : ¬ x.M k := fun hM => by have := (h.at_.M_lt hM).2; omega
end

/-- Its sectors are whole ones, and its writes are in it. -/
structure Dk.Good (d : Dk) : Prop where
  dur : ∀ s ∈ d.dur, s.length = 256
  pend : ∀ y ∈ d.pend, y.1 < d.dur.length ∧ y.2.length = 256
theorem Dev.good {w0 w : World} {x : DV} {d : Dk} (h : Dev w0 w x d) : d.Good := by
  rw [← h.dk]
  refine ⟨fun s hs => ?_, fun y hy => ?_⟩
  · obtain ⟨t, ht, rfl⟩ := List.mem_map.1 hs
    exact (h.at_.secs t ht).len
  · obtain ⟨t, ht, rfl⟩ := List.mem_map.1 hy
    have := h.at_.wsecs t ht
    exact ⟨by rw [x.dk_len]; exact this.1, this.2.len⟩

theorem dev_new (w0 w : World) (h : Mod (fun _ => False) w0 w) (n : Int) (h1 : 1 ≤ n) (hn : n ≤ 4096) :
    Calls Tryz.prog 5 #[.int .i64 n] w fun e w' => ∃ x, e = .returned (.tuple #[.pointer (some ⟨x.p, 0, none⟩), .int .i64 0]) ∧ Dev w0 w' x (Dk.fresh (List.replicate n.toNat (fill 0))) := by
  refine (new_ok w n h1 hn).mono ?_
  rintro e w' ⟨x, rfl, hM⟩
  exact ⟨x, rfl, Dev.made h hM⟩
theorem dev_write (w0 w : World) (x : DV) (d : Dk) (h : Dev w0 w x d) (i : Int) (A : Option Addr) (n c : Nat) (ys : List UInt8) (hy : Sl w A n c ys) (hM : ∀ k, blkOf A = some k → ¬ x.M k) (hW : d.pend.length ≤ 1000) :
    Calls Tryz.prog 6 #[.pointer (some ⟨x.p, 0, none⟩), .int .i64 i, .slice A n c] w fun e w' => e = .returned (.int .i64 (d.writeE i n)) ∧ ∃ x', x'.p = x.p ∧ Dev w0 w' x' (d.write i ys) ∧ Mod x.M w w' ∧ (∀ N : Nat → Prop, (∀ k, N k → k < w.heap.size) → x.Avoid N → x'.Avoid N) ∧ (∀ k, x'.M k → x.M k ∨ w.heap.size ≤ k) := by
  have hc := write_ok w w0.heap.size x h.at_ h.old.size i A n c ys hy hM (by rw [h.lenW]; exact hW)
  rw [h.dk] at hc
  refine hc.mono ?_
  rintro e w' ⟨rfl, x', hL⟩
  exact ⟨rfl, x', hL.p, h.left hL, hL.mod, hL.av, hL.grows⟩
theorem dev_sync (w0 w : World) (x : DV) (d : Dk) (h : Dev w0 w x d) (hW : d.pend.length ≤ 1000) :
    Calls Tryz.prog 36 #[.pointer (some ⟨x.p, 0, none⟩)] w fun e w' => e = .returned (.int .i64 d.syncE) ∧ ∃ x', x'.p = x.p ∧ Dev w0 w' x' d.sync ∧ Mod x.M w w' := by
  have hc := sync_ok w w0.heap.size x h.at_ (by rw [h.lenW]; exact hW)
  rw [h.dk] at hc
  refine hc.mono ?_
  rintro e w' ⟨rfl, x', hL⟩
  exact ⟨rfl, x', hL.p, h.left hL, hL.mod⟩
theorem dev_read (w0 w : World) (x : DV) (d : Dk) (h : Dev w0 w x d) (i : Int) :
    Calls Tryz.prog 28 #[.pointer (some ⟨x.p, 0, none⟩), .int .i64 i] w fun e w' => ∃ A n c, e = .returned (.tuple #[.slice A n c, .int .i64 (d.reach i)]) ∧ FreshR w w' A n c (d.read i) := by
  have hc := read_ok w w0.heap.size x h.at_ i
  rw [h.dk] at hc
  exact hc
theorem dev_len (w0 w : World) (x : DV) (d : Dk) (h : Dev w0 w x d) : Calls Tryz.prog 30 #[.pointer (some ⟨x.p, 0, none⟩)] w fun e w' => e = .returned (.int .i64 d.dur.length) ∧ w' = w := by
  have hc := len_ok w _ x h.at_
  rw [h.lenD] at hc
  exact hc
theorem dev_dead (w0 w : World) (x : DV) (d : Dk) (h : Dev w0 w x d) : Calls Tryz.prog 23 #[.pointer (some ⟨x.p, 0, none⟩)] w fun e w' => e = .returned (.bool d.dead) ∧ w' = w := by
  have hc := dead_ok w _ x h.at_
  rw [show x.dead = d.dead by rw [← h.dk]; rfl] at hc
  exact hc
theorem Bl.nil (w : World) : Bl w none 0 0 [] := ⟨rfl, Nat.le_refl _, fun h => absurd h (by omega)⟩
theorem Bl.lit (w : World) (b : Bool) (t : TypeId) : Bl (w.alloc (.cells #[.bool b] t)) (some ⟨w.heap.size, 0, none⟩) 1 1 [b] := by
  refine ⟨rfl, Nat.le_refl _, fun _ => ⟨_, _, rfl, fun j hj => ?_⟩⟩
  obtain rfl : j = 0 := by omega
  rw [cell_of_row _ _ _ _ _ _ (heap_alloc_new w _)]
  rfl
theorem FreshR.sl {w w' : World} {A : Option Addr} {n c : Nat} {xs : List UInt8} (h : FreshR w w' A n c xs) : Sl w' A n c xs := h.1.sl
theorem FreshR.new {w w' : World} {A : Option Addr} {n c : Nat} {xs : List UInt8} (h : FreshR w w' A n c xs) {k : Nat} (hk : blkOf A = some k) : w.heap.size ≤ k := (h.1.lt k hk).1
end Go.Proofs.YtnbamljaiahmdaaGreat
