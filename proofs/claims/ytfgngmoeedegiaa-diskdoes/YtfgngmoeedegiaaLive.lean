/-
  A device in a law's own memory: every call in one form. The chapter's example (awake).
-/
import Derived.Test.YtfgngmoeedegiaaCrash
namespace Go.Proofs.Ytfgngmoeedegiaa
open Go Go.RowKit

section
variable {w : World} {base base' : Nat} {x : DV}
theorem OwN.rebase {e : TypeId} {size : Nat} {A : Option Addr} {n c : Nat} {vs : List Value} (h : OwN w base e size A n c vs) (hb : base' ≤ base) : OwN w base' e size A n c vs := by
  refine ⟨h.1, ?_⟩
  rcases h.2 with hn | ⟨g, cap, cur, hv, hbg, rest⟩
  · exact .inl hn
  · exact .inr ⟨g, cap, cur, hv, by omega, rest⟩
theorem DV.At.rebase (h : x.At w base) (hb : base' ≤ base) : x.At w base' where
  obj := h.obj
  dur := h.dur.rebase (fun k hk => by have := (h.dur.lt k hk).1; omega)
  now := h.now.rebase (fun k hk => by have := (h.now.lt k hk).1; omega)
  pend := h.pend.rebase hb
  secs := h.secs
  wsecs := h.wsecs
  pb := by have := h.pb; omega
  d1 := h.d1
  d2 := h.d2
  d3 := h.d3
  d4 := h.d4
  pos := h.pos
  few := h.few
  lft := h.lft
end

/-- The device x, in memory laid since w0, is d; nothing that lay at w0 has turned. -/
structure Dev (w0 w : World) (x : DV) (d : Dk) : Prop where
  at_ : x.At w w0.heap.size
  dk : x.dk = d
  old : Mod (fun _ => False) w0 w
section
variable {w0 w w' : World} {x x' : DV} {d d' : Dk}
theorem Dev.keep (h : Dev w0 w x d) (hm : Mod (fun _ => False) w w') : Dev w0 w' x d := ⟨h.at_.keep hm, h.dk, h.old.trans hm (fun _ _ h => h)⟩
theorem Dev.left (h : Dev w0 w x d) (hL : Left w w' w0.heap.size x x' d') : Dev w0 w' x' d' :=
  ⟨hL.at_, hL.dk, h.old.trans hL.mod (fun k hk hM => by have := (h.at_.M_lt hM).1; omega)⟩
theorem Dev.made (h : Mod (fun _ => False) w0 w) (hM : Made w w' w.heap.size x d) : Dev w0 w' x d := ⟨hM.1.rebase h.size, hM.2.1, h.trans hM.2.2.2 (fun _ _ h => h)⟩
theorem Dev.lenD (h : Dev w0 w x d) : x.D.length = d.dur.length := by rw [← h.dk, x.dk_len]
theorem Dev.lenW (h : Dev w0 w x d) : x.W.length = d.pend.length := by rw [← h.dk]; simp [DV.dk]
/-- New memory is none of its own. -/
theorem Dev.apart (h : Dev w0 w x d) {k : Nat} (hk : w.heap.size ≤ k) : ¬ x.M k := fun hM => by have := (h.at_.M_lt hM).2; omega
end

/-- Its sectors are whole ones, and its writes are in it. -/
structure Dk.Good (d : Dk) : Prop where
  dur : ∀ s ∈ d.dur, s.length = 256
  pend : ∀ y ∈ d.pend, y.1 < d.dur.length ∧ y.2.length = 256
theorem Dev.good {w0 w : World} {x : DV} {d : Dk} (h : Dev w0 w x d) : d.Good := by
  rw [← h.dk]
  refine ⟨fun s hs => ?_, fun y hy => ?_⟩
  · obtain ⟨t, ht, rfl⟩ := List.mem_map.1 hs
    exact (h.at_.secs t ht).len
  · obtain ⟨t, ht, rfl⟩ := List.mem_map.1 hy
    have := h.at_.wsecs t ht
    exact ⟨by rw [x.dk_len]; exact this.1, this.2.len⟩

theorem dev_new (w0 w : World) (h : Mod (fun _ => False) w0 w) (n : Int) (h1 : 1 ≤ n) (hn : n ≤ 4096) :
    Calls Try.prog 10 #[.int .i64 n] w fun e w' => ∃ x, e = .returned (.tuple #[.pointer (some ⟨x.p, 0, none⟩), .int .i64 0]) ∧ Dev w0 w' x (Dk.fresh (List.replicate n.toNat (fill 0))) := by
  refine (new_ok w n h1 hn).mono ?_
  rintro e w' ⟨x, rfl, hM⟩
  exact ⟨x, rfl, Dev.made h hM⟩
theorem dev_write (w0 w : World) (x : DV) (d : Dk) (h : Dev w0 w x d) (i : Int) (A : Option Addr) (n c : Nat) (ys : List UInt8) (hy : Sl w A n c ys) (hM : ∀ k, blkOf A = some k → ¬ x.M k) (hW : d.pend.length ≤ 1000) :
    Calls Try.prog 13 #[.pointer (some ⟨x.p, 0, none⟩), .int .i64 i, .slice A n c] w fun e w' => e = .returned (.int .i64 (d.writeE i n)) ∧ ∃ x', x'.p = x.p ∧ Dev w0 w' x' (d.write i ys) ∧ Mod x.M w w' ∧ (∀ N : Nat → Prop, (∀ k, N k → k < w.heap.size) → x.Avoid N → x'.Avoid N) ∧ (∀ k, x'.M k → x.M k ∨ w.heap.size ≤ k) := by
  have hc := write_ok w w0.heap.size x h.at_ h.old.size i A n c ys hy hM (by rw [h.lenW]; exact hW)
  rw [h.dk] at hc
  refine hc.mono ?_
  rintro e w' ⟨rfl, x', hL⟩
  exact ⟨rfl, x', hL.p, h.left hL, hL.mod, hL.av, hL.grows⟩
theorem dev_sync (w0 w : World) (x : DV) (d : Dk) (h : Dev w0 w x d) (hW : d.pend.length ≤ 1000) :
    Calls Try.prog 15 #[.pointer (some ⟨x.p, 0, none⟩)] w fun e w' => e = .returned (.int .i64 d.syncE) ∧ ∃ x', x'.p = x.p ∧ Dev w0 w' x' d.sync ∧ Mod x.M w w' := by
  have hc := sync_ok w w0.heap.size x h.at_ (by rw [h.lenW]; exact hW)
  rw [h.dk] at hc
  refine hc.mono ?_
  rintro e w' ⟨rfl, x', hL⟩
  exact ⟨rfl, x', hL.p, h.left hL, hL.mod⟩
theorem dev_arm (w0 w : World) (x : DV) (d : Dk) (h : Dev w0 w x d) (n : Int) (hn : n < 9223372036854775808) :
    Calls Try.prog 17 #[.pointer (some ⟨x.p, 0, none⟩), .int .i64 n] w fun e w' => (∃ v, e = .returned v) ∧ ∃ x', x'.p = x.p ∧ Dev w0 w' x' (d.arm n) ∧ Mod x.M w w' := by
  have hc := arm_ok w w0.heap.size x h.at_ n hn
  rw [h.dk] at hc
  refine hc.mono ?_
  rintro e w' ⟨he, x', hL⟩
  exact ⟨he, x', hL.p, h.left hL, hL.mod⟩
theorem dev_read (w0 w : World) (x : DV) (d : Dk) (h : Dev w0 w x d) (i : Int) :
    Calls Try.prog 22 #[.pointer (some ⟨x.p, 0, none⟩), .int .i64 i] w fun e w' => ∃ A n c, e = .returned (.tuple #[.slice A n c, .int .i64 (d.reach i)]) ∧ FreshR w w' A n c (d.read i) := by
  have hc := read_ok w w0.heap.size x h.at_ i
  rw [h.dk] at hc
  exact hc
theorem dev_crash (w0 w : World) (x : DV) (d : Dk) (h : Dev w0 w x d) (hW : d.pend.length ≤ 1000) (kA : Option Addr) (kn kc : Nat) (ks : List Bool) (torn kk : Int) (hk : Bl w kA kn kc ks) (hkn : kn ≤ 9223372036854775807) :
    Calls Try.prog 19 #[.pointer (some ⟨x.p, 0, none⟩), .agg #[.slice kA kn kc, .int .i64 torn, .int .i64 kk]] w fun e w' => ∃ x', e = .returned (.pointer (some ⟨x'.p, 0, none⟩)) ∧ Dev w0 w' x' (d.crash (keptN ks torn kk)) ∧ Mod (fun _ => False) w w' := by
  have hc := crash_ok w w0.heap.size x h.at_ (by rw [h.lenW]; exact hW) kA kn kc ks torn kk hk hkn
  rw [h.dk] at hc
  refine hc.mono ?_
  rintro e w' ⟨x', rfl, hM⟩
  exact ⟨x', rfl, Dev.made h.old hM, hM.2.2.2⟩
theorem dev_len (w0 w : World) (x : DV) (d : Dk) (h : Dev w0 w x d) : Calls Try.prog 26 #[.pointer (some ⟨x.p, 0, none⟩)] w fun e w' => e = .returned (.int .i64 d.dur.length) ∧ w' = w := by
  have hc := len_ok w _ x h.at_
  rw [h.lenD] at hc
  exact hc
theorem dev_dead (w0 w : World) (x : DV) (d : Dk) (h : Dev w0 w x d) : Calls Try.prog 24 #[.pointer (some ⟨x.p, 0, none⟩)] w fun e w' => e = .returned (.bool d.dead) ∧ w' = w := by
  have hc := dead_ok w _ x h.at_
  rw [show x.dead = d.dead by rw [← h.dk]; rfl] at hc
  exact hc
theorem dev_waits (w0 w : World) (x : DV) (d : Dk) (h : Dev w0 w x d) : Calls Try.prog 25 #[.pointer (some ⟨x.p, 0, none⟩)] w fun e w' => e = .returned (.int .i64 d.pend.length) ∧ w' = w := by
  have hc := waits_ok w _ x h.at_
  rw [h.lenW] at hc
  exact hc

theorem Bl.nil (w : World) : Bl w none 0 0 [] := ⟨rfl, Nat.le_refl _, fun h => absurd h (by omega)⟩
theorem Bl.lit (w : World) (b : Bool) (t : TypeId) : Bl (w.alloc (.cells #[.bool b] t)) (some ⟨w.heap.size, 0, none⟩) 1 1 [b] := by
  refine ⟨rfl, Nat.le_refl _, fun _ => ⟨_, _, rfl, fun j hj => ?_⟩⟩
  obtain rfl : j = 0 := by omega
  rw [cell_of_row _ _ _ _ _ _ (heap_alloc_new w _)]
  rfl
theorem FreshR.sl {w w' : World} {A : Option Addr} {n c : Nat} {xs : List UInt8} (h : FreshR w w' A n c xs) : Sl w' A n c xs := h.1.sl
theorem FreshR.new {w w' : World} {A : Option Addr} {n c : Nat} {xs : List UInt8} (h : FreshR w w' A n c xs) {k : Nat} (hk : blkOf A = some k) : w.heap.size ≤ k := (h.1.lt k hk).1
end Go.Proofs.Ytfgngmoeedegiaa
