/-
  A map in memory; the contracts of Map.Set and Map.Del.
-/
import Derived.Test.YtgeodpflaebbgaaDele
namespace Go.Proofs.Ytgeodpflaebbgaa
open Go Go.RowKit

/-- A map: its object's block, its row, what it holds. -/
structure MV where
  p : Nat
  pid : Int
  plsn : Int
  A : Option Addr
  c : Nat
  l : List Pr
/-- The blocks that its calls turn. -/
def MV.M (x : MV) (k : Nat) : Prop := k = x.p ∨ blkOf x.A = some k
structure MV.At (w : World) (base : Nat) (x : MV) : Prop where
  obj : w.heap[x.p]? = some (.cells #[.int .i64 x.pid, .int .i64 x.plsn, .slice x.A x.l.length x.c] 64 (0, 0))
  row : OwN w base 97 2 x.A x.l.length x.c (prs x.l)
  pb : base ≤ x.p
  ne : blkOf x.A ≠ some x.p
  srt : Srt x.l
section
variable {w w' : World} {base : Nat} {x : MV}
theorem MV.At.rd (h : x.At w base) : MRd w (some ⟨x.p, 2, none⟩) x.l := .inr ⟨x.p, x.c, x.A, rfl, by rw [cell_of_row _ _ _ _ _ _ h.obj]; rfl, h.row.pl, h.row.form⟩
theorem MV.At.mod {F : Nat → Prop} (h : x.At w base) (hm : Mod F w w') (hF : ∀ k, x.M k → ¬ F k) : x.At w' base :=
  ⟨(hm.block x.p (Array.getElem?_eq_some_iff.1 h.obj).1 (hF _ (.inl rfl))).trans h.obj, h.row.mod hm (fun k hk => hF k (.inr hk)), h.pb, h.ne, h.srt⟩
theorem MV.At.keep (h : x.At w base) (hm : Mod (fun _ => False) w w') : x.At w' base := h.mod hm (fun _ _ => id)
theorem MV.At.M_lt (h : x.At w base) {k : Nat} (hk : x.M k) : base ≤ k ∧ k < w.heap.size := by
  rcases hk with e | e
  · subst e; exact ⟨h.pb, (Array.getElem?_eq_some_iff.1 h.obj).1⟩
  · exact h.row.lt k e
end
/-- What a call leaves of a map. -/
structure Kept (w w' : World) (base : Nat) (x x' : MV) (l' : List Pr) : Prop where
  p : x'.p = x.p
  pid : x'.pid = x.pid
  plsn : x'.plsn = x.plsn
  l : x'.l = l'
  at_ : x'.At w' base
  mod : Mod x.M w w'
  new : ∀ k, x'.M k → x.M k ∨ w.heap.size ≤ k

theorem Kept.still {w w' : World} {base : Nat} {x : MV} (h : x.At w base) (hm : Mod (fun _ => False) w w') : Kept w w' base x x x.l :=
  ⟨rfl, rfl, rfl, rfl, h.keep hm, hm.mono (fun _ _ h => h.elim), fun _ hk => .inl hk⟩

/-- The row is put into the object. -/
theorem Kept.store {w w1 w2 : World} {base : Nat} {x : MV} {A' : Option Addr} {n' c' : Nat} {l' : List Pr} (h : x.At w base) (hm : Mod (fun _ => False) w w1) (hp : MPut w1 w2 base x.A A' n' c' l') (hn : l'.length = n') (hs : Srt l') :
    Kept w (w2.setCell ⟨x.p, 2, none⟩ (.slice A' n' c')) base x ⟨x.p, x.pid, x.plsn, A', c', l'⟩ l' := by
  have h1 := h.keep hm
  have hpl : x.p < w.heap.size := (Array.getElem?_eq_some_iff.1 h.obj).1
  have hne : blkOf A' ≠ some x.p := fun e => by
    rcases hp.new x.p e with e' | e'
    · exact h.ne e'
    · have := hm.size; omega
  have ho2 : w2.heap[x.p]? = some (.cells #[.int .i64 x.pid, .int .i64 x.plsn, .slice x.A x.l.length x.c] 64 (0, 0)) := (hp.mod.block x.p (by have := hm.size; omega) h.ne).trans h1.obj
  have hset := heap_set ho2 2 (.slice A' n' c')
  have hm3 : Mod (fun k => k = x.p) w2 (w2.setCell ⟨x.p, 2, none⟩ (.slice A' n' c')) := (Mod.refl (fun k => k = x.p) w2).setCell (p := ⟨x.p, 2, none⟩) (fun _ => rfl) _
  refine ⟨rfl, rfl, rfl, rfl, ⟨by rw [hn]; simpa using hset, ?_, h.pb, hne, hs⟩, ?_, fun k hk => ?_⟩
  · rw [hn]
    exact hp.own.mod hm3 (fun k hk e => hne (by rw [e] at hk; exact hk))
  · exact ((hm.mono (G := x.M) (fun _ _ h => h.elim)).trans hp.mod (fun k _ e => .inr e)).trans hm3 (fun k _ e => .inl e)
  · rcases hk with e | e
    · exact .inl (.inl e)
    · rcases hp.new k e with e' | e'
      · exact .inl (.inr e')
      · right; have := hm.size; omega

theorem prs_set (l : List Pr) : ∀ (i : Nat) (k : Int) (v u : Sv), l[i]? = some (k, u) → (prs l).set (i * 2 + 1) (.slice v.a v.n v.c) = prs (l.set i (k, v)) := by
  induction l with
  | nil => intro i k v u h; simp at h
  | cons y l ih =>
    intro i k v u h
    cases i with
    | zero => simp at h; subst h; rfl
    | succ i =>
      rw [show (i + 1) * 2 + 1 = i * 2 + 1 + 1 + 1 by omega]
      simp only [prs, List.set_cons_succ]
      rw [ih i k v u (by simpa using h)]

/-- One value is put in its place. -/
theorem Kept.over {w w1 : World} {base g : Nat} {x : MV} {k : Int} {v u : Sv} {i : Nat} (h : x.At w base) (hm : Mod (fun _ => False) w w1) (hA : x.A = some ⟨g, 0, none⟩) (hx : x.l[i]? = some (k, u)) (hs : Srt (x.l.set i (k, v))) :
    Kept w (w1.setCell ⟨g, i * 2 + 1, none⟩ (.slice v.a v.n v.c)) base x ⟨x.p, x.pid, x.plsn, x.A, x.c, x.l.set i (k, v)⟩ (x.l.set i (k, v)) := by
  have h1 := h.keep hm
  have hil : i < x.l.length := (List.getElem?_eq_some_iff.1 hx).1
  obtain ⟨g', cur, hA', hbg, hg, hqc, hmax, hcl, htk⟩ := h1.row.open_ (by omega)
  rw [hA] at hA'
  injection hA' with hA'
  injection hA' with hA'
  subst hA'
  have hpg : x.p ≠ g := fun e => h.ne (by rw [hA, e]; rfl)
  have hm3 : Mod (fun k => k = g) w1 (w1.setCell ⟨g, i * 2 + 1, none⟩ (.slice v.a v.n v.c)) := (Mod.refl (fun k => k = g) w1).setCell (p := ⟨g, i * 2 + 1, none⟩) (fun _ => rfl) _
  have hset := heap_set hg (i * 2 + 1) (.slice v.a v.n v.c)
  refine ⟨rfl, rfl, rfl, rfl, ⟨?_, ?_, h.pb, h.ne, hs⟩, ?_, fun b hb => .inl hb⟩
  · simp only [List.length_set]
    exact (hm3.block x.p (Array.getElem?_eq_some_iff.1 h1.obj).1 hpg).trans h1.obj
  · simp only [List.length_set]
    rw [hA]
    refine OwN.mk_ (cur := cur.set (i * 2 + 1) (.slice v.a v.n v.c)) hbg (by simpa using hset) hqc hmax (by simpa using hcl) ?_ (by rw [prs_len, List.length_set])
    rw [List.take_set, htk, prs_set x.l i k v u hx]
  · exact (hm.mono (G := x.M) (fun _ _ h => h.elim)).trans hm3 (fun b _ e => .inr (by rw [hA, e]; rfl))

set_option maxRecDepth 100000 in
set_option maxHeartbeats 1000000 in
theorem mset_ok (w : World) (base : Nat) (x : MV) (h : x.At w base) (hl : x.l.length ≤ 900) (hb : base ≤ w.heap.size) (k : Int) (v : Sv) :
    Calls Try.prog 36 #[.pointer (some ⟨x.p, 2, none⟩), .int .i64 k, .slice v.a v.n v.c] w fun e w' =>
      e = .returned (.bool (!(mGet k x.l).isSome)) ∧ ∃ x', Kept w w' base x x' (mSet k v x.l) := by
  have Hf := Lib.hid (mfind_ok w _ x.l h.rd h.srt (by omega) k)
  have H := Lib.hid h
  have Hb := Lib.hid hb
  have Hset := Lib.hid (h.srt.set (k := k) (v := v))
  have hil := idx_le k x.l
  clear h hb
  rcases mGet_cases k x.l with ⟨y, hy, hk, hg⟩ | ⟨hmiss, hg⟩
  · obtain ⟨yk, yv⟩ := y
    obtain rfl : yk = k := hk
    have hlt := (List.getElem?_eq_some_iff.1 hy).1
    obtain ⟨g, cur, hA, _⟩ := H.out.row.open_ (by omega)
    have HA := Lib.hid hA
    rw [mSet_hit hy rfl] at Hset ⊢
    have Hy := Lib.hid hy
    rw [hg] at Hf ⊢
    clear hy hA hg
    generalize hi : idx yk x.l = i at *
    clear hi
    have hi : (i : Int) < x.l.length := by omega
    go_enter Try.func36, Try.ntmps36
    go_wp2_with fail
    refine Hf.out.mono ?_
    rintro e w2 ⟨rfl, hm⟩
    have h2 := H.out.keep hm
    have c0 : w2.cell? ⟨x.p, 2, none⟩ = some (.slice (some ⟨g, 0, none⟩) x.l.length x.c) := by rw [cell_of_row _ _ _ _ _ _ h2.obj, HA.out]; rfl
    have hpl := h2.row.pl
    rw [HA.out] at hpl
    obtain ⟨g', o', e, hcs⟩ := hpl.2.2 (by omega)
    injection e with e
    injection e with e1 e2
    subst e1 e2
    obtain ⟨_, c1⟩ := hcs i _ Hy.out
    rw [Nat.zero_add] at c1
    obtain ⟨g', cur', hA', _, hg', _⟩ := h2.row.open_ (by omega)
    rw [HA.out] at hA'
    injection hA' with hA'
    injection hA' with hA'
    subst hA'
    have hfz : w2.frozen? ⟨g, i * 2 + 1, none⟩ = false := frozen_of_block hg' _
    have Hk := Lib.hid (Kept.over (v := v) H.out hm HA.out Hy.out Hset.out)
    clear hcs hpl h2 hm hg'
    go_wp2
    go_ret
    exact ⟨rfl, _, Hk.out⟩
  · have Hmiss := Lib.hid (mSet_miss (v := v) hmiss)
    rw [hg] at Hf ⊢
    clear hmiss hg
    have Hms := Lib.hid (mSet_miss (k := k) (v := v) (l := x.l))
    generalize hi : idx k x.l = i at *
    go_enter Try.func36, Try.ntmps36
    go_wp2_with fail
    refine Hf.out.mono ?_
    rintro e w2 ⟨rfl, hm⟩
    have h2 := H.out.keep hm
    have c0 : w2.cell? ⟨x.p, 2, none⟩ = some (.slice x.A x.l.length x.c) := by rw [cell_of_row _ _ _ _ _ _ h2.obj]; rfl
    have hm3 : Mod (fun _ => False) w (w2.alloc (.cells #[.int .i64 k, .slice v.a v.n v.c] 97)) := hm.alloc _
    have h3 := H.out.keep hm3
    have hins := insert_ok (w2.alloc (.cells #[.int .i64 k, .slice v.a v.n v.c] 97)) base x.A x.l.length x.c i x.l h3.row (by omega) hil (by have := hm3.size; have := Hb.out; omega) w2.heap.size (k, v) (heap_alloc_new w2 _)
      (fun e => by have := (h2.row.lt _ e).2; omega)
    have Hins := Lib.hid hins
    have Hm3 := Lib.hid hm3
    clear hins h2 h3 hm hm3
    go_wp2_with fail
    refine Hins.out.mono ?_
    rintro e w4 ⟨A', c', rfl, hput⟩
    have hk := Kept.store (n' := x.l.length + 1) H.out Hm3.out hput (by rw [List.length_append, List.length_cons, List.length_take, List.length_drop]; omega) (by rw [← Hmiss.out]; exact Hset.out)
    rw [← Hmiss.out] at hk
    have ho4 : w4.heap[x.p]? = some (.cells #[.int .i64 x.pid, .int .i64 x.plsn, .slice x.A x.l.length x.c] 64 (0, 0)) := (hput.mod.block x.p (by have := Hm3.out.size; have := (H.out.M_lt (.inl rfl)).2; omega) H.out.ne).trans (H.out.keep Hm3.out).obj
    have hc4 : w4.cell? ⟨x.p, 2, none⟩ = some (.slice x.A x.l.length x.c) := by rw [cell_of_row _ _ _ _ _ _ ho4]; rfl
    have hf4 : w4.frozen? ⟨x.p, 2, none⟩ = false := frozen_of_block ho4 _
    have Hk := Lib.hid hk
    clear hk hput ho4 c0
    go_wp2
    go_ret
    exact ⟨rfl, _, Hk.out⟩

set_option maxRecDepth 100000 in
theorem mset_nil (w : World) (k : Int) (v : Sv) : Calls Try.prog 36 #[.pointer none, .int .i64 k, .slice v.a v.n v.c] w fun e w' => e = .returned (.bool false) ∧ w' = w := by
  go_enter Try.func36, Try.ntmps36
  go_wp2
  go_ret
  exact ⟨rfl, rfl⟩

set_option maxRecDepth 100000 in
theorem del_miss (w : World) (P : Option Addr) (l : List Pr) (h : MRd w P l) (hs : Srt l) (hn : l.length ≤ 1000) (k : Int) (hg : mGet k l = none) :
    Calls Try.prog 35 #[.pointer P, .int .i64 k] w fun e w' => e = .returned (.bool false) ∧ Mod (fun _ => False) w w' := by
  have Hf := Lib.hid (mfind_ok w P l h hs hn k)
  rw [hg] at Hf
  clear h hs hg
  go_enter Try.func35, Try.ntmps35
  go_wp2_with fail
  refine Hf.out.mono ?_
  rintro e w2 ⟨rfl, hm⟩
  go_wp2
  go_ret
  exact ⟨rfl, hm⟩

set_option maxRecDepth 100000 in
set_option maxHeartbeats 1000000 in
theorem mdel_ok (w : World) (base : Nat) (x : MV) (h : x.At w base) (hl : x.l.length ≤ 900) (k : Int) :
    Calls Try.prog 35 #[.pointer (some ⟨x.p, 2, none⟩), .int .i64 k] w fun e w' =>
      e = .returned (.bool (mGet k x.l).isSome) ∧ ∃ x', Kept w w' base x x' (mDel k x.l) := by
  rcases mGet_cases k x.l with ⟨y, hy, hk, hg⟩ | ⟨hmiss, hg⟩
  · have hdl := mDel_hit hy hk
    have hlt := (List.getElem?_eq_some_iff.1 hy).1
    have Hf := Lib.hid (mfind_ok w _ x.l h.rd h.srt (by omega) k)
    have H := Lib.hid h
    have Hdel := Lib.hid (h.srt.del (k := k))
    obtain ⟨g, cur, hA, _⟩ := h.row.open_ (by omega)
    have HA := Lib.hid hA
    rw [hdl] at Hdel ⊢
    rw [hg] at Hf ⊢
    clear hy hA hg hdl h hk
    generalize hi : idx k x.l = i at *
    clear hi
    obtain ⟨q, hq⟩ : ∃ q, x.l.length = q + 1 := ⟨x.l.length - 1, by omega⟩
    go_enter Try.func35, Try.ntmps35
    go_wp2_with fail
    refine Hf.out.mono ?_
    rintro e w2 ⟨rfl, hm⟩
    have h2 := H.out.keep hm
    have c0 : w2.cell? ⟨x.p, 2, none⟩ = some (.slice (some ⟨g, 0, none⟩) (q + 1) x.c) := by rw [cell_of_row _ _ _ _ _ _ h2.obj, HA.out, hq]; rfl
    have hrow := h2.row
    rw [HA.out, hq] at hrow
    have Hd := Lib.hid (delete_ok w2 base g q x.c i x.l hrow (by omega) (by omega))
    have Hm := Lib.hid hm
    have Hq := Lib.hid hq
    have hiq : i ≤ q := by omega
    have hq9 : q ≤ 900 := by omega
    clear hm h2 hrow hq hlt
    go_wp2_with fail
    refine Hd.out.mono ?_
    rintro e w4 ⟨rfl, hput⟩
    rw [← HA.out] at hput
    have hk := Kept.store (n' := q) H.out Hm.out hput (by rw [List.length_append, List.length_take, List.length_drop, Hq.out]; omega) Hdel.out
    have ho4 : w4.heap[x.p]? = some (.cells #[.int .i64 x.pid, .int .i64 x.plsn, .slice x.A x.l.length x.c] 64 (0, 0)) := (hput.mod.block x.p (by have := Hm.out.size; have := (H.out.M_lt (.inl rfl)).2; omega) H.out.ne).trans (H.out.keep Hm.out).obj
    have hc4 : w4.cell? ⟨x.p, 2, none⟩ = some (.slice x.A x.l.length x.c) := by rw [cell_of_row _ _ _ _ _ _ ho4]; rfl
    have hf4 : w4.frozen? ⟨x.p, 2, none⟩ = false := frozen_of_block ho4 _
    rw [HA.out] at hk
    have Hk := Lib.hid hk
    clear hk hput ho4 c0
    go_wp2
    go_ret
    exact ⟨rfl, _, Hk.out⟩
  · rw [hg, mDel_miss hmiss]
    refine (del_miss w _ x.l h.rd h.srt (by omega) k hg).mono ?_
    rintro e w' ⟨rfl, hm⟩
    exact ⟨rfl, x, Kept.still h hm⟩
end Go.Proofs.Ytgeodpflaebbgaa
