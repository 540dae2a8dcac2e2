/-
  A page's content in memory: values that read as records; page.content.used.
-/
import Derived.Test.YtgeodpflaebbgaaIter
import Derived.Test.YtgeodpflaebbgaaPMath
import Derived.Test.YtgeodpflaebbgaaByt2
namespace Go.Proofs.Ytgeodpflaebbgaa
open Go Go.RowKit Go.Shelf
attribute [local go_sem] Oper.semAt_some

section
variable {W W' : World} {row : Option Nat}
theorem blk_kept {k : Nat} {cs : Array Value} {t : TypeId} {fr : Nat × Nat} (h : W.heap[k]? = some (.cells cs t fr)) (hg : W.grownBy W' row) (hr : ∀ r, row = some r → ∃ o : Obj, W.heap[r]? = some o ∧ o.isCells = false) : W'.heap[k]? = some (.cells cs t fr) := by
  refine (hg.block k (Array.getElem?_eq_some_iff.1 h).1 (fun e => ?_)).trans h
  obtain ⟨o, ho, hc⟩ := hr k e.symm
  rw [h] at ho
  injection ho with ho
  subst ho
  cases hc
theorem OwN.own {base : Nat} {e : TypeId} {size : Nat} {A : Option Addr} {n c : Nat} {vs : List Value} (h : OwN W base e size A n c vs) (hg : W.grownBy W' row) (hr : ∀ r, row = some r → ∃ o : Obj, W.heap[r]? = some o ∧ o.isCells = false) : OwN W' base e size A n c vs := by
  refine ⟨h.1, ?_⟩
  rcases h.2 with hn | ⟨g, cap, cur, hv, hb, hgg, rest⟩
  · exact .inl hn
  · exact .inr ⟨g, cap, cur, hv, hb, blk_kept hgg hg hr, rest⟩
/-- Its block holds cells of its own element type. -/
theorem OwN.typed {base : Nat} {e : TypeId} {size : Nat} {A : Option Addr} {n c : Nat} {vs : List Value} (h : OwN W base e size A n c vs) {k : Nat} (hk : blkOf A = some k) : ∃ cur, W.heap[k]? = some (.cells cur e (0, 0)) := by
  rcases h.2 with ⟨hv, _⟩ | ⟨g, cap, cur, hv, hb, hgg, rest⟩
  · injection hv with hA; subst hA; simp [blkOf] at hk
  · injection hv with hA
    subst hA
    simp [blkOf] at hk
    subst hk
    exact ⟨cur, hgg⟩
/-- A store into one box: what it keeps of everything else. -/
theorem keeps_of_mod {F : Nat → Prop} (hm : Mod F W W') (hF : ∀ k, k < W.heap.size → F k → ∃ cs t fr, W.heap[k]? = some (.cells cs t fr) ∧ t ≠ 97) : (∀ B, KeepsFrom B W W') ∧ KpE W W' := by
  refine ⟨fun B => ⟨hm.size, fun k o _ hk ho => ?_⟩, hm.size, fun k cur fr hk => ?_⟩
  · refine (hm.block k (Array.getElem?_eq_some_iff.1 hk).1 (fun e => ?_)).trans hk
    obtain ⟨cs, t, fr, h, _⟩ := hF k (Array.getElem?_eq_some_iff.1 hk).1 e
    rw [hk] at h
    injection h with h
    subst h
    cases ho
  · refine (hm.block k (Array.getElem?_eq_some_iff.1 hk).1 (fun e => ?_)).trans hk
    obtain ⟨cs, t, fr', h, ht⟩ := hF k (Array.getElem?_eq_some_iff.1 hk).1 e
    rw [hk] at h
    injection h with h
    injection h with _ h
    exact absurd h.symm ht
end

/-- Entries whose values read as the records rs; the blocks that they lie in are among Q. -/
def Vals (w : World) (Q : Nat → Prop) : List Pr → List Rec → Prop
  | [], [] => True
  | e :: L, r :: rs => (e.1 = r.1 ∧ Sl w e.2.a e.2.n e.2.c r.2 ∧ ∀ k, blkOf e.2.a = some k → 0 < e.2.n → Q k) ∧ Vals w Q L rs
  | _, _ => False
section
variable {w w' : World} {Q Q' : Nat → Prop}
theorem Vals.len : ∀ {L : List Pr} {rs : List Rec}, Vals w Q L rs → L.length = rs.length
  | [], [], _ => rfl
  | _ :: _, _ :: _, h => by simp only [List.length_cons]; rw [Vals.len h.2]
theorem Vals.mod {F : Nat → Prop} (hm : Mod F w w') (hF : ∀ k, k < w.heap.size → Q k → ¬ F k ∧ Q' k) : ∀ {L : List Pr} {rs : List Rec}, Vals w Q L rs → Vals w' Q' L rs
  | [], [], _ => trivial
  | e :: L, r :: rs, h => by
    have hq : ∀ k, blkOf e.2.a = some k → 0 < e.2.n → ¬ F k ∧ Q' k := fun k hk hn => by
      obtain ⟨b, o, ha, hb⟩ := h.1.2.1.lt hn
      have : b = k := by rw [ha] at hk; simpa [blkOf] using hk
      subst this
      exact hF b hb (h.1.2.2 b hk hn)
    exact ⟨⟨h.1.1, h.1.2.1.mod hm (fun k hk hn => (hq k hk hn).1), fun k hk hn => (hq k hk hn).2⟩, Vals.mod hm hF h.2⟩
theorem Vals.mono (hQ : ∀ k, Q k → Q' k) {L : List Pr} {rs : List Rec} (h : Vals w Q L rs) : Vals w Q' L rs := h.mod (Mod.refl (fun _ => False) w) (fun k _ hk => ⟨id, hQ k hk⟩)
theorem Vals.keep (hm : Mod (fun _ => False) w w') {L : List Pr} {rs : List Rec} (h : Vals w Q L rs) : Vals w' Q L rs := h.mod hm (fun _ _ h => ⟨id, h⟩)
theorem Vals.set {k : Int} {v : Sv} {xs : List UInt8} (hv : Sl w v.a v.n v.c xs) (hQ : ∀ j, blkOf v.a = some j → 0 < v.n → Q j) : ∀ {L : List Pr} {rs : List Rec}, Vals w Q L rs → Vals w Q (mSet k v L) (mSet k xs rs)
  | [], [], _ => ⟨⟨rfl, hv, hQ⟩, trivial⟩
  | e :: L, r :: rs, h => by
    simp only [mSet]
    rw [h.1.1]
    split
    · exact ⟨h.1, Vals.set hv hQ h.2⟩
    · split
      · exact ⟨⟨rfl, hv, hQ⟩, h.2⟩
      · exact ⟨⟨rfl, hv, hQ⟩, h⟩
theorem Vals.del {k : Int} : ∀ {L : List Pr} {rs : List Rec}, Vals w Q L rs → Vals w Q (mDel k L) (mDel k rs)
  | [], [], _ => trivial
  | e :: L, r :: rs, h => by
    simp only [mDel]
    rw [h.1.1]
    split
    · exact ⟨h.1, Vals.del h.2⟩
    · split
      · exact h.2
      · exact h
theorem Vals.get {k : Int} : ∀ {L : List Pr} {rs : List Rec}, Vals w Q L rs → (mGet k L = none ∧ mGet k rs = none) ∨ ∃ v xs, mGet k L = some v ∧ mGet k rs = some xs ∧ Sl w v.a v.n v.c xs ∧ ∀ j, blkOf v.a = some j → 0 < v.n → Q j
  | [], [], _ => .inl ⟨rfl, rfl⟩
  | e :: L, r :: rs, h => by
    simp only [mGet]
    rw [h.1.1]
    split
    · exact Vals.get h.2
    · split
      · exact .inr ⟨_, _, rfl, rfl, h.1.2⟩
      · exact .inl ⟨rfl, rfl⟩
theorem Vals.snoc {e : Pr} {r : Rec} (he : e.1 = r.1 ∧ Sl w e.2.a e.2.n e.2.c r.2 ∧ ∀ k, blkOf e.2.a = some k → 0 < e.2.n → Q k) : ∀ {L : List Pr} {rs : List Rec}, Vals w Q L rs → Vals w Q (L ++ [e]) (rs ++ [r])
  | [], [], _ => ⟨he, trivial⟩
  | _ :: _, _ :: _, h => ⟨h.1, Vals.snoc he h.2⟩
theorem Vals.srt : ∀ {L : List Pr} {rs : List Rec}, Vals w Q L rs → Srt rs → Srt L
  | [], [], _, _ => List.Pairwise.nil
  | e :: L, r :: rs, h, hs => by
    obtain ⟨h1, h2⟩ := List.pairwise_cons.1 hs
    refine List.pairwise_cons.2 ⟨fun z hz => ?_, Vals.srt h.2 h2⟩
    have : ∀ {L : List Pr} {rs : List Rec}, Vals w Q L rs → z ∈ L → ∃ q ∈ rs, z.1 = q.1 := by
      intro L
      induction L with
      | nil => intro rs _ hz; cases hz
      | cons y L ih =>
        intro rs h hz
        cases rs with
        | nil => exact h.elim
        | cons q rs =>
          rcases List.mem_cons.1 hz with e | e
          · subst e; exact ⟨q, List.mem_cons_self .., h.1.1⟩
          · obtain ⟨s, hs, e'⟩ := ih h.2 e
            exact ⟨s, List.mem_cons_of_mem _ hs, e'⟩
    obtain ⟨q, hq, e'⟩ := this h.2 hz
    rw [h.1.1, e']
    exact h1 q hq
end

/-- The sum of the sizes, of the lengths that entries have. -/
def sumS : List Pr → Nat
  | [] => 0
  | x :: l => (4 + x.2.n) + sumS l
theorem sumS_append (a b : List Pr) : sumS (a ++ b) = sumS a + sumS b := by
  induction a with
  | nil => simp [sumS]
  | cons x l ih => simp only [List.cons_append, sumS, ih]; omega
theorem Vals.sum {w : World} {Q : Nat → Prop} : ∀ {L : List Pr} {rs : List Rec}, Vals w Q L rs → sumS L = usedL rs
  | [], [], _ => rfl
  | e :: L, r :: rs, h => by simp only [sumS, usedL]; rw [Vals.sum h.2, h.1.2.1.len]

/-- Entries, each of which is short. -/
abbrev Sh := { z : Pr // z.2.n ≤ 100 }
theorem sumS_short (l : List Sh) : sumS (l.map Subtype.val) ≤ l.length * 104 := by
  induction l with
  | nil => simp [sumS]
  | cons x l ih => have := x.2; simp only [List.map_cons, sumS, List.length_cons]; omega
def shorts : (L : List Pr) → (∀ z ∈ L, z.2.n ≤ 100) → List Sh
  | [], _ => []
  | x :: l, h => ⟨x, h x (List.mem_cons_self ..)⟩ :: shorts l (fun z hz => h z (List.mem_cons_of_mem _ hz))
theorem shorts_map : ∀ (L : List Pr) (h : ∀ z ∈ L, z.2.n ≤ 100), (shorts L h).map Subtype.val = L
  | [], _ => rfl
  | x :: l, h => by simp only [shorts, List.map_cons]; rw [shorts_map l]

theorem seq_some (w : World) (f : FuncId) (lb : Array Value) : (binOp .eql 72 (.func (.func f) #[] lb) .nilFunc).run Try.prog w = .ok (.bool false) w := by kernel_rfl

/-- What the loop of used has so far. -/
structure Sums (w : World) (Bo : Nat) (pre : List Sh) (W : World) : Prop where
  box : Boxed W Bo 3 (.int .i64 (sumS (pre.map Subtype.val)))
  old : Mod (fun _ => False) w W
  lt : w.heap.size ≤ Bo
theorem Sums.own {w W W' : World} {Bo B : Nat} {pre : List Sh} {row : Option Nat} (hB : w.heap.size ≤ B) (h : Sums w Bo pre W) (hg : W.grownBy W' row) (hr : ∀ r, row = some r → B ≤ r ∧ ∃ o : Obj, W.heap[r]? = some o ∧ o.isCells = false) : Sums w Bo pre W' :=
  ⟨blk_kept h.box hg (fun r e => (hr r e).2), h.old.grown hg (fun k e hk => by have := (hr k e).1; omega), h.lt⟩
theorem Sums.step {w W : World} {Bo : Nat} {pre : List Sh} {z : Sh} (h : Sums w Bo pre W) :
    Sums w Bo (pre ++ [z]) (W.setCell ⟨Bo, 0, none⟩ (.int .i64 ((sumS (pre.map Subtype.val) : Int) + (4 + (z.1.2.n : Int))))) ∧
      (∀ B, KeepsFrom B W (W.setCell ⟨Bo, 0, none⟩ (.int .i64 ((sumS (pre.map Subtype.val) : Int) + (4 + (z.1.2.n : Int)))))) ∧ KpE W (W.setCell ⟨Bo, 0, none⟩ (.int .i64 ((sumS (pre.map Subtype.val) : Int) + (4 + (z.1.2.n : Int))))) := by
  have hm : Mod (fun k => k = Bo) W (W.setCell ⟨Bo, 0, none⟩ (.int .i64 ((sumS (pre.map Subtype.val) : Int) + (4 + (z.1.2.n : Int))))) := (Mod.refl (fun k => k = Bo) W).setCell (p := ⟨Bo, 0, none⟩) (fun _ => rfl) _
  refine ⟨⟨?_, h.old.trans hm (fun k hk e => by have := h.lt; omega), h.lt⟩, keeps_of_mod hm (fun k _ e => ?_)⟩
  · rw [List.map_append, sumS_append]
    have := h.box.set (.int .i64 ((sumS (pre.map Subtype.val) : Int) + (4 + (z.1.2.n : Int))))
    simpa [sumS] using this
  · subst e
    exact ⟨_, _, _, h.box, by decide⟩

set_option maxRecDepth 100000 in
set_option maxHeartbeats 4000000 in
theorem used_ok (w : World) (p : Nat) (L : List Pr) (hR : MRd w (some ⟨p, 2, none⟩) L) (hL : L.length ≤ 900) (hS : ∀ z ∈ L, z.2.n ≤ 100) :
    Calls Try.prog 37 #[.pointer (some ⟨p, 0, none⟩)] w fun e w' => e = .returned (.int .i64 (sumS L)) ∧ Mod (fun _ => False) w w' := by
  refine (callsIn_wide (n := 8)).1 ?_
  have hfn := seq_some
  have HR := Lib.hid hR
  obtain ⟨LS, hLS⟩ : ∃ LS : List Sh, LS.map Subtype.val = L := ⟨shorts L hS, shorts_map L hS⟩
  subst hLS
  rw [List.length_map] at hL
  clear hR hS
  refine callsIn_of_wp_marks Try.func37 rfl trivial ?_ rfl
  simp only [Try.ntmps37, List.size_toArray, List.length_cons, List.length_nil, Nat.reduceAdd, Nat.reduceSub, Array.replicate_succ, Array.replicate_zero, List.push_toArray, List.append_toArray, List.nil_append, List.cons_append]
  gi_wp2_with fail
  refine ⟨trivial, ?_⟩
  refine (callsIn_wide.2 (mall_ok _ _)).mono ?_
  rintro e wD ⟨rfl, hwD⟩
  obtain ⟨w1, hw1⟩ : ∃ w1, w1 = w.alloc (.cells #[.int .i64 0] 3) := ⟨_, rfl⟩
  have hm0 : Mod (fun _ => False) w w1 := by rw [hw1]; exact (Mod.refl _ w).alloc _
  have hs1 : w1.heap.size = w.heap.size + 1 := by rw [hw1, World.size_alloc]
  have hbo : Boxed w1 w.heap.size 3 (.int .i64 0) := by rw [hw1]; exact Boxed.new w _ _
  rw [← hw1] at hwD ⊢
  have hsD : wD.heap.size = w.heap.size + 2 := by rw [hwD]; simp only [World.size_alloc]; omega
  have hmD1 : Mod (fun _ => False) w1 wD := by rw [hwD]; exact (Mod.refl _ _).alloc _
  have hmD : Mod (fun _ => False) w wD := hm0.trans hmD1 (fun _ _ h => h)
  have hI0 : Sums w w.heap.size [] wD := ⟨(hmD1.block _ hbo.lt id).trans hbo, hmD, Nat.le_refl _⟩
  have hbx : Boxed wD w1.heap.size 90 (.pointer (some ⟨p, 2, none⟩)) := by rw [hwD]; exact Boxed.new w1 _ _
  have hIts : Its wD w1.heap.size (some ⟨p, 2, none⟩) (LS.map Subtype.val) := ⟨hbx.cell, HR.out.keep hmD⟩
  rw [hs1] at hIts ⊢
  have HI0 := Lib.hid hI0
  have HsD := Lib.hid hsD
  have HIts := Lib.hid hIts
  clear hI0 hsD hIts hbx hmD hmD1 hm0 hbo hs1 hw1 hwD
  gi_wp2_with fail
  refine wpIn_rangeFunc_ownH (α := Sh) rfl (by omega) (gf := 47) (lb := #[.pointer (some ⟨w.heap.size + 1, 0, none⟩)]) rfl trivial (enters_of Try.func47 (by kernel_rfl) rfl)
    (all1_stops Subtype.val 7 (w.heap.size + 1) (by omega) (some ⟨p, 2, none⟩) LS (by omega) wD HIts.out)
    KpE.trans
    (fun W l o o' hl ho hc _ => ⟨by simp, fun j cur fr hj => (World.putObj_heap_other (fun e => by subst e; rw [hj] at ho; injection ho with ho; subst ho; cases hc)).trans hj⟩)
    (Below.refl _ _) (fun _ => rfl)
    (fun pre W => Sums w w.heap.size pre W ∧ pre.length ≤ 1000)
    (fun _ _ _ => False)
    ?hI ?hIx ?h0
    (fun z a' _ => a' = { tmps := #[.pointer (some ⟨p, 0, none⟩), undef, .int .i64 0, .pointer (some ⟨w.heap.size, 0, none⟩), undef, .slice z.1.2.a z.1.2.n z.1.2.c, .pointer (some ⟨p, 0, none⟩), .pointer (some ⟨p, 0, none⟩), .pointer (some ⟨p, 2, none⟩), .func (.func 47) #[] #[.pointer (some ⟨w.heap.size + 1, 0, none⟩)], .int .i64 z.1.1, .slice z.1.2.a z.1.2.n z.1.2.c, undef, undef, undef, undef, undef, undef], defers := [] })
    ?hAx ?assign ?body ?done ?stop
  case hI =>
    rintro pre A B row ⟨h1, h2⟩ hg hr
    exact ⟨h1.own (by have := HsD.out; omega) hg hr, h2⟩
  case hIx =>
    rintro c pre A B row h hg hr
    exact h
  case h0 => exact ⟨HI0.out, by simp⟩
  case hAx => intro z a' _ A B row h _ _; exact h
  case assign =>
    rintro l pre z W K hi hK
    have HK := Lib.hid hK
    have Hi := Lib.hid hi
    clear hK hi
    dsimp only [prEnc]
    gi_wp2
    exact HK.out _ _ ⟨Nat.le_refl _, fun _ _ _ h _ => h⟩ ⟨Nat.le_refl _, fun _ _ _ h => h⟩ Hi.out rfl
  case body =>
    rintro l pre z a' W hl _ ⟨ho, hle⟩ rfl hN
    have cb := ho.box.cell
    have hfb := ho.box.frozen
    have Hst := Lib.hid (ho.step (z := z))
    have hz := z.2
    have hsum : (sumS (pre.map Subtype.val) : Int) ≤ 1000 * 104 := by
      have := sumS_short pre
      have : pre.length * 104 ≤ 1000 * 104 := Nat.mul_le_mul_right _ hle
      omega
    have HN := Lib.hid hN
    clear ho hN
    generalize sumS (pre.map Subtype.val) = S at *
    gi_wp2
    exact ⟨Hst.out.2.1 _, Hst.out.2.2, Hst.out.1, by rw [List.length_append, List.length_singleton]; have := HN.out; omega⟩
  case stop =>
    rintro D c pre W hD hpre h hK
    exact h.elim
  case done =>
    rintro D zs W hD rfl ⟨ho, _⟩ hK
    have hc := ho.box.cell
    have hg2 := grownBy_putObj' W D (.deferred none)
    have Hm : Hid (Mod (fun _ => False) w (W.putObj D (.deferred none))) := ho.old.grown hg2 (fun k e hk => by cases e; have := HsD.out; omega)
    have HK := Lib.hid hK
    clear hK ho
    gi_wp2
    refine ⟨by simp, .inl ⟨_, _, rfl, run_takeDeferred HK.out, ?_⟩⟩
    refine ⟨_, results_tmp (t := 2) rfl _ _ _, ?_⟩
    exact ⟨rfl, Hm.out⟩
end Go.Proofs.Ytgeodpflaebbgaa
