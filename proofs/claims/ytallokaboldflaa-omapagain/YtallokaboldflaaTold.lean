/-
  What a map hands on: bobbinlaw04.told.
-/
import Derived.Test.YtallokaboldflaaIter
namespace Go.Proofs.Ytallokaboldflaa
open Go Go.RowKit Go.Shelf
attribute [local go_sem] Oper.semAt_some

theorem pairElem : ElemN Try.prog 28 45 (.agg #[.int .i64 0, .string ⟨#[]⟩]) 2 24 :=
  ElemN.mk_ Try.underlying28 rfl (by decide) (by kernel_rfl)

theorem wpListIn_appN {F : Fence} {nF : Nat} {P : Program} {w : World} {ops : Array Oper} {rest : List Oper} {o : Oper} {a : Act} {Q : Exit → Act → World → Prop} (s x : Operand) {t e : TypeId} {z : Value} {size bytes : Nat}
    {base : Nat} {A : Option Addr} {n c : Nat} {vs : List Value} {A2 : Option Addr} {m c2 : Nat} {news : List Value}
    (he : ElemN P t e z size bytes) (hgd : o.guard = none)
    (ho : o.op = .call { callee := .builtin .append, args := #[s, x], argTypes := #[t, t] })
    (hes : a.eval s = .slice A n c) (hex : a.eval x = .slice A2 m c2)
    (hown : OwN w base e size A n c vs) (hs : SrcN w A2 m size news)
    (hb : (n + m) * bytes ≤ 140737488355328) (h63 : n + m ≤ maxLen) (hbase : base ≤ w.heap.size)
    (h : ∀ A' c' w', OwN w' base e size A' (n + m) c' (vs ++ news) → w.grownBy w' (blkOf A) → (blkOf A' = blkOf A ∨ blkOf A' = some w.heap.size) → wpListIn F nF P ops Q rest (a.put o.dst (.slice A' (n + m) c')) w') :
    wpListIn F nF P ops Q (o :: rest) a w := by
  refine wpListIn_plain hgd fun K hK => ?_
  obtain ⟨A', c', w', hr, h2, h3, h4⟩ := run_appN (P := P) (w := w) he o.type hown (c2 := c2) hs hb h63 hbase
  unfold Oper.wpIn
  refine ⟨by simp [Oper.about, ho, resolve, Target.leads, Sem.run_pure], ?_⟩
  rw [Oper.semAt_plain F _ _ (by rw [ho]; intro c hc'; cases hc')]
  simp [execOp, ho, resolve, invoke, builtin, hes, hex, hr, Result.andThen]
  exact hK _ _ (h A' c' w' h2 h3 h4)

section
variable {W W' : World} {row : Option Nat}
theorem blk_kept {k : Nat} {cs : Array Value} {t : TypeId} {fr : Nat × Nat} (h : W.heap[k]? = some (.cells cs t fr)) (hg : W.grownBy W' row) (hr : ∀ r, row = some r → ∃ o : Obj, W.heap[r]? = some o ∧ o.isCells = false) : W'.heap[k]? = some (.cells cs t fr) := by
  refine (hg.block k (Array.getElem?_eq_some_iff.1 h).1 (fun e => ?_)).trans h
  obtain ⟨o, ho, hc⟩ := hr k e.symm
  rw [h] at ho
  injection ho with ho
  subst ho
  cases hc
theorem OwN.own {base : Nat} {e : TypeId} {size : Nat} {A : Option Addr} {n c : Nat} {vs : List Value} (h : OwN W base e size A n c vs) (hg : W.grownBy W' row) (hr : ∀ r, row = some r → ∃ o : Obj, W.heap[r]? = some o ∧ o.isCells = false) : OwN W' base e size A n c vs := by
  refine ⟨h.1, ?_⟩
  rcases h.2 with hn | ⟨g, cap, cur, hv, hb, hgg, rest⟩
  · exact .inl hn
  · exact .inr ⟨g, cap, cur, hv, hb, blk_kept hgg hg hr, rest⟩
/-- Its block holds cells of its own element type. -/
theorem OwN.typed {base : Nat} {e : TypeId} {size : Nat} {A : Option Addr} {n c : Nat} {vs : List Value} (h : OwN W base e size A n c vs) {k : Nat} (hk : blkOf A = some k) : ∃ cur, W.heap[k]? = some (.cells cur e (0, 0)) := by
  rcases h.2 with ⟨hv, _⟩ | ⟨g, cap, cur, hv, hb, hgg, rest⟩
  · injection hv with hA; subst hA; simp [blkOf] at hk
  · injection hv with hA
    subst hA
    simp [blkOf] at hk
    subst hk
    exact ⟨cur, hgg⟩
end

/-- What the loop has so far, in memory laid since w. -/
structure Outs (w : World) (Bm Bo : Nat) (most : Int) (pre : List Pr) (W : World) : Prop where
  ex : ∃ A c, Boxed W Bo 28 (.slice A pre.length c) ∧ OwN W w.heap.size 45 2 A pre.length c (prs pre)
  bm : Boxed W Bm 3 (.int .i64 most)
  old : Mod (fun _ => False) w W
  lt : w.heap.size ≤ Bo ∧ w.heap.size ≤ Bm ∧ Bm ≠ Bo
theorem Outs.own {w W W' : World} {Bm Bo B : Nat} {most : Int} {pre : List Pr} {row : Option Nat} (hB : w.heap.size ≤ B) (h : Outs w Bm Bo most pre W) (hg : W.grownBy W' row) (hr : ∀ r, row = some r → B ≤ r ∧ ∃ o : Obj, W.heap[r]? = some o ∧ o.isCells = false) : Outs w Bm Bo most pre W' := by
  obtain ⟨A, c, h1, h2⟩ := h.ex
  exact ⟨⟨A, c, blk_kept h1 hg (fun r e => (hr r e).2), h2.own hg (fun r e => (hr r e).2)⟩, blk_kept h.bm hg (fun r e => (hr r e).2), h.old.grown hg (fun k e hk => by have := (hr k e).1; omega), h.lt⟩

/-- What is known of a round that has put a pair behind the others. -/
theorem Outs.step {w W W1 : World} {Bm Bo : Nat} {most : Int} {pre : List Pr} {z : Pr} {A A' : Option Addr} {c c' : Nat} (h : Outs w Bm Bo most pre W) (h1 : Boxed W Bo 28 (.slice A pre.length c)) (h2 : OwN W w.heap.size 45 2 A pre.length c (prs pre))
    (hown : OwN W1 w.heap.size 45 2 A' (pre.length + 1) c' (prs pre ++ [.int .i64 z.1, .string z.2])) (hg : (W.alloc (.cells #[.int .i64 z.1, .string z.2] 45)).grownBy W1 (blkOf A)) (hA : blkOf A' = blkOf A ∨ blkOf A' = some (W.alloc (.cells #[.int .i64 z.1, .string z.2] 45)).heap.size) :
    Boxed W1 Bo 28 (.slice A pre.length c) ∧ Outs w Bm Bo most (pre ++ [z]) (W1.setCell ⟨Bo, 0, none⟩ (.slice A' (pre.length + 1) c')) ∧
      (∀ B, KeepsFrom B W (W1.setCell ⟨Bo, 0, none⟩ (.slice A' (pre.length + 1) c'))) ∧ KpE W (W1.setCell ⟨Bo, 0, none⟩ (.slice A' (pre.length + 1) c')) := by
  have hAo : ∀ k, blkOf A = some k → k ≠ Bo ∧ k ≠ Bm := fun k hk => by
    obtain ⟨cur, hc⟩ := h2.typed hk
    refine ⟨fun e => ?_, fun e => ?_⟩
    · subst e
      have h1' : W.heap[k]? = some (.cells #[.slice A pre.length c] 28 (0, 0)) := h1
      rw [hc] at h1'
      injection h1' with e
      injection e with _ e
      exact absurd e (by decide)
    · subst e
      have h1' : W.heap[k]? = some (.cells #[.int .i64 most] 3 (0, 0)) := h.bm
      rw [hc] at h1'
      injection h1' with e
      injection e with _ e
      exact absurd e (by decide)
  have hmA : Mod (fun k => blkOf A = some k) W W1 := ((Mod.refl _ W).alloc _).grown hg (fun k e _ => e)
  have hb1 : Boxed W1 Bo 28 (.slice A pre.length c) := (hmA.block Bo h1.lt (fun e => (hAo Bo e).1 rfl)).trans h1
  have hm2 : Mod (fun k => k = Bo) W1 (W1.setCell ⟨Bo, 0, none⟩ (.slice A' (pre.length + 1) c')) := (Mod.refl (fun k => k = Bo) W1).setCell (p := ⟨Bo, 0, none⟩) (fun _ => rfl) _
  have hm : Mod (fun k => k = Bo ∨ blkOf A = some k) W (W1.setCell ⟨Bo, 0, none⟩ (.slice A' (pre.length + 1) c')) := (hmA.mono (fun _ _ e => .inr e)).trans hm2 (fun _ _ e => .inl e)
  have hA' : blkOf A' ≠ some Bo := fun e => by
    rcases hA with e' | e'
    · rw [e'] at e; exact (hAo Bo e).1 rfl
    · rw [e', World.size_alloc] at e
      injection e with e
      have := h1.lt
      omega
  have hlow : ∀ k, (k = Bo ∨ blkOf A = some k) → w.heap.size ≤ k := fun k e => by
    rcases e with e | e
    · have := h.lt.1; omega
    · exact (h2.lt k e).1
  refine ⟨hb1, ⟨⟨A', c', by simpa using hb1.set (.slice A' (pre.length + 1) c'), ?_⟩, (hm.block Bm h.bm.lt (fun e => ?_)).trans h.bm, h.old.trans hm (fun k hk e => by have := hlow k e; omega), h.lt⟩, fun B => ⟨hm.size, fun k o _ hk ho => ?_⟩, hm.size, fun k cur fr hk => ?_⟩
  · rw [prs_append, List.length_append, List.length_singleton]
    exact hown.mod hm2 (fun k hk e => hA' (by rw [e] at hk; exact hk))
  · rcases e with e | e
    · exact h.lt.2.2 e
    · exact (hAo _ e).2 rfl
  · refine (hm.block k (Array.getElem?_eq_some_iff.1 hk).1 (fun e => ?_)).trans hk
    rcases e with e | e
    · subst e
      have h1' : W.heap[k]? = _ := h1
      rw [hk] at h1'
      injection h1' with e
      subst e
      cases ho
    · obtain ⟨cur, hc⟩ := h2.typed e
      rw [hk] at hc
      injection hc with e
      subst e
      cases ho
  · refine (hm.block k (Array.getElem?_eq_some_iff.1 hk).1 (fun e => ?_)).trans hk
    rcases e with e | e
    · subst e
      have h1' : W.heap[k]? = some (.cells #[.slice A pre.length c] 28 (0, 0)) := h1
      rw [hk] at h1'
      injection h1' with e
      injection e with _ e
      exact absurd e (by decide)
    · obtain ⟨cur', hc⟩ := h2.typed e
      rw [hk] at hc
      injection hc with e
      injection e with _ e
      exact absurd e (by decide)

theorem fromLen (k : Int) (L : List Pr) : (mFrom k L).length ≤ L.length := by unfold mFrom; rw [List.length_drop]; omega

/-- What is handed on: all, or as many as are asked for. -/
def toldL (most : Int) (L : List Pr) : List Pr := if most < 0 then L else L.take most.toNat

/-- A slice of pairs in new memory; nothing old has turned. -/
def NewPl (w w' : World) (e : Ending) (l : List Pr) : Prop :=
  ∃ A n c, e = .returned (.slice A n c) ∧ Pl w' A n c l ∧ (∀ k, blkOf A = some k → w.heap.size ≤ k) ∧ Mod (fun _ => False) w w'

set_option maxRecDepth 100000 in
theorem told_none (w : World) (P : Option Addr) (all : Bool) (k : Int) : Calls Try.prog 18 #[.pointer P, .bool all, .int .i64 k, .int .i64 0] w fun e w' => NewPl w w' e [] := by
  go_enter Try.func18, Try.ntmps18
  go_wp2
  go_ret
  exact ⟨none, 0, 0, rfl, Pl.nil _ _ _, fun k h => by simp [blkOf] at h, ((Mod.refl _ w).alloc _).alloc _⟩

theorem Outs.fin {w W : World} {Bm Bo D : Nat} {most : Int} {L l : List Pr} (h : Outs w Bm Bo most l W) (hK : W.heap[D]? = some (.deferred (some []))) (hD : w.heap.size ≤ D) (hl : l = toldL most L) :
    ∃ A c, W.cell? ⟨Bo, 0, none⟩ = some (.slice A l.length c) ∧ NewPl w (W.putObj D (.deferred none)) (.returned (.slice A l.length c)) (toldL most L) := by
  obtain ⟨A, c, h1, h2⟩ := h.ex
  have hg2 := grownBy_putObj' W D (.deferred none)
  have hr2 : ∀ r, some D = some r → ∃ o : Obj, W.heap[r]? = some o ∧ o.isCells = false := fun r e => by cases e; exact ⟨_, hK, rfl⟩
  refine ⟨A, c, h1.cell, A, _, c, rfl, by rw [← hl]; exact (h2.own hg2 hr2).pl, fun k hk => (h2.lt k hk).1, h.old.grown hg2 (fun k e hk => by cases e; omega)⟩

set_option maxRecDepth 100000 in
set_option maxHeartbeats 4000000 in
theorem told_all (w : World) (P : Option Addr) (L : List Pr) (hR : Rd w P L) (hs : Srt L) (hL : L.length ≤ 900) (k most : Int) (hmost : most ≠ 0) :
    Calls Try.prog 18 #[.pointer P, .bool true, .int .i64 k, .int .i64 most] w fun e w' => NewPl w w' e (toldL most (L)) := by
  refine (callsIn_wide (n := 8)).1 ?_
  have hmb : (most == 0) = false := by simpa using hmost
  have hfn : ∀ (w : World) (f : FuncId) (lb : Array Value), (binOp .eql 55 (.func (.func f) #[] lb) .nilFunc).run Try.prog w = .ok (.bool false) w := fun _ _ _ => by kernel_rfl
  have HR := Lib.hid hR
  have Hs := Lib.hid hs
  clear hR hs
  refine callsIn_of_wp_marks Try.func18 rfl trivial ?_ rfl
  simp only [Try.ntmps18, List.size_toArray, List.length_cons, List.length_nil, Nat.reduceAdd, Nat.reduceSub, Array.replicate_succ, Array.replicate_zero, List.push_toArray, List.append_toArray, List.nil_append, List.cons_append]
  gi_wp2_with fail
  refine ⟨trivial, ?_⟩
  refine (callsIn_wide.2 (all_ok _ _)).mono ?_
  rintro e wD ⟨rfl, hwD⟩
  have hm0 : Mod (fun _ => False) w ((w.alloc (.cells #[.int .i64 most] 3)).alloc (.cells #[.slice none 0 0] 28)) := ((Mod.refl _ w).alloc _).alloc _
  obtain ⟨w1, hw1⟩ : ∃ w1, w1 = (w.alloc (.cells #[.int .i64 most] 3)).alloc (.cells #[.slice none 0 0] 28) := ⟨_, rfl⟩
  have hs1 : w1.heap.size = w.heap.size + 2 := by rw [hw1, World.size_alloc, World.size_alloc]
  have hbm : Boxed w1 w.heap.size 3 (.int .i64 most) := by rw [hw1]; exact (Boxed.new w _ _).alloc _
  have hbo : Boxed w1 (w.heap.size + 1) 28 (.slice none 0 0) := by
    have := Boxed.new (w.alloc (.cells #[.int .i64 most] 3)) 28 (.slice none 0 0)
    rw [World.size_alloc] at this
    rw [hw1]; exact this
  rw [← hw1] at hwD hm0 ⊢
  have hsD : wD.heap.size = w.heap.size + 3 := by rw [hwD]; simp only [World.size_alloc]; omega
  have hmD1 : Mod (fun _ => False) w1 wD := by rw [hwD]; exact (Mod.refl _ _).alloc _
  have hmD : Mod (fun _ => False) w wD := hm0.trans hmD1 (fun _ _ h => h)
  have hI0 : Outs w w.heap.size (w.heap.size + 1) most [] wD :=
    ⟨⟨none, 0, (hmD1.block _ hbo.lt id).trans hbo, OwN.nil _ _ _ _⟩, (hmD1.block _ hbm.lt id).trans hbm, hmD, by omega, by omega, by omega⟩
  have hbx : Boxed wD w1.heap.size 24 (.pointer P) := by rw [hwD]; exact Boxed.new w1 _ _
  have hIts : Its wD w1.heap.size P L := ⟨hbx.cell, HR.out.keep hmD⟩
  rw [hs1] at hIts ⊢
  have HI0 := Lib.hid hI0
  have HsD := Lib.hid hsD
  have HIts := Lib.hid hIts

  clear hI0 hsD hIts hbx hmD hmD1 hm0 hbo hbm hs1 hw1 hwD
  gi_wp2_with fail
  refine wpIn_rangeFunc_ownH (α := Pr) rfl (by omega) (gf := 30) (lb := #[.pointer (some ⟨w.heap.size + 2, 0, none⟩)]) rfl trivial (enters_of Try.func30 (by kernel_rfl) rfl)
    (all1_stops 7 (w.heap.size + 2) (by omega) P L (by omega) wD HIts.out)
    KpE.trans
    (fun W l o o' hl ho hc _ => ⟨by simp, fun j cur fr hj => (World.putObj_heap_other (fun e => by subst e; rw [hj] at ho; injection ho with ho; subst ho; cases hc)).trans hj⟩)
    (Below.refl _ _) (fun _ => rfl)
    (fun pre W => Outs w w.heap.size (w.heap.size + 1) most pre W ∧ (0 ≤ most → (pre.length : Int) < most) ∧ pre.length ≤ 1000)
    (fun c pre W => c = .exit 0 ∧ Outs w w.heap.size (w.heap.size + 1) most pre W ∧ (pre.length : Int) = most)
    ?hI ?hIx ?h0
    (fun z a' _ => a' = { tmps := #[.pointer P, .bool true, .int .i64 k, .int .i64 most, undef, undef, undef, .pointer (some ⟨w.heap.size, 0, none⟩), .slice none 0 0, .pointer (some ⟨w.heap.size + 1, 0, none⟩), .func (.func 30) #[] #[.pointer (some ⟨w.heap.size + 2, 0, none⟩)], .int .i64 z.1, .string z.2, undef, undef, undef, .int .i64 most, .bool false, undef, .bool true, .pointer P, .func (.func 30) #[] #[.pointer (some ⟨w.heap.size + 2, 0, none⟩)], .func (.func 30) #[] #[.pointer (some ⟨w.heap.size + 2, 0, none⟩)], .bool false, undef, .func (.func 30) #[] #[.pointer (some ⟨w.heap.size + 2, 0, none⟩)], .int .i64 z.1, .string z.2, undef, undef, undef, undef, undef, undef, undef, undef, undef, undef, undef, undef, undef, undef, undef, undef, undef, undef, undef, undef, undef, undef, undef, undef, undef, undef, undef, undef, undef, undef, undef], defers := [] })
    ?hAx ?assign ?body ?done ?stop
  case hI =>
    rintro pre A B row ⟨h1, h2, h3⟩ hg hr
    exact ⟨h1.own (by have := HsD.out; omega) hg hr, h2, h3⟩
  case hIx =>
    rintro c pre A B row ⟨h1, h2, h3⟩ hg hr
    exact ⟨h1, h2.own (by have := HsD.out; omega) hg hr, h3⟩
  case h0 => exact ⟨HI0.out, fun h => by simp only [List.length_nil]; omega, by simp⟩
  case hAx => intro z a' _ A B row h _ _; exact h
  case assign =>
    rintro l pre z W K hi hK
    have HK := Lib.hid hK
    have Hi := Lib.hid hi
    clear hK hi
    dsimp only [prEnc]
    gi_wp2
    exact HK.out _ _ ⟨Nat.le_refl _, fun _ _ _ h _ => h⟩ ⟨Nat.le_refl _, fun _ _ _ h => h⟩ Hi.out rfl
  case body =>
    rintro l pre z a' W hl _ ⟨ho, hlt, hle⟩ rfl hN
    obtain ⟨A, c, h1, h2⟩ := ho.ex
    have cb := h1.cell
    have cm := ho.bm.cell
    have Ho := Lib.hid ho
    have H1 := Lib.hid h1
    have H2 := Lib.hid h2
    have H2a := Lib.hid (h2.alloc (.cells #[.int .i64 z.1, .string z.2] 45))
    have Hsrc : Hid (SrcN (W.alloc (.cells #[.int .i64 z.1, .string z.2] 45)) (some ⟨W.heap.size, 0, none⟩) 1 2 [.int .i64 z.1, .string z.2]) := SrcN.lit W [.int .i64 z.1, .string z.2] 45 (by simp [Value.oneCell'])
    have Hlow := Lib.hid ho.old.size
    clear ho h1 h2
    by_cases he : (pre.length : Int) + 1 = most
    · have hd : ((pre.length : Int) + 1 == most) = true := by simpa using he
      have He := Lib.hid he
      clear he
      gi_wp2_with (gi_at_builtin; refine wpListIn_appN (.tmp 28) (.tmp 32) pairElem rfl rfl rfl rfl H2a.out Hsrc.out (by omega) (by unfold maxLen; omega) (by rw [World.size_alloc]; have := Hlow.out; omega) ?_; intro A' c' W1 h1 h2 h3; obtain ⟨hb1, hout, hkf, hkp⟩ := Ho.out.step H1.out H2.out h1 h2 h3; have hcb := hb1.cell; have hfb := hb1.frozen; have cm2 := hout.bm.cell; have Hout := Lib.hid hout; have Hkf := Lib.hid hkf; have Hkp := Lib.hid hkp; clear h1 h2 h3 hb1 hout hkf hkp)
      exact ⟨Hkf.out _, rfl, Hout.out, by rw [List.length_append, List.length_singleton, ← He.out]; rfl⟩
    · have hd : ((pre.length : Int) + 1 == most) = false := by simpa using he
      have He := Lib.hid he
      clear he
      gi_wp2_with (gi_at_builtin; refine wpListIn_appN (.tmp 28) (.tmp 32) pairElem rfl rfl rfl rfl H2a.out Hsrc.out (by omega) (by unfold maxLen; omega) (by rw [World.size_alloc]; have := Hlow.out; omega) ?_; intro A' c' W1 h1 h2 h3; obtain ⟨hb1, hout, hkf, hkp⟩ := Ho.out.step H1.out H2.out h1 h2 h3; have hcb := hb1.cell; have hfb := hb1.frozen; have cm2 := hout.bm.cell; have Hout := Lib.hid hout; have Hkf := Lib.hid hkf; have Hkp := Lib.hid hkp; clear h1 h2 h3 hb1 hout hkf hkp)
      exact ⟨Hkf.out _, Hkp.out, Hout.out, fun h => by have := hlt h; have := He.out; rw [List.length_append, List.length_singleton]; omega, by rw [List.length_append, List.length_singleton]; omega⟩
  case stop =>
    rintro D c pre W hD hpre ⟨rfl, ho, hmost'⟩ hK
    have hl : pre = toldL most (L) := by
      unfold toldL
      rw [if_neg (by omega), ← hmost', Int.toNat_natCast]
      exact List.prefix_iff_eq_take.1 hpre
    obtain ⟨A, c, hc, hfin⟩ := ho.fin hK (by have := HsD.out; omega) hl
    have Hfin := Lib.hid hfin
    have HK := Lib.hid hK
    clear hfin hK ho hl hpre
    gi_wp2
    refine ⟨by simp, .inl ⟨_, _, rfl, run_takeDeferred HK.out, ?_⟩⟩
    refine ⟨_, results_tmp (t := 8) rfl _ _ _, ?_⟩
    exact Hfin.out
  case done =>
    rintro D zs W hD rfl ⟨ho, hlt, _⟩ hK
    have hl : zs = toldL most (zs) := by
      unfold toldL
      split
      · rfl
      · rw [List.take_of_length_le (by have := hlt (by omega); omega)]
    obtain ⟨A, c, hc, hfin⟩ := ho.fin hK (by have := HsD.out; omega) hl
    have Hfin := Lib.hid hfin
    have HK := Lib.hid hK
    clear hfin hK ho hl
    gi_wp2
    refine ⟨by simp, .inl ⟨_, _, rfl, run_takeDeferred HK.out, ?_⟩⟩
    refine ⟨_, results_tmp (t := 8) rfl _ _ _, ?_⟩
    exact Hfin.out

set_option maxRecDepth 100000 in
set_option maxHeartbeats 4000000 in
theorem told_from (w : World) (P : Option Addr) (L : List Pr) (hR : Rd w P L) (hs : Srt L) (hL : L.length ≤ 900) (k most : Int) (hmost : most ≠ 0) :
    Calls Try.prog 18 #[.pointer P, .bool false, .int .i64 k, .int .i64 most] w fun e w' => NewPl w w' e (toldL most (mFrom k L)) := by
  refine (callsIn_wide (n := 8)).1 ?_
  have hmb : (most == 0) = false := by simpa using hmost
  have hfn : ∀ (w : World) (f : FuncId) (lb : Array Value), (binOp .eql 55 (.func (.func f) #[] lb) .nilFunc).run Try.prog w = .ok (.bool false) w := fun _ _ _ => by kernel_rfl
  have HR := Lib.hid hR
  have Hs := Lib.hid hs
  clear hR hs
  refine callsIn_of_wp_marks Try.func18 rfl trivial ?_ rfl
  simp only [Try.ntmps18, List.size_toArray, List.length_cons, List.length_nil, Nat.reduceAdd, Nat.reduceSub, Array.replicate_succ, Array.replicate_zero, List.push_toArray, List.append_toArray, List.nil_append, List.cons_append]
  gi_wp2_with fail
  refine ⟨trivial, ?_⟩
  refine (callsIn_wide.2 (from_ok _ _ _)).mono ?_
  rintro e wD ⟨rfl, hwD⟩
  have hm0 : Mod (fun _ => False) w ((w.alloc (.cells #[.int .i64 most] 3)).alloc (.cells #[.slice none 0 0] 28)) := ((Mod.refl _ w).alloc _).alloc _
  obtain ⟨w1, hw1⟩ : ∃ w1, w1 = (w.alloc (.cells #[.int .i64 most] 3)).alloc (.cells #[.slice none 0 0] 28) := ⟨_, rfl⟩
  have hs1 : w1.heap.size = w.heap.size + 2 := by rw [hw1, World.size_alloc, World.size_alloc]
  have hbm : Boxed w1 w.heap.size 3 (.int .i64 most) := by rw [hw1]; exact (Boxed.new w _ _).alloc _
  have hbo : Boxed w1 (w.heap.size + 1) 28 (.slice none 0 0) := by
    have := Boxed.new (w.alloc (.cells #[.int .i64 most] 3)) 28 (.slice none 0 0)
    rw [World.size_alloc] at this
    rw [hw1]; exact this
  rw [← hw1] at hwD hm0 ⊢
  have hsD : wD.heap.size = w.heap.size + 4 := by rw [hwD]; simp only [World.size_alloc]; omega
  have hmD1 : Mod (fun _ => False) w1 wD := by rw [hwD]; exact ((Mod.refl _ _).alloc _).alloc _
  have hmD : Mod (fun _ => False) w wD := hm0.trans hmD1 (fun _ _ h => h)
  have hI0 : Outs w w.heap.size (w.heap.size + 1) most [] wD :=
    ⟨⟨none, 0, (hmD1.block _ hbo.lt id).trans hbo, OwN.nil _ _ _ _⟩, (hmD1.block _ hbm.lt id).trans hbm, hmD, by omega, by omega, by omega⟩
  have hbx : Boxed wD w1.heap.size 24 (.pointer P) := by rw [hwD]; exact (Boxed.new w1 _ _).alloc _
  have hbk : Boxed wD (w1.heap.size + 1) 3 (.int .i64 k) := by
    have := Boxed.new (w1.alloc (.cells #[.pointer P] 24)) 3 (.int .i64 k)
    rw [World.size_alloc] at this
    rw [hwD]; exact this
  have hIts : Its wD w1.heap.size P L := ⟨hbx.cell, HR.out.keep hmD⟩
  rw [hs1] at hIts ⊢
  have HI0 := Lib.hid hI0
  have HsD := Lib.hid hsD
  have HIts := Lib.hid hIts
  rw [hs1] at hbk
  have Hbk := Lib.hid hbk.cell
  clear hI0 hsD hIts hbx hmD hmD1 hm0 hbo hbm hs1 hw1 hwD hbk
  gi_wp2_with fail
  refine wpIn_rangeFunc_ownH (α := Pr) rfl (by omega) (gf := 32) (lb := #[.pointer (some ⟨w.heap.size + 2, 0, none⟩), .pointer (some ⟨w.heap.size + 2 + 1, 0, none⟩)]) rfl trivial (enters_of Try.func32 (by kernel_rfl) rfl)
    (from1_stops 7 (w.heap.size + 2) (w.heap.size + 2 + 1) (by omega) P L k (by omega) Hs.out wD HIts.out Hbk.out)
    KpE.trans
    (fun W l o o' hl ho hc _ => ⟨by simp, fun j cur fr hj => (World.putObj_heap_other (fun e => by subst e; rw [hj] at ho; injection ho with ho; subst ho; cases hc)).trans hj⟩)
    (Below.refl _ _) (fun _ => rfl)
    (fun pre W => Outs w w.heap.size (w.heap.size + 1) most pre W ∧ (0 ≤ most → (pre.length : Int) < most) ∧ pre.length ≤ 1000)
    (fun c pre W => c = .exit 2 ∧ Outs w w.heap.size (w.heap.size + 1) most pre W ∧ (pre.length : Int) = most)
    ?hI ?hIx ?h0
    (fun z a' _ => a' = { tmps := #[.pointer P, .bool false, .int .i64 k, .int .i64 most, undef, undef, undef, .pointer (some ⟨w.heap.size, 0, none⟩), .slice none 0 0, .pointer (some ⟨w.heap.size + 1, 0, none⟩), undef, undef, undef, .func (.func 32) #[] #[.pointer (some ⟨w.heap.size + 2, 0, none⟩), .pointer (some ⟨w.heap.size + 2 + 1, 0, none⟩)], .int .i64 z.1, .string z.2, .int .i64 most, .bool false, undef, .bool false, undef, undef, undef, undef, undef, undef, undef, undef, undef, undef, undef, undef, undef, undef, undef, undef, undef, undef, undef, .pointer P, .int .i64 k, .func (.func 32) #[] #[.pointer (some ⟨w.heap.size + 2, 0, none⟩), .pointer (some ⟨w.heap.size + 2 + 1, 0, none⟩)], .func (.func 32) #[] #[.pointer (some ⟨w.heap.size + 2, 0, none⟩), .pointer (some ⟨w.heap.size + 2 + 1, 0, none⟩)], .bool false, undef, .func (.func 32) #[] #[.pointer (some ⟨w.heap.size + 2, 0, none⟩), .pointer (some ⟨w.heap.size + 2 + 1, 0, none⟩)], .int .i64 z.1, .string z.2, undef, undef, undef, undef, undef, undef, undef, undef, undef, undef, undef], defers := [] })
    ?hAx ?assign ?body ?done ?stop
  case hI =>
    rintro pre A B row ⟨h1, h2, h3⟩ hg hr
    exact ⟨h1.own (by have := HsD.out; omega) hg hr, h2, h3⟩
  case hIx =>
    rintro c pre A B row ⟨h1, h2, h3⟩ hg hr
    exact ⟨h1, h2.own (by have := HsD.out; omega) hg hr, h3⟩
  case h0 => exact ⟨HI0.out, fun h => by simp only [List.length_nil]; omega, by simp⟩
  case hAx => intro z a' _ A B row h _ _; exact h
  case assign =>
    rintro l pre z W K hi hK
    have HK := Lib.hid hK
    have Hi := Lib.hid hi
    clear hK hi
    dsimp only [prEnc]
    gi_wp2
    exact HK.out _ _ ⟨Nat.le_refl _, fun _ _ _ h _ => h⟩ ⟨Nat.le_refl _, fun _ _ _ h => h⟩ Hi.out rfl
  case body =>
    rintro l pre z a' W hl _ ⟨ho, hlt, hle⟩ rfl hN
    obtain ⟨A, c, h1, h2⟩ := ho.ex
    have cb := h1.cell
    have cm := ho.bm.cell
    have Ho := Lib.hid ho
    have H1 := Lib.hid h1
    have H2 := Lib.hid h2
    have H2a := Lib.hid (h2.alloc (.cells #[.int .i64 z.1, .string z.2] 45))
    have Hsrc : Hid (SrcN (W.alloc (.cells #[.int .i64 z.1, .string z.2] 45)) (some ⟨W.heap.size, 0, none⟩) 1 2 [.int .i64 z.1, .string z.2]) := SrcN.lit W [.int .i64 z.1, .string z.2] 45 (by simp [Value.oneCell'])
    have Hlow := Lib.hid ho.old.size
    clear ho h1 h2
    by_cases he : (pre.length : Int) + 1 = most
    · have hd : ((pre.length : Int) + 1 == most) = true := by simpa using he
      have He := Lib.hid he
      clear he
      gi_wp2_with (gi_at_builtin; refine wpListIn_appN (.tmp 48) (.tmp 52) pairElem rfl rfl rfl rfl H2a.out Hsrc.out (by omega) (by unfold maxLen; omega) (by rw [World.size_alloc]; have := Hlow.out; omega) ?_; intro A' c' W1 h1 h2 h3; obtain ⟨hb1, hout, hkf, hkp⟩ := Ho.out.step H1.out H2.out h1 h2 h3; have hcb := hb1.cell; have hfb := hb1.frozen; have cm2 := hout.bm.cell; have Hout := Lib.hid hout; have Hkf := Lib.hid hkf; have Hkp := Lib.hid hkp; clear h1 h2 h3 hb1 hout hkf hkp)
      exact ⟨Hkf.out _, rfl, Hout.out, by rw [List.length_append, List.length_singleton, ← He.out]; rfl⟩
    · have hd : ((pre.length : Int) + 1 == most) = false := by simpa using he
      have He := Lib.hid he
      clear he
      gi_wp2_with (gi_at_builtin; refine wpListIn_appN (.tmp 48) (.tmp 52) pairElem rfl rfl rfl rfl H2a.out Hsrc.out (by omega) (by unfold maxLen; omega) (by rw [World.size_alloc]; have := Hlow.out; omega) ?_; intro A' c' W1 h1 h2 h3; obtain ⟨hb1, hout, hkf, hkp⟩ := Ho.out.step H1.out H2.out h1 h2 h3; have hcb := hb1.cell; have hfb := hb1.frozen; have cm2 := hout.bm.cell; have Hout := Lib.hid hout; have Hkf := Lib.hid hkf; have Hkp := Lib.hid hkp; clear h1 h2 h3 hb1 hout hkf hkp)
      exact ⟨Hkf.out _, Hkp.out, Hout.out, fun h => by have := hlt h; have := He.out; rw [List.length_append, List.length_singleton]; omega, by rw [List.length_append, List.length_singleton]; have := fromLen k L; omega⟩
  case stop =>
    rintro D c pre W hD hpre ⟨rfl, ho, hmost'⟩ hK
    have hl : pre = toldL most (mFrom k L) := by
      unfold toldL
      rw [if_neg (by omega), ← hmost', Int.toNat_natCast]
      exact List.prefix_iff_eq_take.1 hpre
    obtain ⟨A, c, hc, hfin⟩ := ho.fin hK (by have := HsD.out; omega) hl
    have Hfin := Lib.hid hfin
    have HK := Lib.hid hK
    clear hfin hK ho hl hpre
    gi_wp2
    refine ⟨by simp, .inl ⟨_, _, rfl, run_takeDeferred HK.out, ?_⟩⟩
    refine ⟨_, results_tmp (t := 8) rfl _ _ _, ?_⟩
    exact Hfin.out
  case done =>
    rintro D zs W hD rfl ⟨ho, hlt, _⟩ hK
    have hl : mFrom k L = toldL most (mFrom k L) := by
      unfold toldL
      split
      · rfl
      · rw [List.take_of_length_le (by have := hlt (by omega); omega)]
    obtain ⟨A, c, hc, hfin⟩ := ho.fin hK (by have := HsD.out; omega) hl
    have Hfin := Lib.hid hfin
    have HK := Lib.hid hK
    clear hfin hK ho hl
    gi_wp2
    refine ⟨by simp, .inl ⟨_, _, rfl, run_takeDeferred HK.out, ?_⟩⟩
    refine ⟨_, results_tmp (t := 8) rfl _ _ _, ?_⟩
    exact Hfin.out
end Go.Proofs.Ytallokaboldflaa
