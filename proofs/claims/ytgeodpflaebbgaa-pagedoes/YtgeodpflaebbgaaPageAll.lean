/-
  page.All.
-/
import Derived.Test.YtgeodpflaebbgaaPageGet
namespace Go.Proofs.Ytgeodpflaebbgaa
open Go Go.RowKit Go.Shelf
attribute [local go_sem] Oper.semAt_some

theorem kvElem : ElemN Try.prog 29 49 (.agg #[.int .i64 0, .slice none 0 0]) 2 32 :=
  ElemN.mk_ Try.underlying29 rfl (by decide) (by kernel_rfl)

theorem wpListIn_appN {F : Fence} {nF : Nat} {P : Program} {w : World} {ops : Array Oper} {rest : List Oper} {o : Oper} {a : Act} {Q : Exit → Act → World → Prop} (s x : Operand) {t e : TypeId} {z : Value} {size bytes : Nat}
    {base : Nat} {A : Option Addr} {n c : Nat} {vs : List Value} {A2 : Option Addr} {m c2 : Nat} {news : List Value}
    (he : ElemN P t e z size bytes) (hgd : o.guard = none)
    (ho : o.op = .call { callee := .builtin .append, args := #[s, x], argTypes := #[t, t] })
    (hes : a.eval s = .slice A n c) (hex : a.eval x = .slice A2 m c2)
    (hown : OwN w base e size A n c vs) (hs : SrcN w A2 m size news)
    (hb : (n + m) * bytes ≤ 140737488355328) (h63 : n + m ≤ maxLen) (hbase : base ≤ w.heap.size)
    (h : ∀ A' c' w', OwN w' base e size A' (n + m) c' (vs ++ news) → w.grownBy w' (blkOf A) → (blkOf A' = blkOf A ∨ blkOf A' = some w.heap.size) → wpListIn F nF P ops Q rest (a.put o.dst (.slice A' (n + m) c')) w') :
    wpListIn F nF P ops Q (o :: rest) a w := by
  refine wpListIn_plain hgd fun K hK => ?_
  obtain ⟨A', c', w', hr, h2, h3, h4⟩ := run_appN (P := P) (w := w) he o.type hown (c2 := c2) hs hb h63 hbase
  unfold Oper.wpIn
  refine ⟨by simp [Oper.about, ho, resolve, Target.leads, Sem.run_pure], ?_⟩
  rw [Oper.semAt_plain F _ _ (by rw [ho]; intro c hc'; cases hc')]
  simp [execOp, ho, resolve, invoke, builtin, hes, hex, hr, Result.andThen]
  exact hK _ _ (h A' c' w' h2 h3 h4)

/-- What the loop has so far, in memory laid since w. -/
structure Outs (w : World) (Bo : Nat) (pre : List Pr) (W : World) : Prop where
  ex : ∃ A c, Boxed W Bo 29 (.slice A pre.length c) ∧ OwN W w.heap.size 49 2 A pre.length c (prs pre)
  old : Mod (fun _ => False) w W
  lt : w.heap.size ≤ Bo
theorem Outs.own {w W W' : World} {Bo B : Nat} {pre : List Pr} {row : Option Nat} (hB : w.heap.size ≤ B) (h : Outs w Bo pre W) (hg : W.grownBy W' row) (hr : ∀ r, row = some r → B ≤ r ∧ ∃ o : Obj, W.heap[r]? = some o ∧ o.isCells = false) : Outs w Bo pre W' := by
  obtain ⟨A, c, h1, h2⟩ := h.ex
  exact ⟨⟨A, c, blk_kept h1 hg (fun r e => (hr r e).2), h2.own hg (fun r e => (hr r e).2)⟩, h.old.grown hg (fun k e hk => by have := (hr k e).1; omega), h.lt⟩

/-- What is known of a round that has put a pair behind the others. -/
theorem Outs.step {w W W1 : World} {Bo : Nat} {pre : List Pr} {z : Pr} {A A' : Option Addr} {c c' : Nat} (h : Outs w Bo pre W) (h1 : Boxed W Bo 29 (.slice A pre.length c)) (h2 : OwN W w.heap.size 49 2 A pre.length c (prs pre))
    (hown : OwN W1 w.heap.size 49 2 A' (pre.length + 1) c' (prs pre ++ [.int .i64 z.1, .slice z.2.a z.2.n z.2.c])) (hg : (W.alloc (.cells #[.int .i64 z.1, .slice z.2.a z.2.n z.2.c] 49)).grownBy W1 (blkOf A)) (hA : blkOf A' = blkOf A ∨ blkOf A' = some (W.alloc (.cells #[.int .i64 z.1, .slice z.2.a z.2.n z.2.c] 49)).heap.size) :
    Boxed W1 Bo 29 (.slice A pre.length c) ∧ Outs w Bo (pre ++ [z]) (W1.setCell ⟨Bo, 0, none⟩ (.slice A' (pre.length + 1) c')) ∧
      (∀ B, KeepsFrom B W (W1.setCell ⟨Bo, 0, none⟩ (.slice A' (pre.length + 1) c'))) ∧ KpE W (W1.setCell ⟨Bo, 0, none⟩ (.slice A' (pre.length + 1) c')) := by
  have hAo : ∀ k, blkOf A = some k → k ≠ Bo := fun k hk e => by
    obtain ⟨cur, hc⟩ := h2.typed hk
    · subst e
      have h1' : W.heap[k]? = some (.cells #[.slice A pre.length c] 29 (0, 0)) := h1
      rw [hc] at h1'
      injection h1' with e
      injection e with _ e
      exact absurd e (by decide)
  have hmA : Mod (fun k => blkOf A = some k) W W1 := ((Mod.refl _ W).alloc _).grown hg (fun k e _ => e)
  have hb1 : Boxed W1 Bo 29 (.slice A pre.length c) := (hmA.block Bo h1.lt (fun e => hAo Bo e rfl)).trans h1
  have hm2 : Mod (fun k => k = Bo) W1 (W1.setCell ⟨Bo, 0, none⟩ (.slice A' (pre.length + 1) c')) := (Mod.refl (fun k => k = Bo) W1).setCell (p := ⟨Bo, 0, none⟩) (fun _ => rfl) _
  have hm : Mod (fun k => k = Bo ∨ blkOf A = some k) W (W1.setCell ⟨Bo, 0, none⟩ (.slice A' (pre.length + 1) c')) := (hmA.mono (fun _ _ e => .inr e)).trans hm2 (fun _ _ e => .inl e)
  have hA' : blkOf A' ≠ some Bo := fun e => by
    rcases hA with e' | e'
    · rw [e'] at e; exact hAo Bo e rfl
    · rw [e', World.size_alloc] at e
      injection e with e
      have := h1.lt
      omega
  have hlow : ∀ k, (k = Bo ∨ blkOf A = some k) → w.heap.size ≤ k := fun k e => by
    rcases e with e | e
    · have := h.lt; omega
    · exact (h2.lt k e).1
  refine ⟨hb1, ⟨⟨A', c', by simpa using hb1.set (.slice A' (pre.length + 1) c'), ?_⟩, h.old.trans hm (fun k hk e => by have := hlow k e; omega), h.lt⟩, fun B => ⟨hm.size, fun k o _ hk ho => ?_⟩, hm.size, fun k cur fr hk => ?_⟩
  · rw [prs_append, List.length_append, List.length_singleton]
    exact hown.mod hm2 (fun k hk e => hA' (by rw [e] at hk; exact hk))
  · refine (hm.block k (Array.getElem?_eq_some_iff.1 hk).1 (fun e => ?_)).trans hk
    rcases e with e | e
    · subst e
      have h1' : W.heap[k]? = _ := h1
      rw [hk] at h1'
      injection h1' with e
      subst e
      cases ho
    · obtain ⟨cur, hc⟩ := h2.typed e
      rw [hk] at hc
      injection hc with e
      subst e
      cases ho
  · refine (hm.block k (Array.getElem?_eq_some_iff.1 hk).1 (fun e => ?_)).trans hk
    rcases e with e | e
    · subst e
      have h1' : W.heap[k]? = some (.cells #[.slice A pre.length c] 29 (0, 0)) := h1
      rw [hk] at h1'
      injection h1' with e
      injection e with _ e
      exact absurd e (by decide)
    · obtain ⟨cur', hc⟩ := h2.typed e
      rw [hk] at hc
      injection hc with e
      injection e with _ e
      exact absurd e (by decide)


/-- What All answers: records in new memory. -/
structure KvAt (w w' : World) (A : Option Addr) (n c : Nat) (L : List Pr) (rs : List Rec) : Prop where
  own : OwN w' w.heap.size 49 2 A n c (prs L)
  vals : Vals w' (Ty8 w' w.heap.size) L rs
  old : Mod (fun _ => False) w w'
theorem Outs.fin {w w2 W : World} {Bo D : Nat} {L : List Pr} {rs : List Rec} (h : Outs w2 Bo L W) (hK : W.heap[D]? = some (.deferred (some []))) (hD : w2.heap.size ≤ D) (hm : Mod (fun _ => False) w w2) (hv : Vals w2 (Ty8 w2 w.heap.size) L rs) :
    ∃ A c, W.cell? ⟨Bo, 0, none⟩ = some (.slice A L.length c) ∧ KvAt w (W.putObj D (.deferred none)) A L.length c L rs := by
  obtain ⟨A, c, h1, h2⟩ := h.ex
  have hg2 := grownBy_putObj' W D (.deferred none)
  have hr2 : ∀ r, some D = some r → ∃ o : Obj, W.heap[r]? = some o ∧ o.isCells = false := fun r e => by cases e; exact ⟨_, hK, rfl⟩
  have hm2 : Mod (fun _ => False) w2 (W.putObj D (.deferred none)) := h.old.grown hg2 (fun k e hk => by cases e; omega)
  have ho := h2.own hg2 hr2
  refine ⟨A, c, h1.cell, ⟨ho.1, ?_⟩, hv.mod hm2 (fun k _ hk => ⟨id, hk.mod hm2 id⟩), hm.trans hm2 (fun _ _ h => h)⟩
  rcases ho.2 with hn | ⟨g, cap, cur, hv', hb, hgg, rest⟩
  · exact .inl hn
  · exact .inr ⟨g, cap, cur, hv', by have := hm.size; omega, hgg, rest⟩

set_option maxRecDepth 100000 in
set_option maxHeartbeats 4000000 in
theorem pall_ok (w : World) (A : Option Addr) (n c : Nat) (xs : List UInt8) (h : Sl w A n c xs) :
    Calls Try.prog 17 #[.slice A n c] w fun e w' => ∃ A' c' L, e = .returned (.slice A' (cont xs).l.length c') ∧ KvAt w w' A' (cont xs).l.length c' L (cont xs).l := by
  refine (callsIn_wide (n := 8)).1 ?_
  have hfn := seq_some
  have Hdc := Lib.hid (decode_ok w A n c xs h)
  clear h
  refine callsIn_of_wp_marks Try.func17 rfl trivial ?_ rfl
  simp only [Try.ntmps17, List.size_toArray, List.length_cons, List.length_nil, Nat.reduceAdd, Nat.reduceSub, Array.replicate_succ, Array.replicate_zero, List.push_toArray, List.append_toArray, List.nil_append, List.cons_append]
  gi_wp2_with fail
  refine ⟨trivial, ?_⟩
  refine (callsIn_wide.2 Hdc.out).mono ?_
  rintro e w2 ⟨x, rfl, hx⟩
  have Hx := Lib.hid hx
  have hl := hx.ct.vals.len
  have hc := (good_cont xs).count
  clear hx Hdc
  generalize (dec xs).isSome = bb at *
  gi_wp2_with fail
  refine ⟨trivial, ?_⟩
  refine (callsIn_wide.2 (mall_ok _ _)).mono ?_
  rintro e wD ⟨rfl, hwD⟩
  obtain ⟨w1, hw1⟩ : ∃ w1, w1 = w2.alloc (.cells #[.slice none 0 0] 29) := ⟨_, rfl⟩
  have hm0 : Mod (fun _ => False) w2 w1 := by rw [hw1]; exact (Mod.refl _ w2).alloc _
  have hs1 : w1.heap.size = w2.heap.size + 1 := by rw [hw1, World.size_alloc]
  have hbo : Boxed w1 w2.heap.size 29 (.slice none 0 0) := by rw [hw1]; exact Boxed.new w2 _ _
  rw [← hw1] at hwD ⊢
  have hsD : wD.heap.size = w2.heap.size + 2 := by rw [hwD]; simp only [World.size_alloc]; omega
  have hmD1 : Mod (fun _ => False) w1 wD := by rw [hwD]; exact (Mod.refl _ _).alloc _
  have hmD : Mod (fun _ => False) w2 wD := hm0.trans hmD1 (fun _ _ h => h)
  have hI0 : Outs w2 w2.heap.size [] wD := ⟨⟨none, 0, (hmD1.block _ hbo.lt id).trans hbo, OwN.nil _ _ _ _⟩, hmD, Nat.le_refl _⟩
  have hbx : Boxed wD w1.heap.size 90 (.pointer (some ⟨x.p, 2, none⟩)) := by rw [hwD]; exact Boxed.new w1 _ _
  have hIts : Its wD w1.heap.size (some ⟨x.p, 2, none⟩) (x.l.map (fun z => z)) := ⟨hbx.cell, by rw [List.map_id']; exact Hx.out.rd.keep hmD⟩
  rw [hs1] at hIts ⊢
  have HI0 := Lib.hid hI0
  have HsD := Lib.hid hsD
  have HIts := Lib.hid hIts
  clear hI0 hsD hIts hbx hmD hmD1 hm0 hbo hs1 hw1 hwD
  gi_wp2_with fail
  refine wpIn_rangeFunc_ownH (α := Pr) rfl (by omega) (gf := 47) (lb := #[.pointer (some ⟨w2.heap.size + 1, 0, none⟩)]) rfl trivial (enters_of Try.func47 (by kernel_rfl) rfl)
    (all1_stops (fun z => z) 7 (w2.heap.size + 1) (by omega) (some ⟨x.p, 2, none⟩) x.l (by omega) wD HIts.out)
    KpE.trans
    (fun W l o o' hl ho hc _ => ⟨by simp, fun j cur fr hj => (World.putObj_heap_other (fun e => by subst e; rw [hj] at ho; injection ho with ho; subst ho; cases hc)).trans hj⟩)
    (Below.refl _ _) (fun _ => rfl)
    (fun pre W => Outs w2 w2.heap.size pre W ∧ pre.length ≤ 1000)
    (fun _ _ _ => False)
    ?hI ?hIx ?h0
    (fun z a' _ => a' = { tmps := #[.slice A n c, undef, .slice none 0 0, .pointer (some ⟨x.p, 0, none⟩), .bool bb, .pointer (some ⟨w2.heap.size, 0, none⟩), .int .i64 z.1, .slice z.2.a z.2.n z.2.c, .tuple #[.pointer (some ⟨x.p, 0, none⟩), .bool bb], .slice A n c, .tuple #[.pointer (some ⟨x.p, 0, none⟩), .bool bb], .pointer (some ⟨x.p, 0, none⟩), .bool bb, .pointer (some ⟨x.p, 0, none⟩), .pointer (some ⟨x.p, 0, none⟩), .pointer (some ⟨x.p, 2, none⟩), .func (.func 47) #[] #[.pointer (some ⟨w2.heap.size + 1, 0, none⟩)], .int .i64 z.1, .slice z.2.a z.2.n z.2.c, undef, undef, undef, undef, undef, undef, undef], defers := [] })
    ?hAx ?assign ?body ?done ?stop
  case hI =>
    rintro pre A B row ⟨h1, h2⟩ hg hr
    exact ⟨h1.own (by have := HsD.out; omega) hg hr, h2⟩
  case hIx =>
    rintro c pre A B row h hg hr
    exact h
  case h0 => exact ⟨HI0.out, by simp⟩
  case hAx => intro z a' _ A B row h _ _; exact h
  case assign =>
    rintro l pre z W K hi hK
    have HK := Lib.hid hK
    have Hi := Lib.hid hi
    clear hK hi
    dsimp only [prEnc]
    gi_wp2
    exact HK.out _ _ ⟨Nat.le_refl _, fun _ _ _ h _ => h⟩ ⟨Nat.le_refl _, fun _ _ _ h => h⟩ Hi.out rfl
  case body =>
    rintro l pre z a' W hl _ ⟨ho, hle⟩ rfl hN
    obtain ⟨A, c, h1, h2⟩ := ho.ex
    have cb := h1.cell
    have Ho := Lib.hid ho
    have H1 := Lib.hid h1
    have H2 := Lib.hid h2
    have H2a := Lib.hid (h2.alloc (.cells #[.int .i64 z.1, .slice z.2.a z.2.n z.2.c] 49))
    have Hsrc : Hid (SrcN (W.alloc (.cells #[.int .i64 z.1, .slice z.2.a z.2.n z.2.c] 49)) (some ⟨W.heap.size, 0, none⟩) 1 2 [.int .i64 z.1, .slice z.2.a z.2.n z.2.c]) := SrcN.lit W [.int .i64 z.1, .slice z.2.a z.2.n z.2.c] 49 (by simp [Value.oneCell'])
    have Hlow := Lib.hid ho.old.size
    have HN := Lib.hid hN
    clear ho h1 h2 hN
    gi_wp2_with (gi_at_builtin; refine wpListIn_appN (.tmp 19) (.tmp 23) kvElem rfl rfl rfl rfl H2a.out Hsrc.out (by omega) (by unfold maxLen; omega) (by rw [World.size_alloc]; have := Hlow.out; omega) ?_; intro A' c' W1 h1 h2 h3; obtain ⟨hb1, hout, hkf, hkp⟩ := Ho.out.step H1.out H2.out h1 h2 h3; have hcb := hb1.cell; have hfb := hb1.frozen; have Hout := Lib.hid hout; have Hkf := Lib.hid hkf; have Hkp := Lib.hid hkp; clear h1 h2 h3 hb1 hout hkf hkp)
    exact ⟨Hkf.out _, Hkp.out, Hout.out, by rw [List.length_append, List.length_singleton]; have := HN.out; omega⟩
  case stop =>
    rintro D c pre W hD hpre h hK
    exact h.elim
  case done =>
    rintro D zs W hD rfl ⟨ho, _⟩ hK
    obtain ⟨A1, c1, hc1, hfin⟩ := ho.fin hK (by have := HsD.out; omega) Hx.out.old Hx.out.ct.vals
    rw [hl] at hc1 hfin
    have Hfin := Lib.hid hfin
    have HK := Lib.hid hK
    clear hfin hK ho hl
    gi_wp2
    refine ⟨by simp, .inl ⟨_, _, rfl, run_takeDeferred HK.out, ?_⟩⟩
    refine ⟨_, results_tmp (t := 2) rfl _ _ _, ?_⟩
    exact ⟨_, _, _, rfl, Hfin.out⟩
end Go.Proofs.Ytgeodpflaebbgaa
