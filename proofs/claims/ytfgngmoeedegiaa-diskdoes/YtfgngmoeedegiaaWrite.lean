/-
  The contract of Disk.Write.
-/
import Derived.Test.YtfgngmoeedegiaaDev3
import Derived.Deep.RegionLaw
import Derived.StillTailTactics
namespace Go.Proofs.Ytfgngmoeedegiaa
open Go Go.RowKit

section
variable {P : Program} {w : World}
/-- append of elements of several cells, the operation by itself. -/
theorem wp_appN {o : Oper} {a : Act} {K : Act → World → Prop} {Q : Exit → Act → World → Prop} (s x : Operand) {t e : TypeId} {z : Value} {size bytes : Nat}
    {base : Nat} {A : Option Addr} {n c : Nat} {vs : List Value} {A2 : Option Addr} {m c2 : Nat} {news : List Value}
    (he : ElemN P t e z size bytes)
    (ho : o.op = .call { callee := .builtin .append, args := #[s, x], argTypes := #[t, t] })
    (hes : a.eval s = .slice A n c) (hex : a.eval x = .slice A2 m c2)
    (hown : OwN w base e size A n c vs) (hs : SrcN w A2 m size news)
    (hb : (n + m) * bytes ≤ 140737488355328) (h63 : n + m ≤ maxLen) (hbase : base ≤ w.heap.size)
    (h : ∀ A' c' w', OwN w' base e size A' (n + m) c' (vs ++ news) → w.grownBy w' (blkOf A) → (blkOf A' = blkOf A ∨ blkOf A' = some w.heap.size) → K (a.put o.dst (.slice A' (n + m) c')) w') :
    Oper.wp P o a w K Q := by
  obtain ⟨A', c', w', hr, h2, h3, h4⟩ := run_appN (P := P) (w := w) he o.type hown (c2 := c2) hs hb h63 hbase
  unfold Oper.wp execOp
  simp only [ho, resolve, invoke, builtin, Sem.run_bind, Sem.run_pure, Result.andThen_ok, List.map_toArray, List.map_cons, List.map_nil, hes, hex, hr]
  exact h A' c' w' h2 h3 h4
end

theorem writeElem : ElemN Try.prog 69 68 (.agg #[.int .i64 0, .slice none 0 0]) 2 32 :=
  ElemN.mk_ Try.underlying69 rfl (by decide) (by kernel_rfl)

theorem DV.dk_W {x x1 : DV} (h : x1.dk.pend = x.dk.pend) : x1.W.length = x.W.length := by
  have := congrArg List.length h
  simpa [DV.dk] using this
theorem DV.dk_D {x x1 : DV} (h : x1.dk.dur = x.dk.dur) : x1.D.length = x.D.length := by
  have := congrArg List.length h
  simpa [DV.dk] using this
theorem Dk.stepD_dur (d : Dk) : d.stepD.dur = d.dur := by unfold Dk.stepD; split <;> (try split) <;> rfl
theorem Dk.stepD_pend (d : Dk) : d.stepD.pend = d.pend := by unfold Dk.stepD; split <;> (try split) <;> rfl

/-- A store into a row of the call's own. -/
theorem OwV.set {w : World} {base : Nat} {e : TypeId} {g n c : Nat} {vs : List Value} (h : OwV w base e (some ⟨g, 0, none⟩) n c vs) (j : Nat) (u : Value) : OwV (w.setCell ⟨g, j, none⟩ u) base e (some ⟨g, 0, none⟩) n c (vs.set j u) := by
  have hl := h.len
  obtain ⟨_, cur, hg, h1, h2, h3, h4⟩ := h.block rfl
  have hb := (h.lt g rfl).1
  refine ⟨by simpa using hl, .inr ⟨g, c, cur.setIfInBounds j u, rfl, hb, heap_set hg j u, h1, h2, by simpa using h3, ?_⟩⟩
  rw [Array.toList_setIfInBounds, List.take_set, Nat.mul_one, h4]
theorem OwV.spot {w : World} {base : Nat} {e : TypeId} {g n c : Nat} {vs : List Value} (h : OwV w base e (some ⟨g, 0, none⟩) n c vs) (j : Nat) (hj : j < n) : (∃ u, w.cell? ⟨g, j, none⟩ = some u ∧ vs[j]? = some u) ∧ w.frozen? ⟨g, j, none⟩ = false := by
  have hl := h.len
  obtain ⟨_, cur, hg, h1, h2, h3, h4⟩ := h.block rfl
  refine ⟨⟨vs[j]'(by omega), ?_, List.getElem?_eq_getElem (by omega)⟩, frozen_of_block hg j⟩
  obtain ⟨g', e', hc⟩ := h.cells (by omega)
  injection e' with e'; injection e' with e'; subst e'
  rw [hc j hj]
  exact List.getElem?_eq_getElem (by omega)

theorem map_set_v (D : List Sct) (j : Nat) (s : Sct) : (D.map Sct.v).set j s.v = (D.set j s).map Sct.v := by rw [List.map_set]

/-- The write is laid into 'now', and joins those that are pending. -/
theorem write_done {w w5 : World} {base : Nat} {x : DV} (h : x.At w base) (s : Sct) (hs : s.At w x.M) (j : Nat) (hj : j < x.D.length)
    (hm5 : Mod (fun k => blkOf x.pA = some k) (w.setCell ⟨x.bn, j, none⟩ s.v) w5) (A5 : Option Addr) (c5 : Nat) (hown : OwN w5 base 68 2 A5 (x.W.length + 1) c5 (pcells (x.W ++ [(j, s)])))
    (hA5 : ∀ k, blkOf A5 = some k → blkOf x.pA = some k ∨ w.heap.size ≤ k) (w1 : World) (hLk : Left w1 w base x x x.dk) (hnew : ∀ k, blkOf s.A = some k → w1.heap.size ≤ k) :
    ∃ x', Left w1 (w5.setCell ⟨x.p, 2, none⟩ (.slice A5 (x.W.length + 1) c5)) base x x' { x.dk with pend := x.dk.pend ++ [(j, s.xs)] } := by
  have hm4 : Mod (fun k => k = x.bn) w (w.setCell ⟨x.bn, j, none⟩ s.v) := (Mod.refl _ w).one _ _
  have hm45 : Mod x.M w w5 := (hm4.mono (fun _ _ e => .inr (.inr (.inl e)))).trans hm5 (fun k _ e => .inr (.inr (.inr e)))
  have hm6 : Mod (fun k => k = x.p) w5 (w5.setCell ⟨x.p, 2, none⟩ (.slice A5 (x.W.length + 1) c5)) := (Mod.refl _ w5).one _ _
  have hmod : Mod x.M w (w5.setCell ⟨x.p, 2, none⟩ (.slice A5 (x.W.length + 1) c5)) := hm45.trans hm6 (fun k _ e => .inl e)
  have hsz : (w.setCell ⟨x.bn, j, none⟩ s.v).heap.size = w.heap.size := by simp [World.setCell]
  have hlt : ∀ k, x.M k → k < w.heap.size := fun k hk => (h.M_lt hk).2
  have ho5 : w5.heap[x.p]? = some (.cells x.obj 71 (0, 0)) :=
    (hm5.block _ (by rw [hsz]; exact hlt _ (.inl rfl)) h.d4.1).trans ((hm4.block _ (hlt _ (.inl rfl)) h.d2).trans h.obj)
  have havoid : ∀ k, k < w.heap.size → ({ x with pA := A5, cp := c5, W := x.W ++ [(j, s)] } : DV).M k → x.M k := by
    rintro k hk (e | e | e | e)
    · exact .inl e
    · exact .inr (.inl e)
    · exact .inr (.inr (.inl e))
    · exact .inr (.inr (.inr ((hA5 k e).resolve_right (by omega))))
  have hsec : ∀ t : Sct, t.At w x.M → t.At (w5.setCell ⟨x.p, 2, none⟩ (.slice A5 (x.W.length + 1) c5)) ({ x with pA := A5, cp := c5, W := x.W ++ [(j, s)] } : DV).M := by
    intro t ht
    have h1 := ht.avoid havoid
    exact ⟨(ht.mod hmod).1, h1.2⟩
  have hne : ∀ k, blkOf A5 = some k → k ≠ x.p ∧ k ≠ x.bd ∧ k ≠ x.bn := by
    intro k hk
    rcases hA5 k hk with e | e
    · refine ⟨fun q => h.d4.1 ?_, fun q => h.d4.2.1 ?_, fun q => h.d4.2.2 ?_⟩ <;> rw [e, q]
    · have h1 := hlt x.p (.inl rfl)
      have h2 := hlt x.bd (.inr (.inl rfl))
      have h3 := hlt x.bn (.inr (.inr (.inl rfl)))
      omega
  refine ⟨{ x with pA := A5, cp := c5, W := x.W ++ [(j, s)] }, ⟨?_, ?_, ?_, ?_, fun t ht => hsec t (h.secs t ht), ?_, h.pb, h.d1, h.d2, h.d3, ?_, h.pos, h.few, h.lft⟩, ?_, rfl, hLk.mod.trans hmod (fun _ _ e => e), ?_, ?_⟩
  · have := heap_set ho5 2 (.slice A5 (x.W.length + 1) c5)
    rw [this]
    simp [DV.obj]
  · exact ((h.dur.mod hm4 (fun k hk e => by simp [blkOf] at hk; exact h.d3 (by omega))).mod hm5 (fun k hk e => by simp [blkOf] at hk; exact h.d4.2.1 (by rw [e, hk]))).mod hm6 (fun k hk e => by simp [blkOf] at hk; exact h.d1 (by omega))
  · have h1 := h.now.set j s.v
    rw [map_set_v, ← lay_snoc x.D x.W (j, s)] at h1
    exact (h1.mod hm5 (fun k hk e => by simp [blkOf] at hk; exact h.d4.2.2 (by rw [e, hk]))).mod hm6 (fun k hk e => by simp [blkOf] at hk; exact h.d2 (by omega))
  · have h1 := hown.mod hm6 (fun k hk e => (hne k hk).1 e)
    simpa using h1
  · intro y hy
    rcases List.mem_append.1 hy with hy | hy
    · exact ⟨(h.wsecs y hy).1, hsec _ (h.wsecs y hy).2⟩
    · simp at hy; subst hy; exact ⟨hj, hsec _ hs⟩
  · exact ⟨fun e => (hne _ e).1 rfl, fun e => (hne _ e).2.1 rfl, fun e => (hne _ e).2.2 rfl⟩
  · simp [DV.dk]
  · rintro k (e | e | e | e)
    · exact .inl (.inl e)
    · exact .inl (.inr (.inl e))
    · exact .inl (.inr (.inr (.inl e)))
    · rcases hA5 k e with q | q
      · exact .inl (.inr (.inr (.inr q)))
      · exact .inr (Nat.le_trans hLk.mod.size q)
  · rintro N hN ⟨a1, a2⟩
    refine ⟨a1, fun y hy k hk hNk => ?_⟩
    rcases List.mem_append.1 hy with hy | hy
    · exact a2 y hy k hk hNk
    · simp at hy
      subst hy
      have := hnew k hk
      have := hN k hNk
      omega

set_option maxRecDepth 100000 in
set_option maxHeartbeats 1600000 in
theorem write_ok (w : World) (base : Nat) (x : DV) (h : x.At w base) (hb : base ≤ w.heap.size) (i : Int) (A : Option Addr) (n c : Nat) (ys : List UInt8) (hy : Sl w A n c ys) (hM : ∀ k, blkOf A = some k → ¬ x.M k) (hW : x.W.length ≤ 1000) :
    Calls Try.prog 13 #[.pointer (some ⟨x.p, 0, none⟩), .int .i64 i, .slice A n c] w fun e w' => e = .returned (.int .i64 (x.dk.writeE i n)) ∧ ∃ x', Left w w' base x x' (x.dk.write i ys) := by
  by_cases hr : x.dk.reach i = 0
  · by_cases hn : n = 256
    · subst hn
      by_cases hs : x.dk.stepE = 0
      · have e1 : x.dk.writeE i 256 = 0 := by unfold Dk.writeE; rw [if_pos hr, if_pos rfl, hs]
        have e2 : x.dk.write i ys = { x.dk.stepD with pend := x.dk.pend ++ [(i.toNat, ys)] } := by unfold Dk.write; rw [if_pos ⟨hr, hy.len⟩, if_pos hs]
        rw [e1, e2]
        obtain ⟨_, hi0, hi1⟩ := Dk.reach_zero hr
        rw [x.dk_len] at hi1
        have H := Lib.hid h
        have Hy := Lib.hid hy
        have HM := Lib.hid hM
        have Hs := Lib.hid (step_ok w base x h)
        have Hr := Lib.hid (reach_ok w base x h i)
        rw [hr] at Hr
        rw [hs] at Hs
        clear h hy hM e1 e2 hr hs
        go_enter Try.func13, Try.ntmps13
        go_wp2_with fail
        refine Hr.out.mono ?_
        rintro e w' ⟨rfl, rfl⟩
        go_wp2_with fail
        refine Hs.out.mono ?_
        rintro e w1 ⟨rfl, x1, hL⟩
        have hy1 := Hy.out.mod hL.mod (fun k e _ => HM.out k e)
        obtain ⟨b, o, hA, hbl⟩ := hy1.lt (by omega)
        subst hA
        clear Hr Hs
        go_wp2_with fail
        refine (bclone_ok _ _ _ _ _ _ hy1 (by omega)).mono ?_
        rintro e w2 ⟨A', c', rfl, hf, hm2⟩
        have h2 := hL.at_.keep hm2
        have hb2 := hf.lt
        have hD1 : x1.D.length = x.D.length := DV.dk_D (by rw [hL.dk, Dk.stepD_dur])
        have hW1 : x1.W.length = x.W.length := DV.dk_W (by rw [hL.dk, Dk.stepD_pend])
        have hp1 := hL.p
        rw [← hp1]
        rw [← hD1] at hi1
        have hW1' : x1.W.length ≤ 1000 := by omega
        have Hm2 := Lib.hid hm2
        have HL := Lib.hid hL
        have Hf := Lib.hid hf
        have Hb2 := Lib.hid hb2
        have Hnew : Hid (∀ k, blkOf A' = some k → w1.heap.size ≤ k) := fun k hk => (hb2 k hk).1
        have H2 := Lib.hid h2
        clear hm2 hL hf hb2 h2 hy1 hD1 hW1 hp1 Hy HM H hW
        go_wp2_with fail
        have hsat : (⟨A', c', ys⟩ : Sct).At w2 x1.M := ⟨Hf.out.sl, fun k hk hM => by have h1 := (Hb2.out k hk).1; have h2 := (HL.out.at_.M_lt hM).2; omega⟩
        obtain ⟨w3, hw3⟩ : ∃ w3, w3 = w2.alloc (.cells #[.int .i64 i, .slice A' 256 c'] 68) := ⟨_, rfl⟩
        rw [← hw3]
        have hm3 : Mod (fun _ => False) w2 w3 := by rw [hw3]; exact (Mod.refl _ _).alloc _
        have h3 : x1.At w3.drew base := H2.out.keep hm3.drew
        have hs3 : (⟨A', c', ys⟩ : Sct).At w3.drew x1.M := hsat.keep hm3.drew
        have hb3 : w3.heap[w2.heap.size]? = some (.cells #[.int .i64 i, .slice A' 256 c'] 68 (0, 0)) := by rw [hw3]; exact heap_alloc_new w2 _
        have c31 : w3.cell? ⟨w2.heap.size, 1, none⟩ = some (.slice A' 256 c') := by rw [cell_of_row _ _ _ _ _ _ hb3]; rfl
        have c3n := h3.cells.2.1
        obtain ⟨⟨u, cu, _⟩, fu⟩ := h3.now.spot i.toNat (by omega)
        have hsz3 : w3.heap.size = w2.heap.size + 1 := by rw [hw3]; simp
        have Hsz3 : Hid (w3.drew.heap.size = w2.heap.size + 1) := hsz3
        have Hm3 := Lib.hid hm3.drew
        have H3 := Lib.hid h3
        have Hs3 := Lib.hid hs3
        have Hb3 : Hid (w3.drew.heap[w2.heap.size]? = some (.cells #[.int .i64 i, .slice A' 256 c'] 68 (0, 0))) := hb3
        have Hb := Lib.hid hb
        clear hw3 hm3 h3 hs3 hb3 hsat H2 Hf Hb2 hb hsz3
        go_still_tail 7, (by kernel_rfl)
        change wpList _ _ _ _ _ w3.drew
        have c3n' : w3.drew.cell? ⟨x1.bn, i.toNat, none⟩ = some u := cu
        have fu' : w3.drew.frozen? ⟨x1.bn, i.toNat, none⟩ = false := fu
        clear c31 c3n cu fu
        generalize w3.drew = W3 at *
        go_wp2_with fail
        -- the pending writes: one more
        obtain ⟨w4, hw4⟩ : ∃ w4, w4 = W3.setCell ⟨x1.bn, i.toNat, none⟩ (.slice A' 256 c') := ⟨_, rfl⟩
        rw [← hw4]
        have hm4 : Mod (fun k => k = x1.bn) W3 w4 := by rw [hw4]; exact (Mod.refl _ _).one _ _
        have hs4 : w4.heap.size = W3.heap.size := by rw [hw4]; simp [World.setCell]
        have hlt3 : ∀ k, x1.M k → k < W3.heap.size := fun k hk => (H3.out.M_lt hk).2
        have hbl4 : w4.heap[w2.heap.size]? = some (.cells #[.int .i64 i, .slice A' 256 c'] 68 (0, 0)) :=
          (hm4.block _ (by have := Hsz3.out; omega) (fun e => by
            have h1 := (HL.out.at_.M_lt (.inr (.inr (.inl rfl)))).2
            have h2 := Hm2.out.size
            omega)).trans Hb3.out
        have c40 : w4.cell? ⟨w2.heap.size, 0, none⟩ = some (.int .i64 i) := by rw [cell_of_row _ _ _ _ _ _ hbl4]; rfl
        have c41 : w4.cell? ⟨w2.heap.size, 1, none⟩ = some (.slice A' 256 c') := by rw [cell_of_row _ _ _ _ _ _ hbl4]; rfl
        have hob4 := (hm4.block _ (hlt3 _ (.inl rfl)) H3.out.d2).trans H3.out.obj
        have c4p : w4.cell? ⟨x1.p, 2, none⟩ = some (.slice x1.pA x1.W.length x1.cp) := by rw [cell_of_row _ _ _ _ _ _ hob4]; rfl
        have c4q : (w4.alloc (.cells #[.int .i64 i, .slice A' 256 c'] 68)).cell? ⟨x1.p, 2, none⟩ = some (.slice x1.pA x1.W.length x1.cp) :=
          (World.cell?_of_block (Below.heap_alloc w4 _ _ (Array.getElem?_eq_some_iff.1 hob4).1)).trans c4p
        have f4p : w4.frozen? ⟨x1.p, 2, none⟩ = false := frozen_of_block hob4 2
        have hown4 : OwN w4 base 68 2 x1.pA x1.W.length x1.cp (pcells x1.W) := H3.out.pend.mod hm4 (fun k hk e => H3.out.d4.2.2 (by rw [hk, e]))
        have hown5 : Hid (OwN (w4.drew.alloc (.cells #[.int .i64 i, .slice A' 256 c'] 68)) base 68 2 x1.pA x1.W.length x1.cp (pcells x1.W)) := OwN.alloc (w := w4.drew) hown4 _
        have hsrc5 : Hid (SrcN (w4.drew.alloc (.cells #[.int .i64 i, .slice A' 256 c'] 68)) (some ⟨w4.drew.heap.size, 0, none⟩) 1 2 [.int .i64 i, .slice A' 256 c']) := SrcN.lit w4.drew [.int .i64 i, .slice A' 256 c'] 68 (by simp [Value.oneCell'])
        have hbb : Hid ((x1.W.length + 1) * 32 ≤ 140737488355328) := by show _ ≤ _; omega
        have hml : Hid (x1.W.length + 1 ≤ maxLen) := by show _ ≤ _; unfold maxLen; omega
        have hbase : Hid (base ≤ (w4.drew.alloc (.cells #[.int .i64 i, .slice A' 256 c'] 68)).heap.size) := by
          show base ≤ _
          have h1 := HL.out.mod.size
          have h2 := Hm2.out.size
          have h3 := Hsz3.out
          have h4 := Hb.out
          have h5 : w4.drew.heap.size = w4.heap.size := rfl
          rw [World.size_alloc, h5]; omega
        have Hc5 : Hid (∀ w5, (w4.drew.alloc (.cells #[.int .i64 i, .slice A' 256 c'] 68)).grownBy w5 (blkOf x1.pA) → w5.cell? ⟨x1.p, 2, none⟩ = some (.slice x1.pA x1.W.length x1.cp) ∧ w5.frozen? ⟨x1.p, 2, none⟩ = false) := by
          intro w5 hg5
          have hp4 : x1.p < w4.drew.heap.size := (Array.getElem?_eq_some_iff.1 hob4).1
          have hob5 : w5.heap[x1.p]? = some (.cells x1.obj 71 (0, 0)) :=
            (hg5.block _ (by rw [World.size_alloc]; omega) (fun e => H3.out.d4.1 e.symm)).trans ((Below.heap_alloc w4.drew _ _ hp4).trans hob4)
          exact ⟨by rw [cell_of_row _ _ _ _ _ _ hob5]; rfl, frozen_of_block hob5 2⟩
        have Hw4 := Lib.hid hw4
        have Hm4 := Lib.hid hm4
        have Hs4 := Lib.hid hs4
        have Hlt3 := Lib.hid hlt3
        clear hw4 hm4 hs4 hlt3 hbl4 hob4 hown4 c3n' fu'
        go_region_law ((rw [if_pos (by simp [Region.wanted])]); refine wp_appN (A2 := some ⟨w4.heap.size, 0, none⟩) (m := 1) (c2 := 1) (.tmp 40) (.tmp 42) writeElem rfl (by go_simp) (by go_simp) hown5.out hsrc5.out hbb.out hml.out hbase.out ?_; intro A5 c5 w5 ho5 hg5 hbk5; have hc5 := (Hc5.out w5 hg5).1; have hf5 := (Hc5.out w5 hg5).2)
        all_goals
          go_wp2
          go_ret
          refine ⟨rfl, ?_⟩
          have hm5 : Mod (fun k => blkOf x1.pA = some k) w4 w5 := ((Mod.refl _ w4).drew.alloc _).grown hg5 (fun k e _ => e)
          rw [Hw4.out] at hm5
          have hA5 : ∀ k, blkOf A5 = some k → blkOf x1.pA = some k ∨ W3.heap.size ≤ k := by
            intro k hk
            rcases hbk5 with e | e
            · exact .inl (by rw [← e]; exact hk)
            · rw [hk] at e; injection e with e; subst e
              right
              have := Hs4.out
              show W3.heap.size ≤ (w4.alloc (.cells #[.int .i64 i, .slice A' 256 c'] 68)).heap.size
              rw [World.size_alloc]; omega
          have hown : OwN w5 base 68 2 A5 (x1.W.length + 1) c5 (pcells (x1.W ++ [(i.toNat, (⟨A', c', ys⟩ : Sct))])) := by
            rw [pcells_snoc]
            have hii : ((i.toNat : Nat) : Int) = i := by omega
            show OwN w5 base 68 2 A5 (x1.W.length + 1) c5 (pcells x1.W ++ [.int .i64 (i.toNat : Int), .slice A' 256 c'])
            rw [hii]
            exact ho5
          have hLk : Left w1 W3 base x1 x1 x1.dk := ⟨H3.out, rfl, rfl, (Hm2.out.trans Hm3.out (fun _ _ h => h)).mono (fun _ _ h => h.elim), fun _ h => .inl h, fun _ _ h => h⟩
          obtain ⟨x', hL'⟩ := write_done H3.out ⟨A', c', ys⟩ Hs3.out i.toNat (by omega) hm5 A5 c5 hown hA5 w1 hLk Hnew.out
          have hfin := HL.out.trans hL'
          rw [HL.out.dk, Dk.stepD_pend] at hfin
          exact ⟨x', hfin⟩
      · have hE : x.dk.stepE = 30 := by
          unfold Dk.stepE at hs ⊢
          split at hs
          · rename_i h1; rw [if_pos h1]
          · exact absurd rfl hs
        have e1 : x.dk.writeE i 256 = 30 := by unfold Dk.writeE; rw [if_pos hr, if_pos rfl, hE]
        have e2 : x.dk.write i ys = x.dk.stepD := by unfold Dk.write; rw [if_pos ⟨hr, hy.len⟩, if_neg hs]
        rw [e1, e2]
        have Hs := Lib.hid (step_ok w base x h)
        have Hr := Lib.hid (reach_ok w base x h i)
        rw [hr] at Hr
        rw [hE] at Hs
        clear h hy hM e1 e2 hr hs hE
        go_enter Try.func13, Try.ntmps13
        go_wp2_with fail
        refine Hr.out.mono ?_
        rintro e w' ⟨rfl, rfl⟩
        go_wp2_with fail
        refine Hs.out.mono ?_
        rintro e w1 ⟨rfl, x1, hL⟩
        have HL := Lib.hid hL
        clear hL
        go_wp2
        go_ret
        exact ⟨rfl, x1, HL.out⟩
    · have e1 : x.dk.writeE i n = 1 := by unfold Dk.writeE; rw [if_pos hr, if_neg hn]
      have e2 : x.dk.write i ys = x.dk := by unfold Dk.write; rw [if_neg (fun q => hn (by rw [← hy.len]; exact q.2))]
      rw [e1, e2]
      have hne : ((n : Int) != 256) = true := by rw [bne_iff_ne]; omega
      have Hr := Lib.hid (reach_ok w base x h i)
      have HL := Lib.hid (Left.stay h)
      rw [hr] at Hr
      clear h hy hM e1 e2 hr hn
      go_enter Try.func13, Try.ntmps13
      go_wp2_with fail
      refine Hr.out.mono ?_
      rintro e w' ⟨rfl, rfl⟩
      go_wp2
      go_ret
      exact ⟨rfl, x, HL.out⟩
  · have e1 : x.dk.writeE i n = x.dk.reach i := by unfold Dk.writeE; rw [if_neg hr]
    have e2 : x.dk.write i ys = x.dk := by unfold Dk.write; rw [if_neg (fun q => hr q.1)]
    rw [e1, e2]
    have Hr := Lib.hid (reach_ok w base x h i)
    have HL := Lib.hid (Left.stay h)
    have hne : (x.dk.reach i != 0) = true := by simpa using hr
    clear h hy hM e1 e2 hr
    generalize x.dk.reach i = r at *
    go_enter Try.func13, Try.ntmps13
    go_wp2_with fail
    refine Hr.out.mono ?_
    rintro e w' ⟨rfl, rfl⟩
    go_wp2
    go_ret
    exact ⟨rfl, x, HL.out⟩
end Go.Proofs.Ytfgngmoeedegiaa
