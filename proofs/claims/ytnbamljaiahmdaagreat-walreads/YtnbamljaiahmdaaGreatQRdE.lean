/-
  wal.Read.
-/
import Derived.Test.YtnbamljaiahmdaaGreatQRdO
import Derived.RangeFuncLeaves
namespace Go.Proofs.YtnbamljaiahmdaaGreat
open Go Go.RowKit Go.Shelf
attribute [local go_sem] Oper.semAt_some

set_option maxRecDepth 100000 in
theorem wbatches_ok (w : World) (px : Option Addr) (b n q : Int) : Calls Tryz.prog 24 #[.agg #[.pointer px, .int .i64 b, .int .i64 n], .int .i64 q] w fun e w' =>
    e = .returned (.func (.func 41) #[] #[.pointer (some ⟨w.heap.size + 1, 0, none⟩), .pointer (some ⟨w.heap.size, 0, none⟩)]) ∧ w' = (w.alloc (.cells #[.pointer px, .int .i64 b, .int .i64 n] 64)).alloc (.cells #[.int .i64 q] 3) := by
  have hmf : ∀ (fn : Fn) (first cap : Array Value) (w : World), (Instr.makeFunc fn first cap).run Tryz.prog w = .ok (.func fn first cap) w := fun _ _ _ _ => rfl
  go_enter Tryz.func24, Tryz.ntmps24
  go_wp2
  go_ret
  exact ⟨rfl, rfl⟩

/-- What Read answers. -/
structure ReA (w : World) (from_ : Int) (bs : List Bm) (e : Ending) (w' : World) : Prop where
  ex : ∃ A c L, e = .returned (.tuple #[.slice A L.length c, .int .i64 (from_ + bs.length), .int .i64 (lastE bs), .int .i64 0]) ∧ OwN w' w.heap.size 71 15 A L.length c (lgC L) ∧ (∀ y ∈ L, y.r.o.Own w' w.heap.size ∧ y.r.v.Own w' w.heap.size) ∧ L.map LgD.p = outM bs
  old : Mod (fun _ => False) w w'

set_option maxRecDepth 100000 in
set_option maxHeartbeats 8000000 in
theorem wread_ok (w w0 : World) (x : DV) (d : Dk) (h : Dev w0 w x d) (hdead : d.dead = false) (b n from_ : Int) (bB : b < 9223372036854775808) (bb : -9223372036854775808 ≤ b) (nB : n < 9223372036854775808) (hmay : MayL d.dur.length b n 1 from_ from_) :
    Calls Tryz.prog 7 #[.pointer (some ⟨x.p, 0, none⟩), .int .i64 b, .int .i64 n, .int .i64 from_] w (ReA w from_ (batsM (fun q => d.read (b + q % n)) n.toNat from_ .zero)) := by
  refine (callsIn_wide (n := 8)).1 ?_
  have hfew : d.dur.length ≤ 4096 := by have := h.at_.few; have := h.lenD; omega
  have hNew := Lib.hid (wnew_yes w w0 x d h b n 1 from_ from_ bB bb nB hmay)
  have may := hmay
  obtain ⟨N, rfl⟩ : ∃ N : Nat, n = N := ⟨n.toNat, by have := may.n2; omega⟩
  have b0 := may.b0
  have bn := may.bn
  have n2 := may.n2
  have f0 := may.s0
  have f1 := may.nm
  have HH := Lib.hid h
  have Hdead := Lib.hid hdead
  clear h hdead hmay may bB bb nB
  rw [Int.toNat_natCast]
  refine callsIn_of_wp_marks Tryz.func7 rfl trivial ?_ rfl
  simp only [Tryz.ntmps7, List.size_toArray, List.length_cons, List.length_nil, Nat.reduceAdd, Nat.reduceSub, Array.replicate_succ, Array.replicate_zero, List.push_toArray, List.append_toArray, List.nil_append, List.cons_append]
  gi_wp2_with fail
  refine ⟨trivial, ?_⟩
  refine (callsIn_wide.2 hNew.out).mono ?_
  rintro e w1 ⟨rfl, hw1⟩
  have hm1 : Mod (fun _ => False) w w1 := by rw [hw1]; exact (Mod.refl _ w).alloc _
  have Hde := Lib.hid (dev_dead w0 w1 x d (HH.out.keep hm1))
  rw [Hdead.out] at Hde
  have Hm1 := Lib.hid hm1
  clear hNew hw1 hm1
  gi_wp2_with fail
  refine ⟨trivial, ?_⟩
  refine (callsIn_wide.2 Hde.out).mono ?_
  rintro e w2 ⟨rfl, rfl⟩
  clear Hde
  obtain ⟨w3, hw3⟩ : ∃ w3, ((w2.alloc (.cells #[.slice none 0 0] 30)).alloc (.cells #[.int .i64 from_] 3)).alloc (.cells #[.int .i64 0] 3) = w3 := ⟨_, rfl⟩
  have hbo : Boxed w3 w2.heap.size 30 (.slice none 0 0) := by rw [← hw3]; exact ((Boxed.new w2 _ _).alloc _).alloc _
  have hbe : Boxed w3 (w2.heap.size + 1) 3 (.int .i64 from_) := by
    have h1 := (Boxed.new (w2.alloc (.cells #[.slice none 0 0] 30)) 3 (.int .i64 from_)).alloc (.cells #[.int .i64 0] 3)
    rw [World.size_alloc, hw3] at h1
    exact h1
  have hbp : Boxed w3 (w2.heap.size + 2) 3 (.int .i64 0) := by
    have h1 := Boxed.new ((w2.alloc (.cells #[.slice none 0 0] 30)).alloc (.cells #[.int .i64 from_] 3)) 3 (.int .i64 0)
    rw [World.size_alloc, World.size_alloc, hw3] at h1
    exact h1
  have hs3 : w3.heap.size = w2.heap.size + 3 := by rw [← hw3]; simp only [World.size_alloc]
  have hm3 : Mod (fun _ => False) w2 w3 := by rw [← hw3]; exact (((Mod.refl _ w2).alloc _).alloc _).alloc _
  have Hw3 := Lib.hid hw3
  have Hbo := Lib.hid hbo
  have Hbe := Lib.hid hbe
  have Hbp := Lib.hid hbp
  have Hs3 := Lib.hid hs3
  have Hm3 := Lib.hid (Hm1.out.trans hm3 (fun _ _ h => h))
  clear hw3 hbo hbe hbp hs3 hm3
  gi_wp2_with fail
  rw [Hw3.out]
  refine ⟨trivial, ?_⟩
  refine (callsIn_wide.2 (wbatches_ok w3 _ _ _ _)).mono ?_
  rintro e wD ⟨rfl, hwD⟩
  have hmD : Mod (fun _ => False) w3 wD := by rw [hwD]; exact ((Mod.refl _ w3).alloc _).alloc _
  have hsD : wD.heap.size = w3.heap.size + 2 := by rw [hwD]; simp only [World.size_alloc]
  have hbf : Boxed wD (w3.heap.size + 1) 3 (.int .i64 from_) := by
    have h1 := Boxed.new (w3.alloc (.cells #[.pointer (some ⟨x.p, 0, none⟩), .int .i64 b, .int .i64 N] 64)) 3 (.int .i64 from_)
    rw [World.size_alloc, ← hwD] at h1
    exact h1
  have hbr : wD.heap[w3.heap.size]? = some (.cells #[.pointer (some ⟨x.p, 0, none⟩), .int .i64 b, .int .i64 N] 64 (0, 0)) := by
    rw [hwD]
    exact (((Mod.refl (fun _ => False) (w3.alloc (.cells #[.pointer (some ⟨x.p, 0, none⟩), .int .i64 b, .int .i64 N] 64))).alloc (.cells #[.int .i64 from_] 3)).block _ (by simp) id).trans (heap_alloc_new w3 _)
  have ho := (hmD.block _ Hbo.out.lt id).trans Hbo.out
  have hbe := (hmD.block _ Hbe.out.lt id).trans Hbe.out
  have hbp : Boxed wD (w2.heap.size + 1 + 1) 3 (.int .i64 0) := (hmD.block _ Hbp.out.lt id).trans Hbp.out
  have hmDw : Mod (fun _ => False) w wD := Hm3.out.trans hmD (fun _ _ h => h)
  have hss : w3.heap.size = w2.heap.size + 3 := Hs3.out
  have hsw : w.heap.size ≤ w2.heap.size := Hm1.out.size
  obtain ⟨Bo, hBo⟩ : ∃ Bo, w2.heap.size = Bo := ⟨_, rfl⟩
  obtain ⟨Br, hBr⟩ : ∃ Br, w3.heap.size = Br := ⟨_, rfl⟩
  rw [hBo] at ho hbe hbp hss hsw ⊢
  rw [hBr] at hsD hbf hbr hss ⊢
  have HmDw := Lib.hid hmDw
  have Hlt : Hid (Bo + 1 + 1 < Br ∧ wD.heap.size = Br + 2 ∧ w.heap.size ≤ Bo) := ⟨by omega, hsD, hsw⟩
  have Ho : Hid (Boxed wD Bo 30 (.slice none 0 0)) := ho
  have He : Hid (Boxed wD (Bo + 1) 3 (.int .i64 from_)) := hbe
  have Hp := Lib.hid hbp
  have Hf := Lib.hid hbf
  have Hr := Lib.hid hbr
  clear hmD hsD hbf hbr ho hbe hbp hmDw hss hsw hBo hBr hwD Hw3 Hbo Hbe Hbp Hs3 Hm3 Hm1
  gi_wp2_with fail
  have hG : ∀ k, (G3 Bo (Bo + 1) (Bo + 1 + 1)) k → ∃ (cs : Array Value) (t : TypeId), wD.heap[k]? = some (.cells cs t (0, 0)) ∧ t ≠ 60 ∧ t ≠ 50 ∧ t ≠ 57 ∧ cs.size ≤ 255 ∧ w0.heap.size ≤ k := by
    have hw := HH.out.old.size
    have hl := Hlt.out
    rintro k (rfl | rfl | rfl)
    · exact ⟨_, _, Ho.out, by decide, by decide, by decide, by simp, by omega⟩
    · exact ⟨_, _, He.out, by decide, by decide, by decide, by simp, by omega⟩
    · exact ⟨_, _, Hp.out, by decide, by decide, by decide, by simp, by omega⟩
  have hgk : ∀ k, Br ≤ k → ¬ (G3 Bo (Bo + 1) (Bo + 1 + 1)) k := by
    have hl := Hlt.out
    rintro k hk (e | e | e) <;> omega
  have HG := Lib.hid hG
  have Hgk := Lib.hid hgk
  have Hb6 : Hid (Bo < wD.heap.size ∧ Bo + 1 < wD.heap.size ∧ Bo + 1 + 1 < wD.heap.size ∧ Bo ≠ Bo + 1 ∧ Bo ≠ Bo + 1 + 1 ∧ Bo + 1 ≠ Bo + 1 + 1) := by have := Hlt.out; show _ ∧ _; omega
  have Hb3 : Hid (Bo < wD.heap.size ∧ Bo + 1 < wD.heap.size ∧ Bo + 1 + 1 < wD.heap.size) := by have := Hlt.out; show _ ∧ _; omega
  clear hG hgk
  refine wpIn_rangeFunc_T (α := BtD) (K := 1) (N := N) rfl (by omega) (gf := 41) (lb := #[.pointer (some ⟨Br + 1, 0, none⟩), .pointer (some ⟨Br, 0, none⟩)]) rfl trivial (enters_of Tryz.func41 (by kernel_rfl) rfl)
    (bats_seq 7 (Br + 1) Br (by omega) wD x d (G3 Bo (Bo + 1) (Bo + 1 + 1)) b from_ N (by omega) (by omega) (by omega) (by omega) (by omega) (by omega) (fun W hW => ⟨w0, (HH.out.keep HmDw.out).pokes HG.out hW⟩)
      (fun W hW => ((hW.block _ Hf.out.lt (Hgk.out _ (by omega))).trans Hf.out |> fun h => by rw [cell_of_row _ _ _ _ _ _ h]; rfl))
      (fun W hW => by
        have hr := (hW.block _ (Array.getElem?_eq_some_iff.1 Hr.out).1 (Hgk.out _ (Nat.le_refl _))).trans Hr.out
        refine ⟨?_, ?_, ?_⟩ <;> (rw [cell_of_row _ _ _ _ _ _ hr]; rfl)))
    KpB.trans
    (fun W l o o' hl ho hc => ⟨(Mod.refl _ W).grown (grownBy_putObj' W l o') (fun k e _ => by cases e; exact .inr hl), fun k cur fr hk => (World.putObj_heap_other (fun e => by subst e; exact noncell_ne hk ⟨o, ho, hc⟩)).trans hk⟩)
    (Below.refl _ _) (fun _ => rfl)
    (fun pre W => Ro wD (wD.heap.size + 3) Bo (Bo + 1) (Bo + 1 + 1) (outM (pre.map BtD.m)) (endM from_ (pre.map BtD.m)) (lastE (pre.map BtD.m)) W ∧ (outM (pre.map BtD.m)).length ≤ 60 * pre.length)
    ?hI ?h0
    (fun z a' W => ∃ gx, z.In W gx ∧ wD.heap.size + 3 ≤ gx ∧ a' = { tmps := #[.pointer (some ⟨x.p, 0, none⟩), .int .i64 b, .int .i64 (N : Int), .int .i64 from_, undef, undef, undef, undef, .slice none 0 0, .int .i64 0, .int .i64 0, .int .i64 0, .pointer (some ⟨w.heap.size, 0, none⟩), .int .i64 0, .pointer (some ⟨Bo, 0, none⟩), .pointer (some ⟨Bo + 1, 0, none⟩), .pointer (some ⟨Bo + 1 + 1, 0, none⟩), .pointer (some ⟨gx, 0, none⟩), undef, undef, .tuple #[.pointer (some ⟨w.heap.size, 0, none⟩), .int .i64 0], .pointer (some ⟨x.p, 0, none⟩), .int .i64 b, .int .i64 (N : Int), .int .i64 from_, .int .i64 from_, .tuple #[.pointer (some ⟨w.heap.size, 0, none⟩), .int .i64 0], .pointer (some ⟨w.heap.size, 0, none⟩), .int .i64 0, .int .i64 0, .bool false, undef, .pointer (some ⟨x.p, 0, none⟩), .bool false, .int .i64 from_, .pointer (some ⟨x.p, 0, none⟩), .int .i64 b, .int .i64 (N : Int), .agg #[.pointer (some ⟨x.p, 0, none⟩), .int .i64 b, .int .i64 (N : Int)], .int .i64 from_, .func (.func 41) #[] #[.pointer (some ⟨Br + 1, 0, none⟩), .pointer (some ⟨Br, 0, none⟩)], .agg z.cells, undef, undef, undef, undef, undef, undef, undef, undef, undef, undef, undef, undef, undef, undef, undef, undef, undef, undef, undef, undef, undef, undef, undef, undef, undef, undef], defers := [] })
    ?hAx ?assign ?body ?done
  case hI =>
    rintro pre X Y row ⟨h1, h2⟩ hg hr
    exact ⟨h1.grow Hb3.out hg hr, h2⟩
  case h0 => exact ⟨⟨⟨none, 0, [], Ho.out, OwN.nil _ _ _ _, fun y hy => absurd hy (by simp), rfl⟩, He.out, Hp.out, Mod.refl _ _⟩, by simp [outM]⟩
  case hAx =>
    rintro z a' _ X Y row ⟨⟨gx, h1, h2, h3⟩, h4, h5, h6, h7, h8⟩ hg hr
    have hno : ∀ {cs : Array Value} {t : TypeId} {fr : Nat × Nat} (k : Nat), X.heap[k]? = some (.cells cs t fr) → some k ≠ row := fun k e e' => by
      obtain ⟨hk, h | h⟩ := hr k e'.symm
      · exact noncell_ne e h
      · omega
    have hm : Mod (fun k => row = some k) X Y := ⟨hg.os, hg.tape, hg.output, hg.size, fun k hk hne => hg.block k hk (fun e => hne e.symm)⟩
    have own : ∀ v : VlD, v.Own X (wD.heap.size + 2 + 1) → v.Own Y (wD.heap.size + 2 + 1) := fun v hv => OwV.mod hv hm (fun k hk e => by
      obtain ⟨cs, e2⟩ := own_type hv hk
      exact hno k e2 e.symm)
    exact ⟨⟨gx, h1.mod hm (fun e => hno gx h1 e.symm), h2, h3⟩, h4.mod hm (fun k hk e => by obtain ⟨cs, e2⟩ := h4.type_ hk; exact hno k e2 e.symm), fun y hy => ⟨own _ (h5 y hy).1, own _ (h5 y hy).2⟩, h6, h7, Nat.le_trans h8 hg.size⟩
  case assign =>
    rintro l pre z W K ⟨hR, hc⟩ hfx hK
    have HK := Lib.hid hK
    have Hfx := Lib.hid hfx
    have HR := Lib.hid hR
    have Hc := Lib.hid hc
    clear hK hfx hR hc
    dsimp only
    gi_wp2
    have hm : Mod (fun _ => False) W (W.alloc (.cells z.cells 68)) := (Mod.refl _ W).alloc _
    obtain ⟨h4, h5, h6, h7, h8⟩ := Hfx.out
    exact HK.out _ _ (Stp.keep (G := (G3 Bo (Bo + 1) (Bo + 1 + 1))) hm).ks (Stp.keep hm).kp ⟨HR.out.keep Hb3.out hm, Hc.out⟩ ⟨⟨W.heap.size, BtD.In.new W z, by omega, rfl⟩, h4.mod hm (fun _ _ => id), fun y hy => ⟨OwV.mod (h5 y hy).1 hm (fun _ _ => id), OwV.mod (h5 y hy).2 hm (fun _ _ => id)⟩, h6, h7, Nat.le_trans h8 hm.size⟩
  case done =>
    rintro D zs W hD hzs ⟨hR, _⟩ hK
    rw [hzs] at hR
    obtain ⟨bs, hbs⟩ : ∃ bs, batsM (fun q => d.read (b + q % (N : Int))) N from_ .zero = bs := ⟨_, rfl⟩
    have hend : endM from_ bs = from_ + bs.length := by rw [← hbs]; exact endM_bats _ _ _ _
    rw [hbs, hend] at hR
    obtain ⟨A, c, L, h1, h2, h3, h4⟩ := hR.ex
    have hne : D ≠ Bo := by have := Hlt.out; omega
    have c1 := h1.cell
    have c2 := hR.be.cell
    have c3 := hR.bp.cell
    have hl := Hlt.out
    have hfin : ∀ nq, ReA w from_ bs (.returned (.tuple #[.slice A L.length c, .int .i64 (from_ + bs.length), .int .i64 (lastE bs), .int .i64 0])) ((W.drewN nq).putObj D (.deferred none)) := by
      intro nq
      have hb : w.heap.size ≤ wD.heap.size + 3 := by omega
      have hm : Mod (fun k => k = D) W ((W.drewN nq).putObj D (.deferred none)) := ((Mod.refl (fun k => k = D) W).drewN nq).grown (grownBy_putObj' _ D _) (fun k e _ => by cases e; rfl)
      have own : ∀ v : VlD, v.Own W (wD.heap.size + 3) → v.Own ((W.drewN nq).putObj D (.deferred none)) (wD.heap.size + 3) := fun v hv => OwV.mod hv hm (fun k hk e => by
        obtain ⟨cs, e2⟩ := own_type hv hk
        exact noncell_ne e2 ⟨_, by rw [e]; exact hK, rfl⟩)
      refine ⟨⟨A, c, L, rfl, (h2.mod hm (fun k hk e => by obtain ⟨cs, e2⟩ := h2.type_ hk; exact noncell_ne e2 ⟨_, by rw [e]; exact hK, rfl⟩)).rebase hb, fun y hy => ⟨Own.rebase (own _ (h3 y hy).1) hb, Own.rebase (own _ (h3 y hy).2) hb⟩, h4⟩, HmDw.out.trans (hR.old.trans (hm.mono (fun k _ e => .inr (by omega))) (fun _ _ h => h)) (fun k hk e => ?_)⟩
      rcases e with (e | e | e) | e <;> omega
    have hKn : ∀ nq, (W.drewN nq).heap[D]? = some (.deferred (some [])) := fun nq => (((Mod.refl (fun _ => False) W).drewN nq).block D (Array.getElem?_eq_some_iff.1 hK).1 id).trans hK
    have Hfin := Lib.hid hfin
    have HKn := Lib.hid hKn
    have Hbs := Lib.hid hbs
    clear hfin hKn hK hR h1 h2 h3 h4 hne hl hend hzs hbs
    gi_wp2_with fail
    refine wpIn_wide.2 ?_
    go_quiet (fail)
    gi_wp2
    refine ⟨by simp, .inl ⟨_, _, rfl, run_takeDeferred (HKn.out _), ?_⟩⟩
    refine ⟨.tuple #[.slice A L.length c, .int .i64 (from_ + bs.length), .int .i64 (lastE bs), .int .i64 0], by simp [results, Tryz.results7, go_sem], ?_⟩
    rw [Hbs.out]
    exact Hfin.out _
  case body =>
    rintro l pre z a' W hl ⟨hR, hcnt⟩ ⟨⟨gx, hgx, hgl, rfl⟩, hfx⟩ hN
    have hzl : z.l.length = z.n := by have := hfx.1.1; rw [recsC_len] at this; omega
    have h60 := hfx.2.2.2.1
    obtain ⟨zA, hzA⟩ : ∃ zA, z.A = zA := ⟨_, rfl⟩
    have x3 := hgx.c3
    rw [hzA] at x3
    have HzA := Lib.hid hzA
    have Hzl := Lib.hid hzl
    have Hcnt := Lib.hid hcnt
    have Hgl := Lib.hid hgl
    have HgW := Lib.hid hgx
    have hroW : Hid (Ro wD (wD.heap.size + 3) Bo (Bo + 1) (Bo + 1 + 1) (outM (pre.map BtD.m) ++ (rowsM z.m).take 0) (endM from_ (pre.map BtD.m)) (lastE (pre.map BtD.m)) W) := by rw [List.take_zero, List.append_nil]; exact hR
    have Hfx := Lib.hid hfx
    have HN := Lib.hid hN
    have hzn : z.n ≤ 60 := by omega
    clear hzA hzl hcnt hgl hgx hR hfx hN h60
    gi_wp2
    gi_loopw [45] (fun i wr => ∃ j : Nat, j ≤ z.n ∧ i = .int .i64 j ∧ Ro wD (wD.heap.size + 3) Bo (Bo + 1) (Bo + 1 + 1) (outM (pre.map BtD.m) ++ (rowsM z.m).take j) (endM from_ (pre.map BtD.m)) (lastE (pre.map BtD.m)) wr ∧ Stp wD.heap.size (G3 Bo (Bo + 1) (Bo + 1 + 1)) W wr ∧ z.In wr gx ∧ FxB (wD.heap.size + 2) z wr) (fun i _ => z.n - (intOf i).toNat)
    case atStart => exact ⟨0, by omega, rfl, hroW.out, Stp.keep (Mod.refl _ W), HgW.out, Hfx.out⟩
    case round =>
      obtain ⟨j, hj, rfl, hR, hS, hX, hF⟩ := hrel
      have HR := Lib.hid hR
      have HS := Lib.hid hS
      have HX := Lib.hid hX
      have HF := Lib.hid hF
      clear hR hS hX hF hroW HgW Hfx
      by_cases hlt : j < z.n
      · obtain ⟨y, hy⟩ : ∃ y, z.l[j]? = some y := ⟨_, List.getElem?_eq_getElem (by have := Hzl.out; omega)⟩
        have hrs := HF.out.1.recs (fun v hv => ⟨(HF.out.2.1 v hv).1.at_, (HF.out.2.1 v hv).2.at_⟩)
        rw [HzA.out] at hrs
        obtain ⟨bb, oo, hA, hc⟩ := hrs.cells (by omega)
        subst hA
        have hC := hc j y hy
        have p0 := hC.k
        have p1 := hC.f1
        have p2 := hC.f2
        have p3 := hC.f3
        have p4 := hC.f4
        have p5 := hC.f5
        have p6 := hC.f6
        have p7 := hC.f7
        have p8 := hC.f8
        have p9 := hC.f9
        have p10 := hC.c10
        have p11 := hC.c11
        have p12 := hC.c12
        have p13 := hC.c13
        have Hy := Lib.hid hy
        clear hC hc hrs hy
        gi_wp2_with fail
        clear p0 p1 p2 p3 p4 p5 p6 p7 p8 p9 p10 p11 p12 p13
        have hmY : Mod (fun _ => False) wr (wr.alloc (.cells y.cells 47)) := (Mod.refl _ wr).alloc _
        have hRY := HR.out.keep Hb3.out (hmY.drew)
        obtain ⟨A, c, L, h1, h2, h3, h4⟩ := hRY.ex
        have hXY := HX.out.keep hmY.drew
        have hYY : y.In (wr.alloc (.cells y.cells 47)).drew wr.heap.size := (RcD.In.new wr y).mod ((Mod.refl (fun _ => False) _).drew) id
        have hsY : (wr.alloc (.cells y.cells 47)).drew.heap.size = wr.heap.size + 1 := World.size_alloc _ _
        have hSY := HS.out.trans (Stp.keep (n0 := wD.heap.size) (G := (G3 Bo (Bo + 1) (Bo + 1 + 1))) hmY.drew)
        have hFY : FxB (wD.heap.size + 2) z (wr.alloc (.cells y.cells 47)).drew := ⟨HF.out.1.mod hmY.drew (fun _ _ => id), fun v hv => ⟨OwV.mod (HF.out.2.1 v hv).1 hmY.drew (fun _ _ => id), OwV.mod (HF.out.2.1 v hv).2 hmY.drew (fun _ _ => id)⟩, HF.out.2.2.1, HF.out.2.2.2.1, Nat.le_trans HF.out.2.2.2.2 hmY.drew.size⟩
        refine wpIn_region_any (by kernel_rfl) (roundOps (noDefer_spec (by kernel_rfl)) ?_ _ _ _ _ (wpAny_of_held _ _ _ _
          (rda13_region (W := (wr.alloc (.cells y.cells 47)).drew) (by kernel_rfl) (by kernel_rfl) (by kernel_rfl) ?_ z y gx wr.heap.size Bo (wD.heap.size + 3) j A L.length c (lgC L) _ _ _ _ _ _ _ _ _ _ _ _ _ _ _ _ _ _ _ _ _ _ _ _ _ _ _ _ _ _ _ _ _ _ _ _ _ _ _ _ _ _ _ _ _ _ _ _ _ _ _ _ _ _ _ _ _ _ _ _ _ _ _ _ ⟨hXY, hYY⟩ h2 ?_ ?_ h1 ?_ ?_ ?_ ?_)))
        · rintro ⟨a, w', hq⟩
          exact hq
        · intro c a t u w' hq
          cases t <;> exact hq
        · have e1 := congrArg List.length h4
          have e2 := Hcnt.out
          have e3 := HN.out
          rw [List.length_map, List.length_append, List.length_take, rowsM_len, show z.m.l.length = z.l.length from List.length_map _] at e1
          have e4 := Hzl.out
          omega
        · have e1 := HX.out.lt
          have e2 := Hgl.out
          omega
        · intro g hg
          have e1 := (h2.lt g hg).1
          obtain ⟨cs, e2⟩ := h2.type_ hg
          have e3 := Hb3.out.1
          refine ⟨by omega, fun e => ?_, fun e => ?_⟩
          · rw [e, hXY] at e2
            injection e2 with e2
            injection e2 with _ e2
            exact absurd e2 (by decide)
          · rw [e, hYY] at e2
            injection e2 with e2
            injection e2 with _ e2
            exact absurd e2 (by decide)
        · have e1 := Hb3.out.1
          have e2 := Hgl.out
          omega
        · have e1 := Hb3.out.1
          have e2 := HX.out.lt
          have e3 := Hgl.out
          omega
        · intro A' c' V h5 h6 _
          obtain ⟨k0, k1, k2, k3, k4, k5⟩ := headOk_bd HF.out.2.2.1
          have hl : lsnV z.s (j : Int) = 256 * z.s + j := lsnV_ok k2 k3 (by omega) (by omega)
          have hyo := hFY.2.1 y (List.mem_of_getElem? Hy.out)
          obtain ⟨r1, r2, r3⟩ := Ro.push Hb6.out (by omega) hRY ⟨lsnV z.s j, y⟩ hyo.1 hyo.2 h1 h2 h3 h4 h5 h6
          have hrow : outM (pre.map BtD.m) ++ (rowsM z.m).take j ++ [LgD.p ⟨lsnV z.s j, y⟩] = outM (pre.map BtD.m) ++ (rowsM z.m).take (j + 1) := by
            rw [rowsM_take z.m (i := j) (r := y.p) (by show (z.l.map RcD.p)[j]? = _; rw [List.getElem?_map, Hy.out]; rfl), List.append_assoc]
            show _ ++ (_ ++ [(lsnV z.s j, y.p)]) = _ ++ (_ ++ [(256 * z.s + j, y.p)])
            rw [hl]
          rw [hrow] at r1
          have hAt : ∀ k, (k = Bo ∨ blkOf A = some k) → ∃ cs : Array Value, (wr.alloc (.cells y.cells 47)).drew.heap[k]? = some (.cells cs 30 (0, 0)) ∨ (wr.alloc (.cells y.cells 47)).drew.heap[k]? = some (.cells cs 71 (0, 0)) := fun k hk => by
            rcases hk with rfl | hk
            · exact ⟨_, .inl h1⟩
            · obtain ⟨cs, e⟩ := h2.type_ hk
              exact ⟨cs, .inr e⟩
          have hno : ∀ {cs : Array Value} {t : TypeId} {fr : Nat × Nat} (k : Nat), (wr.alloc (.cells y.cells 47)).drew.heap[k]? = some (.cells cs t fr) → t ≠ 30 → t ≠ 71 → ¬ (k = Bo ∨ blkOf A = some k) := fun k e n1 n2 hk => by
            obtain ⟨cs', e2 | e2⟩ := hAt k hk <;>
            · rw [e] at e2
              injection e2 with e2
              injection e2 with _ e2
              exact absurd e2 (by assumption)
          have HX2 := Lib.hid (hXY.mod r3 (hno gx hXY (by decide) (by decide)))
          have hF2 : FxB (wD.heap.size + 2) z (V.setCell ⟨Bo, 0, none⟩ (.slice A' (L.length + 1) c')) := ⟨hFY.1.mod r3 (fun k hk => by obtain ⟨cs, e⟩ := hFY.1.type_ hk; exact hno k e (by decide) (by decide)),
            fun v hv => ⟨OwV.mod (hFY.2.1 v hv).1 r3 (fun k hk => by obtain ⟨cs, e⟩ := own_type (hFY.2.1 v hv).1 hk; exact hno k e (by decide) (by decide)), OwV.mod (hFY.2.1 v hv).2 r3 (fun k hk => by obtain ⟨cs, e⟩ := own_type (hFY.2.1 v hv).2 hk; exact hno k e (by decide) (by decide))⟩, hFY.2.2.1, hFY.2.2.2.1, Nat.le_trans hFY.2.2.2.2 r3.size⟩
          have HR2 := Lib.hid r1
          have HS2 := Lib.hid (hSY.trans r2)
          have HF2 := Lib.hid hF2
          clear h1 h2 h3 h4 h5 h6 hmY hRY hXY hYY hsY hSY hFY k0 k1 k2 k3 k4 k5 hl hyo r1 r2 r3 hrow hAt hno hF2 HR HS HX HF Hy
          gi_wp2
          go_roundw
          case rel => exact ⟨j + 1, by omega, by go_num, HR2.out, HS2.out, HX2.out, HF2.out⟩
          case measure => simp [intOf]; omega
      · obtain rfl : j = z.n := by omega
        have hRd := HR.out.keep Hb3.out ((Mod.refl _ wr).drew)
        rw [List.take_of_length_le (by rw [rowsM_len]; show (z.l.map RcD.p).length ≤ _; rw [List.length_map, Hzl.out]; exact Nat.le_refl _)] at hRd
        obtain ⟨r1, r2⟩ := Ro.ends Hb6.out (by omega) hRd (z.s + 1) z.e
        obtain ⟨k0, k1, k2, k3, k4, k5⟩ := headOk_bd HF.out.2.2.1
        have hXd : z.In wr.drew gx := HX.out.keep ((Mod.refl _ wr).drew)
        have hSd := (HS.out.trans (Stp.keep ((Mod.refl _ wr).drew))).trans r2
        gi_wp2_with fail
        refine wpIn_region_any (by kernel_rfl) (roundOps (noDefer_spec (by kernel_rfl)) ?_ _ _ _ _ (wpAny_of_held _ _ _ _
          (rda15_region (W := wr.drew) (by kernel_rfl) (by kernel_rfl) (by kernel_rfl) ?_ z gx (Bo + 1) (Bo + 1 + 1) _ _ _ _ _ _ _ _ _ _ _ _ _ _ _ _ _ _ _ _ _ _ _ _ _ _ _ _ _ _ _ _ _ _ _ _ _ _ _ _ _ _ _ _ _ _ _ _ _ _ _ _ _ _ _ _ _ _ _ _ _ _ _ _ _ _ _ hXd hRd.be hRd.bp ?_ ?_ ?_ ?_ ?_)))
        · rintro ⟨a, w', hq⟩
          exact hq
        · intro c a t u w' hq
          cases t <;> exact hq
        · have e1 := Hb6.out
          have e2 := Hgl.out
          omega
        · have e1 := Hb6.out
          have e2 := Hgl.out
          omega
        · omega
        · exact IntWalk.i64_in _ (by omega)
        · have e1 : outM ((pre ++ [z]).map BtD.m) = outM (pre.map BtD.m) ++ rowsM z.m := by rw [List.map_append]; exact outM_snoc _ _
          have e2 : endM from_ ((pre ++ [z]).map BtD.m) = z.s + 1 := by rw [List.map_append]; exact endM_snoc _ _ _
          have e3 : lastE ((pre ++ [z]).map BtD.m) = z.e := by rw [List.map_append, lastE_eq]; exact congrArg Bm.e (lastB_snoc _ _)
          refine ⟨hSd.ks, hSd.kp, ?_, ?_⟩
          · rw [e1, e2, e3]
            exact r1
          · rw [e1, List.length_append, List.length_append, rowsM_len, show z.m.l.length = z.l.length from List.length_map _]
            have := Hcnt.out
            have := Hzl.out
            simp only [List.length_cons, List.length_nil]
            omega
end Go.Proofs.YtnbamljaiahmdaaGreat
