/-
  wait.graph.reached: its iterator.
-/
import Derived.Test.YtbdfolopnocjmaaGSeq
import Derived.RangeFuncBound
import Derived.RangeFuncCalls
import Derived.Lib.SliceRun
import Derived.Shelf.Abstract
import Derived.Shelf.RegionOpen
import Derived.WalkKit
import Derived.OwnWalkIn
import Derived.TacticsInMore
import Derived.LoopNIn
import Derived.LoopIn
namespace Go.Proofs.Ytbdfolopnocjmaa
open Go Go.RowKit Go.Shelf
attribute [local go_sem] Oper.semAt_some

/-- Those that tx reaches, as far as they are found; of tx and them the first q have been followed. -/
structure Bf (L : List Wp) (tx : Int) (D : List Int) (q : Nat) : Prop where
  nd : D.Nodup
  rch : ∀ y ∈ D, Rch (edg L) tx y
  don : ∀ z ∈ (tx :: D).take q, ∀ y, (z, y) ∈ edg L → y ∈ D
theorem Bf.start (L : List Wp) (tx : Int) : Bf L tx [] 0 := ⟨List.nodup_nil, fun y h => (by cases h), fun z h => (by simp at h)⟩
theorem Bf.len {L : List Wp} {tx : Int} {D : List Int} {q : Nat} (h : Bf L tx D q) : D.length ≤ (edg L).length := by
  rw [← tgts_len]
  exact nodup_len _ _ h.nd (fun y hy => by obtain ⟨c, hc⟩ := rch_tgt (h.rch y hy); exact mem_tgts.2 ⟨c, hc⟩)
theorem Bf.add {L : List Wp} {tx x t : Int} {D : List Int} {q : Nat} (h : Bf L tx D q) (hx : (tx :: D)[q]? = some x) (ht : (x, t) ∈ edg L) (hn : t ∉ D) : Bf L tx (D ++ [t]) q := by
  have hrx : x = tx ∨ Rch (edg L) tx x := by
    rcases List.mem_cons.1 (List.mem_of_getElem? hx) with e | e
    · exact .inl e
    · exact .inr (h.rch x e)
  have hql : q < D.length + 1 := by have := (List.getElem?_eq_some_iff.1 hx).1; simpa using this
  refine ⟨List.nodup_append.2 ⟨h.nd, by simp, fun y hy z hz => by rw [List.mem_singleton.1 hz]; exact fun e => hn (by rw [← e]; exact hy)⟩, fun y hy => ?_, fun z hz y hy => ?_⟩
  · rcases List.mem_append.1 hy with hy | hy
    · exact h.rch y hy
    · rw [List.mem_singleton.1 hy]
      rcases hrx with e | e
      · rw [← e]; exact .one ht
      · exact e.trans (.one ht)
  · have e : (tx :: (D ++ [t])).take q = (tx :: D).take q := by
      rw [← List.cons_append, List.take_append_of_le_length (by simp; omega)]
    rw [e] at hz
    exact List.mem_append_left _ (h.don z hz y hy)
theorem Bf.next {L : List Wp} {tx x : Int} {D : List Int} {q : Nat} (h : Bf L tx D q) (hx : (tx :: D)[q]? = some x) (hc : ∀ y ∈ adj L x, y ∈ D) : Bf L tx D (q + 1) := by
  refine ⟨h.nd, h.rch, fun z hz y hy => ?_⟩
  rw [take_succ_at hx] at hz
  rcases List.mem_append.1 hz with hz | hz
  · exact h.don z hz y hy
  · rw [List.mem_singleton.1 hz] at hy
    exact hc y (mem_adj.2 hy)
theorem Bf.done {L : List Wp} {tx : Int} {D : List Int} (h : Bf L tx D (D.length + 1)) (y : Int) : y ∈ D ↔ Rch (edg L) tx y := by
  have hd : ∀ z ∈ tx :: D, ∀ y, (z, y) ∈ edg L → y ∈ D := fun z hz y hy => h.don z (by rw [List.take_of_length_le (by simp)]; exact hz) y hy
  refine ⟨h.rch y, fun hr => rch_closed (S := fun y => y ∈ D) hr (fun c hc => hd tx (by simp) c hc) (fun z hz c hc => hd z (List.mem_cons_of_mem _ hz) c hc)⟩

/-- A set of numbers as a map. -/
def stf (D : List Int) : Int → Option Value := fun a => if a ∈ D then some (.agg #[]) else none
theorem stf_add (D : List Int) (t : Int) : upd (stf D) t (some (.agg #[])) = stf (D ++ [t]) := by
  funext a
  by_cases h : a = t
  · subst h; rw [upd_same]; simp [stf]
  · rw [upd_other _ _ h]; simp [stf, h]
theorem stf_some (D : List Int) (a : Int) : (stf D a).isSome = decide (a ∈ D) := by
  unfold stf
  by_cases h : a ∈ D <;> simp [h]
theorem stf_get (D : List Int) (a : Int) : (stf D a).getD (.agg #[]) = .agg #[] := by
  unfold stf
  by_cases h : a ∈ D <;> simp [h]
theorem zeroUnit (w : World) : (zeroValue 45).run Try.prog w = .ok (.agg #[]) w := by kernel_rfl

theorem wpListIn_app {F : Fence} {nF : Nat} {P : Program} {w : World} {ops : Array Oper} {rest : List Oper} {o : Oper} {a : Act} {Q : Exit → Act → World → Prop} (s x : Operand) {t e : TypeId} {z : Value} {bytes : Nat}
    {base : Nat} {A : Option Addr} {n c : Nat} {vs : List Value} {A2 : Option Addr} {m c2 : Nat} {news : List Value}
    (he : Elem P t e z bytes) (hgd : o.guard = none)
    (ho : o.op = .call { callee := .builtin .append, args := #[s, x], argTypes := #[t, t] })
    (hes : a.eval s = .slice A n c) (hex : a.eval x = .slice A2 m c2)
    (hown : OwV w base e A n c vs) (hs : Src w A2 m news)
    (hb : (n + m) * bytes ≤ 140737488355328) (h63 : n + m ≤ maxLen) (hbase : base ≤ w.heap.size)
    (h : ∀ A' c' w', OwV w' base e A' (n + m) c' (vs ++ news) → w.grownBy w' (blkOf A) → (blkOf A' = blkOf A ∨ blkOf A' = some w.heap.size) → wpListIn F nF P ops Q rest (a.put o.dst (.slice A' (n + m) c')) w') :
    wpListIn F nF P ops Q (o :: rest) a w := by
  refine wpListIn_plain hgd fun K hK => ?_
  obtain ⟨A', c', w', hr, h2, h3, h4⟩ := run_app (P := P) (w := w) he o.type hown (c2 := c2) hs hb h63 hbase
  unfold Oper.wpIn
  refine ⟨by simp [Oper.about, ho, resolve, Target.leads, Sem.run_pure], ?_⟩
  rw [Oper.semAt_plain F _ _ (by rw [ho]; intro c hc'; cases hc')]
  simp [execOp, ho, resolve, invoke, builtin, hes, hex, hr, Result.andThen]
  exact hK _ _ (h A' c' w' h2 h3 h4)

set_option maxRecDepth 100000 in
set_option maxHeartbeats 6400000 in
theorem reached_seq (m : Nat) (hm : 2 ≤ m) (w : World) (Bt Bg b mm : Nat) (f : Int → Option Value) (L : List Wp) (tx : Int) (hct : w.cell? ⟨Bt, 0, none⟩ = some (.int .i64 tx)) (hcg : w.cell? ⟨Bg, 0, none⟩ = some (.map (some b)))
    (hg : Gr w b mm f L) (he : (edg L).length ≤ 1000) (hk : ∀ x y, (x, y) ∈ edg L → I64 y) (htx : I64 tx) :
    SeqR Fence.wide m Try.prog 21 #[.pointer (some ⟨Bt, 0, none⟩), .pointer (some ⟨Bg, 0, none⟩)] (fun z : Int => #[.int .i64 z])
      (fun xs => ∀ y, y ∈ xs ↔ Rch (edg L) tx y) (fun pre => ∀ y ∈ pre, Rch (edg L) tx y) w := by
  intro l J Jx W hW hl1 hl2 hJ hJx hY h0
  have hmm := @run_makeMap Try.prog
  have ct : W.cell? ⟨Bt, 0, none⟩ = some (.int .i64 tx) := (World.cell?_of_block (hW.block Bt (World.block_lt_of_cell? w _ hct) id)).trans hct
  have ct2 : (W.alloc (.map #[] 0)).cell? ⟨Bt, 0, none⟩ = some (.int .i64 tx) := (World.cell?_of_block (((Mod.refl (fun _ => False) W).alloc (.map #[] 0)).block Bt (World.block_lt_of_cell? W _ ct) id)).trans ct
  have hBt : Bt < w.heap.size := World.block_lt_of_cell? w _ hct
  have hBg : Bg < w.heap.size := World.block_lt_of_cell? w _ hcg
  have hdec : ∀ X, Mod (fun k => k = l ∨ W.heap.size ≤ k) W X → Gr X b mm f L ∧ X.cell? ⟨Bg, 0, none⟩ = some (.map (some b)) := fun X hX => by
    have hwX : Mod (fun k => w.heap.size ≤ k) w X := (hW.mono (fun _ _ h => h.elim)).trans hX (fun i hi e => by have := hW.size; omega)
    exact ⟨hg.old hwX, (World.cell?_of_block (hwX.block Bg hBg (by omega))).trans hcg⟩
  obtain ⟨V, hV⟩ : ∃ V, (W.alloc (.map #[] 0)).alloc (.cells #[.int .i64 tx] 3) = V := ⟨_, rfl⟩
  have hmV : Mod (fun _ => False) W V := by rw [← hV]; exact ((Mod.refl _ W).alloc _).alloc _
  have hsV : V.heap.size = W.heap.size + 2 := by rw [← hV]; simp
  have hp0 : Mp V W.heap.size (tgts L).length (stf []) := by
    have h1 := (mp_made W).keep ((Mod.refl (fun _ => False) (W.alloc (.map #[] 0))).alloc (.cells #[.int .i64 tx] 3))
    rw [hV] at h1
    exact h1.mono (Nat.zero_le _)
  have ho0 : OwI V (W.heap.size + 1) (some ⟨W.heap.size + 1, 0, none⟩) 1 1 [tx] := by
    refine OwV.of_block (cur := [.int .i64 tx]) (Nat.le_refl _) ?_ (by unfold maxLen; simp)
    rw [← hV]
    have := heap_alloc_new (W.alloc (.map #[] 0)) (.cells #[.int .i64 tx] 3)
    rw [World.size_alloc] at this
    exact this
  have hJ0 : J [] V := hJ [] W V h0 (hmV.mono (fun _ _ h => h.elim))
  have Hdec := Lib.hid hdec
  have HJ := Lib.hid hJ
  have HJx := Lib.hid hJx
  have HY := Lib.hid hY
  have HK := Lib.hid hk
  have HP0 := Lib.hid hp0
  have HO0 := Lib.hid ho0
  have HJ0 := Lib.hid hJ0
  have HM0 : Hid (Mod (fun k => k = l ∨ W.heap.size ≤ k) W V) := hmV.mono (fun _ _ h => h.elim)
  have HS0 : Hid (W.heap.size + 1 ≤ V.heap.size) := by show _ ≤ _; omega
  have Hg := Lib.hid hg
  have Hl : Hid (w.heap.size ≤ l ∧ l < W.heap.size) := ⟨hl1, hl2⟩
  have HW := Lib.hid hW
  clear hdec hJ hJx hY hk hp0 ho0 hJ0 hmV h0 hct hcg hBt hBg hg hl1 hl2 hW hsV
  refine callsIn_of_wp Try.func21 rfl trivial ?_ rfl
  simp only [Try.ntmps21, List.size_toArray, List.length_cons, List.length_nil, Nat.reduceAdd, Nat.reduceSub, Array.replicate_succ, Array.replicate_zero, List.push_toArray, List.append_toArray, List.nil_append, List.cons_append]
  have h1 : 1 ≤ m := by omega
  gi_wp2_with fail
  clear hV ct ct2
  gi_loopw [5, 6] (fun s i wr => ∃ (q : Nat) (A : Option Addr) (D : List Int) (c' : Nat), q ≤ D.length + 1 ∧ i = .int .i64 q ∧ s = .slice A (D.length + 1) c' ∧ Bf L tx D q ∧ OwI wr (W.heap.size + 1) A (D.length + 1) c' (tx :: D) ∧ Mp wr W.heap.size (tgts L).length (stf D) ∧ Mod (fun k => k = l ∨ W.heap.size ≤ k) W wr ∧ W.heap.size + 1 ≤ wr.heap.size ∧ J D wr)
    (fun _ i _ => 2000 - (intOf i).toNat)
  case atStart => exact ⟨0, _, [], 1, by omega, rfl, rfl, Bf.start L tx, HO0.out, HP0.out, HM0.out, HS0.out, HJ0.out⟩
  case round =>
    obtain ⟨q, A, D, c', hq, rfl, rfl, hbf, ho, hp, hmr, hs, hj⟩ := hrel
    have HB := Lib.hid hbf
    have HO := Lib.hid ho
    have HP := Lib.hid hp
    have HM := Lib.hid hmr
    have HS := Lib.hid hs
    have HJD := Lib.hid hj
    have hD : D.length ≤ 1000 := Nat.le_trans hbf.len he
    clear hbf ho hp hmr hs hj HO0 HP0 HM0 HS0 HJ0
    by_cases hlt : q < D.length + 1
    · obtain ⟨x, hx⟩ : ∃ x, (tx :: D)[q]? = some x := ⟨_, List.getElem?_eq_getElem (by simpa using hlt)⟩
      obtain ⟨B0, o0, hA, hc⟩ := HO.out.il.2.2 (by omega)
      have s0 := hc q x hx
      rw [hA] at HO ⊢
      have hxi : I64 x := by
        rcases List.mem_cons.1 (List.mem_of_getElem? hx) with e | e
        · rw [e]; exact htx
        · obtain ⟨y, hy⟩ := rch_tgt (HB.out.rch x e); exact HK.out y x hy
      obtain ⟨hgr, cg⟩ := Hdec.out _ HM.out
      obtain ⟨G, k, d, hget, hil⟩ := Hg.out.get x
      have hlk : ∀ n', (Instr.lookup 35 (.map (some b)) (.int .i64 x) false).run Try.prog (wr.drewN n') = .ok (.slice G k d) (wr.drewN n') := fun n' => by
        have := (hgr.mp.drewN n').look (t := 35) Try.underlying35 (zeroRow _) hxi
        rw [hget] at this
        exact this
      have HIl := Lib.hid hil
      have hkl : k ≤ 1000 := by have := hil.len; have := adj_len L x; omega
      have Hx := Lib.hid hx
      have hq0 : (q : Int) < ((D.length + 1 : Nat) : Int) := by omega
      have hq1 : (0 : Int) ≤ (q : Int) := by omega
      clear hc hA hx hxi hgr hget hil
      gi_wp2_with fail
      refine wpIn_wide.2 ?_
      go_quiet (fail)
      gi_wp2_with fail
      have HO1 : Hid (OwI (wr.drewN nq) (W.heap.size + 1) (some ⟨B0, o0, none⟩) (D.length + 1) c' (tx :: D)) := HO.out
      have HP1 := Lib.hid (HP.out.drewN nq)
      have HM1 := Lib.hid (HM.out.drewN nq)
      have HS1 : Hid (W.heap.size + 1 ≤ (wr.drewN nq).heap.size) := HS.out
      have HJ1 : Hid (J D (wr.drewN nq)) := HJ.out _ _ _ HJD.out ((Mod.refl _ wr).drewN nq)
      clear hlk s0 cg HO HP HM HS HJD
      generalize wr.drewN nq = wz at *
      have hdq : decide ((q : Int) < (D.length : Int) + 1) = true := by rw [decide_eq_true_eq]; omega
      rw [hdq]
      clear hdq hq0
      gi_loopw [5, 27] (fun s i wr => ∃ (j : Nat) (A : Option Addr) (D2 : List Int) (c' : Nat), j ≤ k ∧ i = .int .i64 j ∧ s = .slice A (D2.length + 1) c' ∧ D <+: D2 ∧ Bf L tx D2 q ∧ (∀ y ∈ (adj L x).take j, y ∈ D2) ∧ OwI wr (W.heap.size + 1) A (D2.length + 1) c' (tx :: D2) ∧ Mp wr W.heap.size (tgts L).length (stf D2) ∧ Mod (fun k => k = l ∨ W.heap.size ≤ k) W wr ∧ W.heap.size + 1 ≤ wr.heap.size ∧ J D2 wr)
        (fun _ i _ => k - (intOf i).toNat)
      case atStart => exact ⟨0, _, D, c', by omega, rfl, rfl, List.prefix_rfl, HB.out, fun y h => by simp at h, HO1.out, HP1.out, HM1.out, HS1.out, HJ1.out⟩
      case round =>
        obtain ⟨j, A2, D2, c2, hj, rfl, rfl, hpre, hbf, hcur, ho, hp, hmr, hs, hjd⟩ := hrel
        have Hpre := Lib.hid hpre
        have HB2 := Lib.hid hbf
        have Hcur := Lib.hid hcur
        have HO2 := Lib.hid ho
        have HP2 := Lib.hid hp
        have HM2 := Lib.hid hmr
        have HS2 := Lib.hid hs
        have HJ2 := Lib.hid hjd
        have hD2 : D2.length ≤ 1000 := Nat.le_trans hbf.len he
        have Hx2 : Hid ((tx :: D2)[q]? = some x) := by
          show _ = _
          obtain ⟨s, rfl⟩ := hpre
          rw [← List.cons_append, List.getElem?_append_left (by simpa using hlt)]
          exact Hx.out
        clear hpre hbf hcur ho hp hmr hs hjd HO1 HP1 HM1 HS1 HJ1
        by_cases hlt2 : j < k
        · have hmw : Mod (fun k => w.heap.size ≤ k) w wr := (HW.out.mono (fun _ _ h => h.elim)).trans HM2.out (fun i hi e => by have := HW.out.size; have := Hl.out; omega)
          obtain ⟨B1, o1, rfl, hc⟩ := (HIl.out.old hmw).2.2 (by omega)
          have hjl : j < (adj L x).length := by have := HIl.out.len; omega
          obtain ⟨t, ht⟩ : ∃ t, (adj L x)[j]? = some t := ⟨_, List.getElem?_eq_getElem hjl⟩
          have s1 := hc j t ht
          have hte : (x, t) ∈ edg L := mem_adj.1 (List.mem_of_getElem? ht)
          have hti : I64 t := HK.out x t hte
          have hlk := HP2.out.look2 (t := 44) Try.underlying44 (zeroUnit _) hti
          rw [stf_get, stf_some] at hlk
          have hma : Mod (fun _ => False) wr (wr.alloc (.cells #[] 45)) := (Mod.refl _ wr).alloc _
          have HO3 := Lib.hid (HO2.out.keep hma)
          have HP3 := Lib.hid (HP2.out.keep hma)
          have HM3 := Lib.hid (HM2.out.alloc (.cells #[] 45))
          have HS3 : Hid (W.heap.size + 1 ≤ (wr.alloc (.cells #[] 45)).heap.size) := Nat.le_trans HS2.out hma.size
          have HJ3 : Hid (J D2 (wr.alloc (.cells #[] 45))) := HJ.out _ _ _ HJ2.out (hma.mono (fun _ _ h => h.elim))
          have Ht := Lib.hid ht
          have Hte := Lib.hid hte
          have Hti := Lib.hid hti
          clear hc hjl ht hte hti hmw hma
          by_cases htD : t ∈ D2
          · have hdt : decide (t ∈ D2) = true := by simpa using htD
            rw [hdt] at hlk
            have HtD := Lib.hid htD
            clear hdt htD
            gi_wp2
            go_roundw
            case rel =>
              refine ⟨j + 1, A2, D2, c2, by omega, by go_num, rfl, Hpre.out, HB2.out, fun y hy => ?_, HO3.out, HP3.out, HM3.out, HS3.out, HJ3.out⟩
              rw [take_succ_at Ht.out] at hy
              rcases List.mem_append.1 hy with hy | hy
              · exact Hcur.out y hy
              · rw [List.mem_singleton.1 hy]; exact HtD.out
            case measure => simp [intOf]; omega
          · have hdt : decide (t ∈ D2) = false := by simpa using htD
            rw [hdt] at hlk
            have HtD := Lib.hid htD
            have HB4 := Lib.hid (HB2.out.add Hx2.out Hte.out htD)
            have hml : (tgts L).length < maxLen := by rw [tgts_len]; unfold maxLen; omega
            clear hdt htD
            gi_wp2_with (first
              | (gi_at_mapUpdate; refine wpListIn_store_mp (val := .agg #[]) rfl _ _ _ rfl Try.underlying44 rfl HP3.out hml rfl rfl Hti.out ?_; intro w4 h4 h5 h6; have HP4 := Lib.hid h4; have Hm4 := Lib.hid h5; have HJ4 : Hid (J D2 w4) := HJ.out _ _ _ HJ3.out (h5.mono (fun i _ e => by omega)); obtain ⟨fn, tmps, assign, body, hy, hR⟩ := HY.out D2 t w4 HJ4.out; have HR := Lib.hid hR; clear hR h4 h5 h6)
              | fail)
            refine HR.out.mono ?_
            rintro e Y (⟨rfl, hJ5, hm5⟩ | ⟨rfl, hJx5⟩)
            · have HJ5 : Hid (J (D2 ++ [t]) (Y.alloc (.cells #[.int .i64 t] 3))) := HJ.out _ _ _ hJ5 (((Mod.refl (fun _ => False) Y).alloc (.cells #[.int .i64 t] 3)).mono (fun _ _ h => h.elim))
              have hml5 := hm5.mono (G := fun k => k = l ∨ W.heap.size ≤ k) (fun _ _ e => .inl e)
              have hl5 := Hl.out
              have HO5 : Hid (OwI (Y.alloc (.cells #[.int .i64 t] 3)) (W.heap.size + 1) A2 (D2.length + 1) c2 (tx :: D2)) :=
                OwI.keep (OwV.mod (OwV.mod HO3.out Hm4.out (fun i e => by have := (OwV.lt HO3.out i e).1; omega)) hm5 (fun i e => by have := (OwV.lt HO3.out i e).1; omega)) ((Mod.refl _ Y).alloc _)
              have HP5 : Hid (Mp (Y.alloc (.cells #[.int .i64 t] 3)) W.heap.size (tgts L).length (stf (D2 ++ [t]))) := by
                have h7 := (HP4.out.mod hm5 (by omega)).keep ((Mod.refl (fun _ => False) Y).alloc (.cells #[.int .i64 t] 3))
                rw [stf_add] at h7
                refine h7.few (tgts L) (fun a v hv => ?_)
                have ha : a ∈ D2 ++ [t] := by
                  refine Classical.byContradiction fun hn => ?_
                  unfold stf at hv
                  rw [if_neg hn] at hv
                  cases hv
                obtain ⟨c, hc⟩ := rch_tgt (HB4.out.rch a ha)
                exact mem_tgts.2 ⟨c, hc⟩
              have HM5 : Hid (Mod (fun k => k = l ∨ W.heap.size ≤ k) W (Y.alloc (.cells #[.int .i64 t] 3))) := ((HM3.out.trans Hm4.out (fun i _ e => by omega)).trans hml5 (fun _ _ e => e)).alloc _
              have HS5 : Hid (W.heap.size + 1 ≤ (Y.alloc (.cells #[.int .i64 t] 3)).heap.size) := by
                show _ ≤ _
                have h8 := HS3.out
                have h9 := Hm4.out.size
                have h10 := hm5.size
                rw [World.size_alloc (w := Y)]
                omega
              have Hsrc := Lib.hid (Src.one Y (.int .i64 t) 3 rfl)
              clear hJ5 hm5 hml5 hl5 HO3 HP3 HM3 HS3 HJ3 HP4 Hm4 HJ4
              gi_wp2_with (first
                | (gi_at_builtin; refine wpListIn_app (.tmp 45) (.tmp 47) intElem rfl rfl rfl rfl HO5.out Hsrc.out (by omega) (by unfold maxLen; omega) HS5.out ?_; intro A' c3 w7 h1 h2 h3; have H1 := Lib.hid h1; have H2 := Lib.hid h2; clear h1 h2 h3)
                | fail)
              go_roundw
              case rel =>
                have hlow : ∀ i, blkOf A2 = some i → W.heap.size + 1 ≤ i := fun i e => (OwV.lt HO5.out i e).1
                have hmA := grown_mod H2.out
                refine ⟨j + 1, A', D2 ++ [t], c3, by omega, by go_num, by simp, Hpre.out.trans (List.prefix_append _ _), HB4.out, fun y hy => ?_, ?_, HP5.out.mod hmA (fun e => by have := hlow _ e; omega), HM5.out.trans hmA (fun i _ e => by have := hlow _ e; omega), Nat.le_trans HS5.out hmA.size, HJ.out _ _ _ HJ5.out (hmA.mono (fun i _ e => by have := hlow _ e; omega))⟩
                · rw [take_succ_at Ht.out] at hy
                  rcases List.mem_append.1 hy with hy | hy
                  · exact List.mem_append_left _ (Hcur.out y hy)
                  · exact List.mem_append_right _ hy
                · have := H1.out
                  rw [List.length_append]
                  unfold OwI
                  rw [← List.cons_append, ivs_append]
                  exact this
              case measure => simp [intOf]; omega
            · have HJ5 := Lib.hid hJx5
              clear hJx5
              gi_wp2
              refine bodyPost_ret (results_none rfl _ _ _) rfl ?_
              exact ⟨⟨_, rfl⟩, .inr ⟨D2 ++ [t], HB4.out.rch, HJ5.out⟩⟩
        · obtain rfl : j = k := by omega
          have HB5 : Hid (Bf L tx D2 (q + 1)) := HB2.out.next Hx2.out (fun y hy => Hcur.out y (by rw [List.take_of_length_le (by have := HIl.out.len; omega)]; exact hy))
          have hpl : D.length ≤ D2.length := Hpre.out.length_le
          clear HB2 Hcur
          gi_wp2
          go_roundw
          case rel => exact ⟨q + 1, A2, D2, c2, by omega, by go_num, rfl, HB5.out, HO2.out, HP2.out, HM2.out, HS2.out, HJ2.out⟩
          case measure => simp [intOf]; omega
    · obtain rfl : q = D.length + 1 := by omega
      have HE := Lib.hid HB.out.done
      clear HB
      gi_wp2
      go_end0
      exact ⟨⟨_, rfl⟩, .inl ⟨D, HE.out, HJD.out⟩⟩
end Go.Proofs.Ytbdfolopnocjmaa
