/-
  The writes that survive a crash: what Disk.survivors yields.
-/
import Derived.Test.YtfgngmoeedegiaaRound
import Derived.Shelf.Abstract
import Derived.Shelf.RegionOpen
import Derived.WalkKit
import Derived.OwnWalkIn
import Derived.TacticsInMore
import Derived.LoopNIn
import Derived.LoopIn
namespace Go.Proofs.Ytfgngmoeedegiaa
open Go Go.RowKit Go.Shelf
attribute [local go_sem] Oper.semAt_some

/-- A write that survives: where, what, how much of it. -/
structure Sv where
  i : Nat
  s : Sct
  k : Nat
def survGo (f : Nat → Nat) : Nat → List (Nat × Sct) → List Sv
  | _, [] => []
  | i, y :: W => if 0 < f i then ⟨y.1, y.2, f i⟩ :: survGo f (i + 1) W else survGo f (i + 1) W
theorem survGo_snoc (f : Nat → Nat) (W : List (Nat × Sct)) : ∀ (i : Nat) (y : Nat × Sct), survGo f i (W ++ [y]) = survGo f i W ++ (if 0 < f (i + W.length) then [⟨y.1, y.2, f (i + W.length)⟩] else []) := by
  induction W with
  | nil => intro i y; simp [survGo]
  | cons z W ih =>
    intro i y
    rw [List.cons_append]
    show (if 0 < f i then _ else _) = _
    rw [ih]
    have e : i + 1 + W.length = i + (z :: W).length := by rw [List.length_cons]; omega
    rw [e]
    show _ = (if 0 < f i then _ else _) ++ _
    split <;> simp
theorem survGo_len (f : Nat → Nat) (W : List (Nat × Sct)) : ∀ i, (survGo f i W).length ≤ W.length := by
  induction W with
  | nil => intro i; exact Nat.le_refl _
  | cons z W ih =>
    intro i
    have := ih (i + 1)
    show (if 0 < f i then _ else _ : List Sv).length ≤ _
    split <;> simp <;> omega

def Sv.encs (z : Sv) : Array Value := #[.agg #[.int .i64 z.i, .slice z.s.A 256 z.s.c], .int .i64 z.k]

/-- What a round keeps: all but the block g and what is laid since L. -/
def Kp (g L : Nat) : World → World → Prop := Mod (fun k => k = g ∨ L ≤ k)

/-- What the iterator reads, all of it in old blocks other than g. -/
structure Its (w : World) (g L Bd Bc : Nat) (x : DV) (kA : Option Addr) (kn kc : Nat) (ks : List Bool) (torn kk : Int) : Prop where
  box : w.cell? ⟨Bd, 0, none⟩ = some (.pointer (some ⟨x.p, 0, none⟩))
  c0 : w.cell? ⟨Bc, 0, none⟩ = some (.slice kA kn kc)
  c1 : w.cell? ⟨Bc, 1, none⟩ = some (.int .i64 torn)
  c2 : w.cell? ⟨Bc, 2, none⟩ = some (.int .i64 kk)
  bl : Bl w kA kn kc ks
  bln : ∀ k, blkOf kA = some k → 0 < kn → k ≠ g ∧ k < L
  obj : w.cell? ⟨x.p, 2, none⟩ = some (.slice x.pA x.W.length x.cp)
  pend : ∀ j y, x.W[j]? = some y → ∃ b, x.pA = some ⟨b, 0, none⟩ ∧ w.cell? ⟨b, j * 2, none⟩ = some (.int .i64 y.1) ∧ w.cell? ⟨b, j * 2 + 1, none⟩ = some (.slice y.2.A 256 y.2.c)
  n1 : Bd ≠ g ∧ Bd < L
  n2 : Bc ≠ g ∧ Bc < L
  n3 : x.p ≠ g ∧ x.p < L
  n4 : ∀ b, blkOf x.pA = some b → b ≠ g ∧ b < L
theorem Its.keep {w w' : World} {g L Bd Bc : Nat} {x : DV} {kA : Option Addr} {kn kc : Nat} {ks : List Bool} {torn kk : Int} (h : Its w g L Bd Bc x kA kn kc ks torn kk) (hk : Kp g L w w') : Its w' g L Bd Bc x kA kn kc ks torn kk := by
  have cell : ∀ (b i : Nat) (v : Value), b ≠ g ∧ b < L → w.cell? ⟨b, i, none⟩ = some v → w'.cell? ⟨b, i, none⟩ = some v := fun b i v hb hc =>
    (World.cell?_of_block (hk.block b (World.block_lt_of_cell? w _ hc) (fun e => by rcases e with e | e; exact hb.1 e; omega))).trans hc
  refine ⟨cell _ _ _ h.n1 h.box, cell _ _ _ h.n2 h.c0, cell _ _ _ h.n2 h.c1, cell _ _ _ h.n2 h.c2, h.bl.mod hk (fun k hk' hn e => ?_), h.bln, cell _ _ _ h.n3 h.obj, fun j y hy => ?_, h.n1, h.n2, h.n3, h.n4⟩
  · have := h.bln k hk' hn
    rcases e with e | e
    · exact this.1 e
    · omega
  · obtain ⟨b, hb, h0, h1⟩ := h.pend j y hy
    have hn := h.n4 b (by rw [hb]; rfl)
    exact ⟨b, hb, cell _ _ _ hn h0, cell _ _ _ hn h1⟩

theorem grown_of_mod {w w' : World} (h : Mod (fun _ => False) w w') : w.grownBy w' none := ⟨h.os, h.tape, h.output, h.size, fun k hk _ => h.block k hk id⟩

set_option maxRecDepth 100000 in
set_option maxHeartbeats 2000000 in
theorem surv_in (n l g L Bd Bc : Nat) (hn : 1 ≤ n) (x : DV) (kA : Option Addr) (kn kc : Nat) (ks : List Bool) (torn kk : Int) (Pz : Sv → Prop) (hkn : kn ≤ 9223372036854775807) (hW : x.W.length ≤ 1000)
    (hP : ∀ j y, x.W[j]? = some y → Pz ⟨y.1, y.2, keptN ks torn kk j⟩) (J Jx : List { z : Sv // Pz z } → World → Prop) (W0 : World) (hJ : AbidesFrom W0.heap.size J) (hL : L ≤ W0.heap.size)
    (hY : ∀ pre z W, J pre W → pre.length < x.W.length → YieldAt Fence.wide (n - 1) Try.prog l (Sv.encs z.1) W fun e W' =>
      (e = .returned (.bool true) ∧ J (pre ++ [z]) W' ∧ Kp g L W W') ∨ (e = .returned (.bool false) ∧ Jx (pre ++ [z]) W'))
    (hI : Its W0 g L Bd Bc x kA kn kc ks torn kk) (h0 : J [] W0) :
    CallsIn Fence.wide n Try.prog 41 #[.func (.yield l) #[] #[], .pointer (some ⟨Bd, 0, none⟩), .pointer (some ⟨Bc, 0, none⟩)] W0 fun e W' => (∃ v, e = .returned v) ∧
      ((∃ zs, zs.map Subtype.val = survGo (keptN ks torn kk) 0 x.W ∧ J zs W') ∨ (∃ pre, True ∧ Jx pre W')) := by
  refine callsIn_of_wp Try.func41 rfl trivial ?_ rfl
  simp only [Try.ntmps41, List.size_toArray, List.length_cons, List.length_nil, Nat.reduceAdd, Nat.reduceSub, Array.replicate_succ, Array.replicate_zero, List.push_toArray, List.append_toArray, List.nil_append, List.cons_append]
  have hb := hI.box
  have ho := hI.obj
  have HI := Lib.hid hI
  have HY := Lib.hid hY
  have HP := Lib.hid hP
  have HJ := Lib.hid hJ
  have HL := Lib.hid hL
  have H0 := Lib.hid h0
  clear hI hY hP hJ hL h0
  gi_wp2
  gi_loopw [12] (fun i wr => ∃ (j : Nat) (pre : List { z : Sv // Pz z }), j ≤ x.W.length ∧ i = .int .i64 j ∧ pre.map Subtype.val = survGo (keptN ks torn kk) 0 (x.W.take j) ∧ J pre wr ∧ Kp g L W0 wr) (fun i _ => x.W.length - (intOf i).toNat)
  case atStart => exact ⟨0, [], by omega, rfl, rfl, H0.out, Mod.refl _ _⟩
  case round =>
    obtain ⟨j, pre, hj, rfl, hpre, hJs, hK⟩ := hrel
    by_cases hlt : j < x.W.length
    · obtain ⟨y, hy⟩ : ∃ y, x.W[j]? = some y := ⟨_, List.getElem?_eq_getElem hlt⟩
      have hIr := HI.out.keep hK
      obtain ⟨b, hb', hc0, hc1⟩ := hIr.pend j y hy
      have hPy := HP.out j y hy
      have hsn : survGo (keptN ks torn kk) 0 (x.W.take (j + 1)) = survGo (keptN ks torn kk) 0 (x.W.take j) ++ (if 0 < keptN ks torn kk j then [⟨y.1, y.2, keptN ks torn kk j⟩] else []) := by
        obtain ⟨hj', e⟩ := List.getElem?_eq_some_iff.1 hy
        rw [List.take_succ_eq_append_getElem hj', e, survGo_snoc, Nat.zero_add, List.length_take, Nat.min_eq_left (by omega)]
      have hplen : pre.length < x.W.length := by
        have h1 := congrArg List.length hpre
        rw [List.length_map] at h1
        have h2 := survGo_len (keptN ks torn kk) (x.W.take j) 0
        rw [List.length_take] at h2
        omega
      have hk256 := keptN_le ks torn kk j
      rw [hb']
      have Hpre := Lib.hid hpre
      have HJs := Lib.hid hJs
      have HK := Lib.hid hK
      have HIr := Lib.hid hIr
      have HPy := Lib.hid hPy
      have Hsn := Lib.hid hsn
      have Hpl := Lib.hid hplen
      clear hpre hJs hK hIr hPy hsn hplen hy hb' hb ho
      have hm2 : Mod (fun _ => False) wr (wr.alloc (.cells #[.int .i64 y.1, .slice y.2.A 256 y.2.c] 68)) := (Mod.refl _ wr).alloc _
      have hI2 := HIr.out.keep (hm2.mono (fun _ _ h => h.elim))
      have hk0 := hI2.c0
      have hk1 := hI2.c1
      have hk2 := hI2.c2
      have hkept := kept_ok _ _ _ _ _ hI2.bl hkn torn kk j (by omega)
      have Hkept := Lib.hid hkept
      have Hm2 := Lib.hid hm2
      clear hkept hI2 hm2
      gi_wp2_with fail
      refine ⟨trivial, ?_⟩
      refine (callsIn_wide.2 Hkept.out).mono ?_
      rintro e w3 ⟨rfl, hm3⟩
      have hb2 := heap_alloc_new wr (.cells #[.int .i64 y.1, .slice y.2.A 256 y.2.c] 68)
      have hb3 : w3.heap[wr.heap.size]? = some (.cells #[.int .i64 y.1, .slice y.2.A 256 y.2.c] 68 (0, 0)) := (hm3.block _ (by rw [World.size_alloc]; omega) id).trans hb2
      have d0 : w3.cell? ⟨wr.heap.size, 0, none⟩ = some (.int .i64 y.1) := by rw [cell_of_row _ _ _ _ _ _ hb3]; rfl
      have d1 : w3.cell? ⟨wr.heap.size, 1, none⟩ = some (.slice y.2.A 256 y.2.c) := by rw [cell_of_row _ _ _ _ _ _ hb3]; rfl
      have hm23 : Mod (fun _ => False) wr w3 := Hm2.out.trans hm3 (fun _ _ h => h)
      have hJ3 : J pre w3 := HJ.out pre wr w3 none HJs.out (grown_of_mod hm23) (fun r e => by cases e)
      have hK3 : Kp g L W0 w3 := HK.out.trans (hm23.mono (fun _ _ h => h.elim)) (fun _ _ h => h)
      clear hb2 hb3 hm3 hm23 hk0 hk1 hk2 hc0 hc1 Hkept
      by_cases hkp : 0 < keptN ks torn kk j
      · have hkd : decide ((0 : Int) < keptN ks torn kk j) = true := by simp; omega
        obtain ⟨fn, tmps, assign, body, hy, hR⟩ := HY.out pre ⟨⟨y.1, y.2, keptN ks torn kk j⟩, HPy.out⟩ w3 hJ3 Hpl.out
        dsimp only [Sv.encs] at hy
        have Hsn2 : Hid ((pre ++ [(⟨⟨y.1, y.2, keptN ks torn kk j⟩, HPy.out⟩ : { z : Sv // Pz z })]).map Subtype.val = survGo (keptN ks torn kk) 0 (x.W.take (j + 1))) := by
          show _ = _
          rw [Hsn.out, if_pos hkp, List.map_append, Hpre.out]
          rfl
        gi_wp2
        refine hR.mono ?_
        rintro e W3 (⟨rfl, hJ4, hk4⟩ | ⟨rfl, hJx4⟩)
        · have HJ4 := Lib.hid hJ4
          have HK4 : Hid (Kp g L W0 W3) := Mod.trans hK3 hk4 (fun _ _ h => h)
          clear hJ4 hk4 hR hy
          gi_wp2
          go_roundw
          case rel => exact ⟨j + 1, _, by omega, by go_num, Hsn2.out, HJ4.out, HK4.out⟩
          case measure => simp [intOf]; omega
        · have HJ4 := Lib.hid hJx4
          clear hJx4 hR hy
          gi_wp2
          refine bodyPost_ret (results_none rfl _ _ _) rfl ?_
          exact ⟨⟨_, rfl⟩, .inr ⟨_, trivial, HJ4.out⟩⟩
      · have hkz : keptN ks torn kk j = 0 := by omega
        have hkd : decide ((0 : Int) < keptN ks torn kk j) = false := by rw [hkz]; rfl
        have Hsn2 : Hid (pre.map Subtype.val = survGo (keptN ks torn kk) 0 (x.W.take (j + 1))) := by
          show _ = _
          rw [Hsn.out, if_neg hkp, List.append_nil, Hpre.out]
        rw [hkz]
        have HJ4 := Lib.hid hJ3
        have HK4 := Lib.hid hK3
        clear hJ3 hK3 hkz hkp
        gi_wp2
        refine ⟨fun _ h => (by cases h), ?_⟩
        gi_wp2
        go_roundw
        case rel => exact ⟨j + 1, _, by omega, by go_num, Hsn2.out, HJ4.out, HK4.out⟩
        case measure => simp [intOf]; omega
    · obtain rfl : j = x.W.length := by omega
      rw [List.take_length] at hpre
      have Hpre := Lib.hid hpre
      have HJs := Lib.hid hJs
      clear hpre hJs
      gi_wp2
      go_end0
      exact ⟨⟨_, rfl⟩, .inl ⟨pre, Hpre.out, HJs.out⟩⟩

set_option maxRecDepth 100000 in
/-- Disk.survivors: the receiver and the crash are boxed; the function value captures the boxes. -/
theorem survivors_ok (w : World) (p : Option Addr) (kA : Option Addr) (kn kc : Nat) (torn kk : Int) :
    Calls Try.prog 36 #[.pointer p, .agg #[.slice kA kn kc, .int .i64 torn, .int .i64 kk]] w fun e w' =>
      e = .returned (.func (.func 41) #[] #[.pointer (some ⟨w.heap.size, 0, none⟩), .pointer (some ⟨w.heap.size + 1, 0, none⟩)]) ∧
      w' = (w.alloc (.cells #[.pointer p] 24)).alloc (.cells #[.slice kA kn kc, .int .i64 torn, .int .i64 kk] 36) := by
  have hmf : ∀ (fn : Fn) (first cap : Array Value) (w : World), (Instr.makeFunc fn first cap).run Try.prog w = .ok (.func fn first cap) w := fun _ _ _ _ => rfl
  go_enter Try.func36, Try.ntmps36
  go_wp2
  go_ret
  exact ⟨rfl, rfl⟩

theorem surv_stops (n g L Bd Bc : Nat) (hn : 1 ≤ n) (x : DV) (kA : Option Addr) (kn kc : Nat) (ks : List Bool) (torn kk : Int) (Pz : Sv → Prop) (hkn : kn ≤ 9223372036854775807) (hW : x.W.length ≤ 1000)
    (hP : ∀ j y, x.W[j]? = some y → Pz ⟨y.1, y.2, keptN ks torn kk j⟩) (w : World) (hL : L = w.heap.size) (hI : Its w g L Bd Bc x kA kn kc ks torn kk) :
    SeqStopsK Fence.wide n Try.prog 41 #[.pointer (some ⟨Bd, 0, none⟩), .pointer (some ⟨Bc, 0, none⟩)] (fun z : { z : Sv // Pz z } => Sv.encs z.1) (Kp g L)
      (fun zs => zs.map Subtype.val = survGo (keptN ks torn kk) 0 x.W) (fun _ => True) x.W.length w := fun l J Jx W hW' hJ _ hY h0 =>
  surv_in n l g L Bd Bc hn x kA kn kc ks torn kk Pz hkn hW hP J Jx W hJ (by rw [hL]; exact hW'.size) hY (hI.keep (Mod.of_below hW' (fun k hk => .inr (by rw [hL]; exact hk)))) h0
end Go.Proofs.Ytfgngmoeedegiaa
