/-
  The iterators: slices.Clone, omap.produce, Map.All, Map.From.
-/
import Derived.Test.YtgeodpflaebbgaaSetDel
import Derived.RangeFuncNested
import Derived.RangeFuncBound
import Derived.RangeFuncCalls
import Derived.RangeFuncLeaves
import Derived.Lib.SliceRun
import Derived.Shelf.Abstract
import Derived.Shelf.RegionOpen
import Derived.WalkKit
import Derived.OwnWalkIn
import Derived.TacticsInMore
import Derived.LoopNIn
import Derived.LoopIn
namespace Go.Proofs.Ytgeodpflaebbgaa
open Go Go.RowKit Go.Shelf
attribute [local go_sem] Oper.semAt_some

theorem ent_nil (w : World) (a : Option Addr) (n c : Nat) : (binOp .eql 60 (.slice a n c) (.slice none 0 0)).run Try.prog w = .ok (.bool a.isNone) w :=
  Lib.run_eql_slice_nil w _ _ a n c 0 0 Try.underlying60

set_option maxRecDepth 100000 in
theorem eclone_ok (w : World) (A : Option Addr) (n c : Nat) (l : List Pr) (h : Pl w A n c l) (hn : n ≤ 1000) :
    Calls Try.prog 58 #[.slice A n c] w fun e w' => ∃ A' c', e = .returned (.slice A' n c') ∧ OwN w' w.heap.size 97 2 A' n c' (prs l) ∧ Mod (fun _ => False) w w' := by
  have heq := ent_nil
  cases A with
  | none =>
    obtain rfl : n = 0 := by
      rcases Nat.eq_zero_or_pos n with e | e
      · exact e
      · obtain ⟨b, o, e, _⟩ := h.2.2 e; cases e
    obtain rfl : l = [] := List.eq_nil_of_length_eq_zero h.len
    clear h
    go_enter Try.func58, Try.ntmps58
    go_wp2
    go_ret
    exact ⟨none, 0, rfl, OwN.nil _ _ _ _, Mod.refl _ _⟩
  | some ad =>
    have Hm : Hid (Mod (fun _ => False) w (w.alloc (.cells #[] 97))) := (Mod.refl _ w).alloc _
    have Hs := Lib.hid (h.keep Hm.out).src
    have Hown : Hid (OwN (w.alloc (.cells #[] 97)) w.heap.size 97 2 (some ⟨w.heap.size, 0, none⟩) 0 0 []) :=
      OwN.mk_ (cur := []) (Nat.le_refl _) (heap_alloc_new w _) (Nat.le_refl _) (Nat.zero_le _) rfl rfl rfl
    clear h
    go_enter Try.func58, Try.ntmps58
    go_wp2_with (at_builtin; refine wpList_appN (.tmp 5) (.tmp 6) entElem rfl rfl rfl rfl Hown.out Hs.out (by omega) (by unfold maxLen; omega) (by rw [World.size_alloc]; omega) ?_; intro A' c' w' h1 h2 h3; rw [Nat.zero_add] at h1 ⊢; have H1 := Lib.hid h1; have H2 := Lib.hid h2; clear h1 h2 h3)
    go_ret
    refine ⟨A', c', rfl, H1.out, ?_⟩
    refine Mod.mono (F := fun k => w.heap.size ≤ k) ((Hm.out.mono (fun _ _ h => h.elim)).grown H2.out (fun k e hk => ?_)) (fun k hk e => by omega)
    simp [blkOf] at e
    omega

/-- What a round keeps: rows of entries. -/
def KpE (W W' : World) : Prop := W.heap.size ≤ W'.heap.size ∧ ∀ (k : Nat) (cur : Array Value) (fr : Nat × Nat), W.heap[k]? = some (.cells cur 97 fr) → W'.heap[k]? = some (.cells cur 97 fr)
theorem KpE.trans {A B C : World} (h : KpE A B) (k : KpE B C) : KpE A C := ⟨Nat.le_trans h.1 k.1, fun i cur fr e => k.2 i cur fr (h.2 i cur fr e)⟩
theorem OwN.kp {W W' : World} {base size n c : Nat} {A : Option Addr} {vs : List Value} (h : OwN W base 97 size A n c vs) (hk : KpE W W') : OwN W' base 97 size A n c vs := by
  refine ⟨h.1, ?_⟩
  rcases h.2 with hn | ⟨g, cap, cur, hv, hb, hgg, rest⟩
  · exact .inl hn
  · exact .inr ⟨g, cap, cur, hv, hb, hk.2 _ _ _ hgg, rest⟩
theorem grown_of_mod {w w' : World} (h : Mod (fun _ => False) w w') : w.grownBy w' none := ⟨h.os, h.tape, h.output, h.size, fun k hk _ => h.block k hk id⟩
def prEnc (z : Pr) : Array Value := #[.int .i64 z.1, .slice z.2.a z.2.n z.2.c]

theorem round_any {F : Fence} (hd : F.depth = none) {m m' : Nat} {P : Program} {l : Nat} {f : FuncId} {tmps : Array Value} {assign body : Code} {w : World} {R : Ending → World → Prop}
    (h : RoundIn F m P l f tmps assign body w R) : RoundIn F m' P l f tmps assign body w R := ⟨h.1, fun c cs _ => h.2 c cs (fun d e => by rw [hd] at e; cases e)⟩
theorem yield_any {F : Fence} (hd : F.depth = none) {m : Nat} (m' : Nat) {P : Program} {l : Nat} {args : Array Value} {W : World} {R : Ending → World → Prop} (h : YieldAt F m P l args W R) : YieldAt F m' P l args W R := by
  obtain ⟨fn, tmps, assign, body, hy, hR⟩ := h
  exact ⟨fn, tmps, assign, body, hy, round_any hd hR⟩

set_option maxRecDepth 100000 in
set_option maxHeartbeats 2000000 in
theorem produce_in {α : Type} (f : α → Pr) (n l : Nat) (hn : 1 ≤ n) (A : Option Addr) (c : Nat) (L : List α) (J Jx : List α → World → Prop) (W0 : World) (B0 : Nat) (hJ : AbidesFrom B0 J) (hlen : L.length ≤ 1000)
    (hY : ∀ m pre z W, J pre W → pre.length < L.length → YieldAt Fence.wide m Try.prog l (prEnc (f z)) W fun e W' =>
      (e = .returned (.bool true) ∧ J (pre ++ [z]) W' ∧ KpE W W') ∨ (e = .returned (.bool false) ∧ Jx (pre ++ [z]) W'))
    (hI : Pl W0 A L.length c (L.map f)) (h0 : J [] W0) :
    CallsIn Fence.wide n Try.prog 48 #[.slice A L.length c, .func (.yield l) #[] #[]] W0 fun e W' => (∃ v, e = .returned v) ∧ (J L W' ∨ ∃ pre, pre <+: L ∧ Jx pre W') := by
  have Hcl := Lib.hid (eclone_ok W0 A L.length c (L.map f) hI hlen)
  have HY := Lib.hid hY
  have HJ := Lib.hid hJ
  have H0 := Lib.hid h0
  clear hI hY hJ h0
  refine callsIn_of_wp Try.func48 rfl trivial ?_ rfl
  simp only [Try.ntmps48, List.size_toArray, List.length_cons, List.length_nil, Nat.reduceAdd, Nat.reduceSub, Array.replicate_succ, Array.replicate_zero, List.push_toArray, List.append_toArray, List.nil_append, List.cons_append]
  gi_wp2_with fail
  refine ⟨trivial, ?_⟩
  refine (callsIn_wide.2 Hcl.out).mono ?_
  rintro e W1 ⟨A', c', rfl, hown, hm1⟩
  have Hown := Lib.hid hown
  have HJ1 : Hid (J [] W1) := HJ.out [] W0 W1 none H0.out (grown_of_mod hm1) (fun r e => by cases e)
  have hsz1 := hm1.size
  clear hown hm1 Hcl
  gi_wp2
  gi_loopw [9] (fun i wr => ∃ j : Nat, j ≤ L.length ∧ i = .int .i64 j ∧ J (L.take j) wr ∧ OwN wr W0.heap.size 97 2 A' L.length c' (prs (L.map f))) (fun i _ => L.length - (intOf i).toNat)
  case atStart => exact ⟨0, by omega, rfl, HJ1.out, Hown.out⟩
  case round =>
    obtain ⟨j, hj, rfl, hJs, how⟩ := hrel
    have HJs := Lib.hid hJs
    have How := Lib.hid how
    clear hJs how
    by_cases hlt : j < L.length
    · obtain ⟨y, hy0⟩ : ∃ y, L[j]? = some y := ⟨_, List.getElem?_eq_getElem hlt⟩
      obtain ⟨z, hzf⟩ : ∃ z, f y = z := ⟨_, rfl⟩
      have hz : (L.map f)[j]? = some z := by rw [List.getElem?_map, hy0, ← hzf]; rfl
      obtain ⟨b, o, rfl, hcs⟩ := How.out.pl.2.2 (by omega)
      obtain ⟨c0, c1⟩ := hcs j z hz
      have hm2 : Mod (fun _ => False) wr (wr.alloc (.cells #[.int .i64 z.1, .slice z.2.a z.2.n z.2.c] 97)) := (Mod.refl _ wr).alloc _
      have HJ2 : Hid (J (L.take j) (wr.alloc (.cells #[.int .i64 z.1, .slice z.2.a z.2.n z.2.c] 97))) := HJ.out _ wr _ none HJs.out (grown_of_mod hm2) (fun r e => by cases e)
      have How2 := Lib.hid (How.out.alloc (.cells #[.int .i64 z.1, .slice z.2.a z.2.n z.2.c] 97))
      have Hsn : Hid (L.take j ++ [y] = L.take (j + 1)) := by
        show _ = _
        obtain ⟨hj', e⟩ := List.getElem?_eq_some_iff.1 hy0
        rw [List.take_succ_eq_append_getElem hj', e]
      obtain ⟨fn, tmps, assign, body, hy, hR⟩ := HY.out (n - 1) (L.take j) y _ HJ2.out (by rw [List.length_take]; omega)
      rw [hzf] at hy
      dsimp only [prEnc] at hy
      have HR := Lib.hid hR
      clear hcs hz hm2 hR hy0 hzf
      gi_wp2
      refine HR.out.mono ?_
      rintro e W3 (⟨rfl, hJ3, hk3⟩ | ⟨rfl, hJx3⟩)
      · have HJ3 : Hid (J (L.take (j + 1)) W3) := by rw [Hsn.out] at hJ3; exact hJ3
        have How3 := Lib.hid (How2.out.kp hk3)
        clear hJ3 hk3
        gi_wp2
        go_roundw
        case rel => exact ⟨j + 1, by omega, by go_num, HJ3.out, How3.out⟩
        case measure => simp [intOf]; omega
      · have HJ3 : Hid (Jx (L.take (j + 1)) W3) := by rw [Hsn.out] at hJx3; exact hJx3
        clear hJx3
        gi_wp2
        refine bodyPost_ret (results_none rfl _ _ _) rfl ?_
        exact ⟨⟨_, rfl⟩, .inr ⟨_, List.take_prefix _ _, HJ3.out⟩⟩
    · obtain rfl : j = L.length := by omega
      have HJ4 : Hid (J L wr) := by have := HJs.out; rw [List.take_length] at this; exact this
      gi_wp2
      go_end0
      exact ⟨⟨_, rfl⟩, .inl HJ4.out⟩

/-- The map's box, and what it leads to, in old memory. -/
structure Its (w : World) (Bx : Nat) (P : Option Addr) (L : List Pr) : Prop where
  box : w.cell? ⟨Bx, 0, none⟩ = some (.pointer P)
  rd : MRd w P L
theorem Its.below {w W : World} {Bx : Nat} {P : Option Addr} {L : List Pr} (h : Its w Bx P L) (hb : Below w.heap.size w W) : Its W Bx P L :=
  have hm : Mod (fun k => w.heap.size ≤ k) w W := Mod.of_below hb (fun _ h => h)
  ⟨(World.cell?_of_block (hm.block Bx (World.block_lt_of_cell? w _ h.box) (by have := World.block_lt_of_cell? w _ h.box; simp only at this; omega))).trans h.box, h.rd.mod hm (fun k hk => by omega)⟩

set_option maxRecDepth 100000 in
set_option maxHeartbeats 2000000 in
theorem all1_stops {α : Type} (f : α → Pr) (n Bx : Nat) (hn : 2 ≤ n) (P : Option Addr) (L : List α) (hL : L.length ≤ 1000) (w : World) (hI : Its w Bx P (L.map f)) :
    SeqStopsK Fence.wide n Try.prog 47 #[.pointer (some ⟨Bx, 0, none⟩)] (fun z => prEnc (f z)) KpE (fun xs => xs = L) (fun pre => pre <+: L) L.length w := by
  intro l J Jx W hW hJ _ hY h0
  have hIW := hI.below hW
  obtain ⟨A, c, _, hl, hcall⟩ := mlist_ok W P (L.map f) hIW.rd
  rw [List.length_map] at hl hcall
  have hp := produce_in f (n - 1) l (by omega) A c L J Jx W _ hJ hL (fun m pre z W' hj hlt => yield_any rfl m (hY pre z W' hj hlt)) hl h0
  have Hp := Lib.hid hp
  have Hc := Lib.hid hcall
  have hb := hIW.box
  clear hp hcall hl hIW hI hY hJ h0
  refine callsIn_of_wp Try.func47 rfl trivial ?_ rfl
  simp only [Try.ntmps47, List.size_toArray, List.length_cons, List.length_nil, Nat.reduceAdd, Nat.reduceSub, Array.replicate_succ, Array.replicate_zero, List.push_toArray, List.append_toArray, List.nil_append, List.cons_append]
  have h1 : 1 ≤ n := by omega
  gi_wp2_with fail
  refine ⟨trivial, ?_⟩
  refine (callsIn_wide.2 Hc.out).mono ?_
  rintro e W1 ⟨rfl, rfl⟩
  gi_wp2_with fail
  refine ⟨trivial, ?_⟩
  refine Hp.out.mono ?_
  rintro e W2 ⟨⟨v, rfl⟩, hor⟩
  have Hor := Lib.hid hor
  clear hor
  gi_wp2
  go_end0
  refine ⟨⟨_, rfl⟩, ?_⟩
  rcases Hor.out with h | ⟨pre, h1, h2⟩
  · exact .inl ⟨L, rfl, h⟩
  · exact .inr ⟨pre, h1, h2⟩

set_option maxRecDepth 100000 in
theorem mall_ok (w : World) (P : Option Addr) : Calls Try.prog 34 #[.pointer P] w fun e w' =>
    e = .returned (.func (.func 47) #[] #[.pointer (some ⟨w.heap.size, 0, none⟩)]) ∧ w' = w.alloc (.cells #[.pointer P] 90) := by
  have hmf : ∀ (fn : Fn) (first cap : Array Value) (w : World), (Instr.makeFunc fn first cap).run Try.prog w = .ok (.func fn first cap) w := fun _ _ _ _ => rfl
  go_enter Try.func34, Try.ntmps34
  go_wp2
  go_ret
  exact ⟨rfl, rfl⟩
end Go.Proofs.Ytgeodpflaebbgaa
