/-
  math/bits.Mul, slices.Repeat, disk.New.
  disk.kept: how many bytes of a pending write survive.
  In a round of a range over a function: a region that draws its order, of reads and then a chain of steps, is walked as anywhere else.
  The writes that survive a crash: what Disk.survivors yields.
  A region that draws its order, walked in one order of our own choice: reads that yield the same wherever S holds are taken first, the other operations are carried out where nothing else may come up.
  A region that draws its order, walked by a tree of orders: operations that yield the same in every world are taken first, of the others every one that may come up.
-/
import Derived.Test.YtnbamljaiahmdaaGreatQC
import Derived.RangeFuncNested
import Derived.RangeFuncBound
import Derived.RangeFuncCalls
import Derived.RangeFuncLeaves
import Derived.StillTailTactics
import Derived.OrdersIn
import Derived.Shelf.Abstract
import Derived.Shelf.RegionOpen
import Derived.WalkKit
import Derived.OwnWalkIn
import Derived.TacticsInMore
import Derived.LoopNIn
import Derived.LoopIn
import Derived.OrdersHeld
namespace Go.Proofs.YtnbamljaiahmdaaGreat
open Go Go.RowKit

theorem wrap_u64 (n : Nat) (hn : n < 4294967296) : IntKind.u64.wrap (n : Int) = n := by
  have : IntKind.u64.wrap (n : Int) = (n : Int) % 18446744073709551616 := rfl
  rw [this]
  omega
theorem and_u64 (n : Nat) (hn : n < 4294967296) : bits .and .u64 (n : Int) 4294967295 = n := by
  have e : ∀ c : Nat, c < 4294967296 → (BitVec.ofInt 64 (c : Int)).toNat = c := fun c hc => by
    rw [BitVec.ofInt_natCast, BitVec.toNat_ofNat]; exact Nat.mod_eq_of_lt (by omega)
  show IntKind.u64.wrap ((BitVec.ofInt 64 (n : Int) &&& BitVec.ofInt 64 ((4294967295 : Nat) : Int)).toNat : Int) = _
  rw [BitVec.toNat_and, e n hn, e 4294967295 (by omega)]
  have : n &&& 4294967295 = n := by
    rw [show (4294967295 : Nat) = 2 ^ 32 - 1 by decide, Nat.and_two_pow_sub_one_eq_mod]
    omega
  rw [this, wrap_u64 n hn]

set_option maxRecDepth 100000 in
theorem mul64_one (w : World) (n : Nat) (hn : n < 4294967296) :
    Calls Tryz.prog 62 #[.int .u64 1, .int .u64 n] w fun e w' => e = .returned (.tuple #[.int .u64 0, .int .u64 n]) ∧ w' = w := by
  have b1 : bits .and .u64 (n : Int) 4294967295 = n := and_u64 n hn
  have b0 : bits .and .u64 1 4294967295 = 1 := and_u64 1 (by omega)
  have bz : bits .and .u64 0 4294967295 = 0 := and_u64 0 (by omega)
  have wn : IntKind.u64.wrap (n : Int) = n := wrap_u64 n hn
  have wz : IntKind.u64.wrap 0 = 0 := wrap_u64 0 (by omega)
  have d1 : (n : Int) / 4294967296 = 0 := by omega
  clear hn
  go_enter Tryz.func62, Tryz.ntmps62
  go_wp2
  go_ret2
  exact ⟨rfl, rfl⟩

set_option maxRecDepth 100000 in
theorem mul_one' (w : World) (n : Nat) (hn : n < 4294967296) :
    Calls Tryz.prog 40 #[.int .u64 1, .int .u64 n] w fun e w' => e = .returned (.tuple #[.int .u64 0, .int .u64 n]) ∧ w' = w := by
  go_enter Tryz.func40, Tryz.ntmps40
  go_wp2_with fail
  refine (mul64_one _ n hn).mono ?_
  rintro e w' ⟨rfl, rfl⟩
  go_wp2
  go_ret2
  exact ⟨rfl, rfl⟩

/-- v's, and then nil ones. -/
def laidS (v : Value) (n j : Nat) : List Value := List.replicate j v ++ List.replicate (n - j) (.slice none 0 0)
theorem laidS_len (v : Value) (n j : Nat) (h : j ≤ n) : (laidS v n j).length = n := by unfold laidS; rw [List.length_append, List.length_replicate, List.length_replicate]; omega
theorem laidS_none (v : Value) (n : Nat) : List.replicate n (.slice none 0 0) = laidS v n 0 := by unfold laidS; rw [List.replicate_zero, List.nil_append, Nat.sub_zero]
theorem laidS_all (v : Value) (n : Nat) : laidS v n n = List.replicate n v := by unfold laidS; rw [Nat.sub_self, List.replicate_zero, List.append_nil]
theorem laidS_splice (v : Value) (n j m : Nat) : splice (laidS v n j) j (List.replicate m v) = laidS v n (j + m) := by
  unfold laidS
  rw [splice_at _ _ j List.length_replicate, List.length_replicate, List.drop_replicate, ← List.append_assoc, List.replicate_append_replicate, Nat.sub_sub]
theorem laidS_get (v : Value) (n j i : Nat) (h : i < j) : (laidS v n j)[i]? = some v := by
  unfold laidS
  rw [List.getElem?_append_left (by rw [List.length_replicate]; exact h), List.getElem?_replicate, if_pos h]

/-- A row without spare is known whole. -/
theorem OwV.whole {w : World} {base : Nat} {e : TypeId} {g n : Nat} {vs : List Value} (h : OwV w base e (some ⟨g, 0, none⟩) n n vs) : w.heap[g]? = some (.cells vs.toArray e (0, 0)) := by
  obtain ⟨_, cur, hg, _, _, h3, h4⟩ := h.block rfl
  rw [List.take_of_length_le (by simp [h3])] at h4
  rw [hg, ← h4]

set_option maxRecDepth 100000 in
set_option maxHeartbeats 800000 in
theorem repeat_ok (w : World) (g0 : Nat) (A : Option Addr) (c : Nat) (hg0 : w.heap[g0]? = some (.cells #[.slice A 256 c] 50 (0, 0))) (n : Nat) (h1 : 1 ≤ n) (hn : n ≤ 4096) :
    Calls Tryz.prog 19 #[.slice (some ⟨g0, 0, none⟩) 1 1, .int .i64 n] w fun e w' => ∃ g, e = .returned (.slice (some ⟨g, 0, none⟩) n n) ∧
      OwV w' w.heap.size 50 (some ⟨g, 0, none⟩) n n (List.replicate n (.slice A 256 c)) ∧ Mod (fun _ => False) w w' := by
  have Hfn := Lib.hid (laidS_none (.slice A 256 c) n)
  have wn : IntKind.u64.wrap (n : Int) = n := wrap_u64 n (by omega)
  have wi : wrap64 (n : Int) = n := by unfold wrap64; omega
  have hd0 : decide ((n : Int) < 0) = false := by simp
  have hd1 : ¬ (9223372036854775807 : Int) < n := by omega
  have Hg0 := Lib.hid hg0
  clear hg0
  go_enter Tryz.func19, Tryz.ntmps19
  go_wp2_with fail
  refine (mul_one' _ n (by omega)).mono ?_
  rintro e w' ⟨rfl, rfl⟩
  go_wp2_with (at_make; refine wpList_mk (.tmp 29) (.tmp 29) secElem rfl rfl rfl n .i64 .i64 n n rfl rfl rfl rfl (by omega) (by unfold maxLen; omega) _ Hfn.out ?_)
  intro w1 hown hm
  obtain ⟨g, hg⟩ : ∃ g, g = w'.heap.size := ⟨_, rfl⟩
  rw [← hg]
  rw [← hg] at hown
  have hgl := (hown.lt g rfl).2
  have hml : n ≤ maxLen := by unfold maxLen; omega
  have Hml := Lib.hid hml
  have Hhg := Lib.hid hg
  have Hw1 := Lib.hid hown.whole
  have Hm := Lib.hid hm
  have hc0 : w1.heap[g0]? = some (.cells #[.slice A 256 c] 50 (0, 0)) := (hm.block _ (Array.getElem?_eq_some_iff.1 Hg0.out).1 id).trans Hg0.out
  obtain ⟨CX, hCX⟩ : ∃ CX : List Value, CX = List.replicate 1 (.slice A 256 c) := ⟨_, rfl⟩
  have Hn2 : Hid (CX.length = Nat.min 1 n) := by show CX.length = min 1 n; rw [hCX, List.length_replicate]; omega
  have Hf2 : Hid (0 + CX.length ≤ (laidS (.slice A 256 c) n 0).length) := by show 0 + CX.length ≤ _; rw [hCX, List.length_replicate, laidS_len _ _ _ (by omega)]; omega
  have Hone : Hid (∀ v ∈ CX, v.oneCell' = true) := by
    show ∀ v ∈ CX, v.oneCell' = true
    rw [hCX]; intro v hv; rw [List.eq_of_mem_replicate hv]; rfl
  have Hp2 : Hid (0 < CX.length → ∃ ad, some (⟨g0, 0, none⟩ : Addr) = some ad ∧ ∀ j v, CX[j]? = some v → w1.cell? (ad.add j) = some v) := by
    intro _
    refine ⟨_, rfl, ?_⟩
    rw [hCX]
    exact World.news_of_block hc0
  have HCX := Lib.hid hCX
  have HCl : Hid (CX.length = 1) := by show _ = _; rw [hCX, List.length_replicate]
  clear hown hm hg hc0 hCX hml
  go_wp2_with (with_reducible refine wpList_copyAt (.tmp 31) (.tmp 32) secElem rfl rfl rfl rfl Hw1.out Hn2.out Hp2.out Hf2.out Hone.out ?_)
  intro w2 hg2 hm2 hs2
  rw [HCX.out, laidS_splice, Nat.zero_add] at hg2
  rw [HCl.out]
  have Hg2 := Lib.hid hg2
  have Hm2 := Lib.hid hm2
  clear hg2 hs2 hm2 Hn2 Hf2 Hp2 Hone HCX HCl Hw1
  go_wp2_with fail
  go_loopw [8] (fun i wr => ∃ j : Nat, 1 ≤ j ∧ j ≤ n ∧ i = .int .i64 j ∧ wr.heap[g]? = some (.cells (laidS (.slice A 256 c) n j).toArray 50 (0, 0)) ∧ Mod (fun k => k = g) w1 wr) (fun i _ => n - (intOf i).toNat)
  case atStart => exact ⟨1, by omega, h1, rfl, Hg2.out, Hm2.out⟩
  case round =>
    obtain ⟨j, hj1, hj, rfl, hgr, hmr⟩ := hrel
    by_cases hlt : j < n
    · obtain ⟨m, hm⟩ : ∃ m, m = min j (n - j) := ⟨_, rfl⟩
      have hm1 : 1 ≤ m ∧ j + m ≤ n := by omega
      obtain ⟨CX, hCX⟩ : ∃ CX : List Value, CX = List.replicate m (.slice A 256 c) := ⟨_, rfl⟩
      have HCl : Hid (CX.length = m) := by show _ = _; rw [hCX, List.length_replicate]
      have Hn2 : Hid (CX.length = Nat.min j (n - j)) := by show CX.length = min j (n - j); rw [HCl.out, hm]
      have Hf2 : Hid (j + CX.length ≤ (laidS (.slice A 256 c) n j).length) := by show j + CX.length ≤ _; rw [HCl.out, laidS_len _ _ _ hj]; omega
      have Hone : Hid (∀ v ∈ CX, v.oneCell' = true) := by
        show ∀ v ∈ CX, v.oneCell' = true
        rw [hCX]; intro v hv; rw [List.eq_of_mem_replicate hv]; rfl
      have Hp2 : Hid (0 < CX.length → ∃ ad, some (⟨g, 0, none⟩ : Addr) = some ad ∧ ∀ i v, CX[i]? = some v → wr.drew.cell? (ad.add i) = some v) := by
        intro _
        refine ⟨_, rfl, ?_⟩
        rw [hCX]
        intro i v hv
        have hi : i < m := by have := (List.getElem?_eq_some_iff.1 hv).1; rw [List.length_replicate] at this; exact this
        have hadd : (⟨g, 0, none⟩ : Addr).add i = ⟨g, i, none⟩ := by unfold Addr.add; split <;> simp_all
        rw [List.getElem?_replicate, if_pos hi] at hv
        rw [hadd, cell_of_row wr.drew g i _ _ _ hgr, List.getElem?_toArray, laidS_get _ _ _ _ (by omega), ← hv]
      have Hgr : Hid (wr.drew.heap[g]? = some (.cells (laidS (.slice A 256 c) n j).toArray 50 (0, 0))) := hgr
      have HCX := Lib.hid hCX
      have Hmr := Lib.hid hmr
      clear hCX hgr hmr hm
      have hj2 : (j : Int) ≤ n := by omega
      have hj3 : (j : Int) < n := by omega
      have hj4 : ¬ n = j := by omega
      go_wp2_with fail
      go_region_law ((rw [if_pos (by simp [Region.wanted])]); refine wp_copyTo (dp := some ⟨g, j, none⟩) (dLen := n - j) (dCap := n - j) (sp := some ⟨g, 0, none⟩) (sLen := j) (sCap := n) (off := j) (.tmp 41) (.tmp 44) secElem rfl (by go_simp) (by go_simp) Hgr.out Hn2.out (fun hp => ⟨rfl, Hp2.out hp⟩) Hf2.out Hone.out ?_; intro w3 hg3 hm3 hs3)
      all_goals
        rw [HCX.out, laidS_splice] at hg3
        have Hg3 := Lib.hid hg3
        have Hm3 : Hid (Mod (fun k => k = g) w1 w3) := Hmr.out.drew.trans hm3 (fun _ _ e => e)
        clear hg3 hm3 hs3
        rw [HCl.out]
        have hjm : IntKind.i64.wrap ((j : Int) + m) = ((j + m : Nat) : Int) := by rw [IntKind.wrap_i64]; omega
        rw [hjm]
        go_simp
        go_wp2
        go_roundw
        case rel =>
          refine ⟨_, _, _, _, _, _, _, _, _, _, _, _, _, _, ?_, rfl⟩
          exact ⟨j + m, by omega, by omega, by go_num, Hg3.out, Hm3.out⟩
        case measure => simp [intOf]; omega
    · obtain rfl : j = n := by omega
      rw [laidS_all] at hgr
      have Hgr := Lib.hid hgr
      clear hgr
      go_wp2
      go_ret
      have hof := OwV.of_block (base := w'.heap.size) (w := wr) (g := g) (by rw [Hhg.out]; exact Nat.le_refl _) Hgr.out (by rw [List.length_replicate]; exact Hml.out)
      rw [List.length_replicate] at hof
      exact ⟨g, rfl, hof, Hm.out.trans hmr (fun i hi e => by have := Hhg.out; omega)⟩

theorem map_replicate_v (n : Nat) (s : Sct) : (List.replicate n s).map Sct.v = List.replicate n s.v := by rw [List.map_replicate]

set_option maxRecDepth 100000 in
theorem new_ok (w : World) (n : Int) (h1 : 1 ≤ n) (hn : n ≤ 4096) :
    Calls Tryz.prog 5 #[.int .i64 n] w fun e w' => ∃ x, e = .returned (.tuple #[.pointer (some ⟨x.p, 0, none⟩), .int .i64 0]) ∧ Made w w' w.heap.size x (Dk.fresh (List.replicate n.toNat (fill 0))) := by
  obtain ⟨m, rfl⟩ := Int.eq_ofNat_of_zero_le (show 0 ≤ n by omega)
  have hd0 : decide ((m : Int) < 1) = false := by simp; omega
  have hd1 : decide ((4096 : Int) < m) = false := by simp; omega
  have Hz : Hid (List.replicate 256 (.int .u8 0) = (fill 0).map bv) := by
    show _ = _
    unfold fill
    rw [List.map_replicate]
    rfl
  have he : Elem Tryz.prog 50 5 (.int .u8 0) 1 := Elem.mk_ Tryz.underlying50 rfl (by kernel_rfl)
  have He := Lib.hid he
  clear he
  go_enter Tryz.func5, Tryz.ntmps5
  go_wp2_with (at_make; refine wpList_mk (.const (.int .i64 256)) (.const (.int .i64 256)) He.out rfl rfl rfl 256 .i64 .i64 256 256 rfl rfl rfl rfl (by omega) (by unfold maxLen; omega) _ Hz.out ?_)
  intro w1 hown hm
  have hsl := hown.sl
  have hlt := hown.lt w.heap.size rfl
  have Hsl := Lib.hid hsl
  have Hlt := Lib.hid hlt
  have Hm := Lib.hid hm
  obtain ⟨g, hg⟩ : ∃ g, g = w.heap.size := ⟨_, rfl⟩
  rw [← hg] at Hsl Hlt ⊢
  have Hg := Lib.hid hg
  clear hown hm hsl hlt hg
  go_wp2_with fail
  refine (repeat_ok _ w1.heap.size (some ⟨g, 0, none⟩) 256 (heap_alloc_new w1 _) m (by omega) (by omega)).mono ?_
  rintro e w2 ⟨g2, rfl, hown2, hm2⟩
  have hm12 : Mod (fun _ => False) w1 w2 := ((Mod.refl _ w1).alloc _).trans hm2 (fun _ _ h => h)
  have hs2 : (⟨some ⟨g, 0, none⟩, 256, fill 0⟩ : Sct).At w2 (fun k => k = g2) := by
    refine ⟨Hsl.out.mod hm12 (fun _ _ _ => id), fun k hk e => ?_⟩
    have h1 := (hown2.lt g2 rfl).1
    have h2 := Hlt.out.2
    simp [blkOf] at hk
    rw [World.size_alloc] at h1
    omega
  have hown3 : OwV w2 w.heap.size 50 (some ⟨g2, 0, none⟩) (List.replicate m (⟨some ⟨g, 0, none⟩, 256, fill 0⟩ : Sct)).length m ((List.replicate m (⟨some ⟨g, 0, none⟩, 256, fill 0⟩ : Sct)).map Sct.v) := by
    rw [map_replicate_v, List.length_replicate]
    exact hown2.rebase (fun k hk => by
      have h1 := (hown2.lt k hk).1
      rw [World.size_alloc] at h1
      have := Hm.out.size
      omega)
  have hmd := made_ok w2 w.heap.size g2 m (List.replicate m ⟨some ⟨g, 0, none⟩, 256, fill 0⟩) hown3 (by rw [List.length_replicate]; omega) (by rw [List.length_replicate]; omega) (by have := Hm.out.size; have := hm12.size; omega)
    (fun s hs => by rw [List.eq_of_mem_replicate hs]; exact hs2)
  rw [List.length_replicate, List.map_replicate] at hmd
  have Hmd := Lib.hid hmd
  have Hm2 : Hid (Mod (fun _ => False) w w2) := Hm.out.trans hm12 (fun _ _ h => h)
  clear hown2 hm2 hm12 hs2 hown3 hmd Hsl Hlt Hm
  go_wp2_with fail
  refine Hmd.out.mono ?_
  rintro e w3 ⟨x, rfl, hM⟩
  have HM := Lib.hid hM
  clear hM
  go_wp2
  go_ret2
  exact ⟨x, rfl, HM.out.1, HM.out.2.1, HM.out.2.2.1, Hm2.out.trans HM.out.2.2.2 (fun _ _ h => h)⟩

set_option maxRecDepth 100000 in
theorem new_no (w : World) (n : Int) (h : n < 1 ∨ 4096 < n) :
    Calls Tryz.prog 5 #[.int .i64 n] w fun e w' => e = .returned (.tuple #[.pointer none, .int .i64 1]) ∧ w' = w := by
  by_cases h1 : n < 1
  · have hd : decide (n < 1) = true := by simpa using h1
    clear h h1
    go_enter Tryz.func5, Tryz.ntmps5
    go_wp2
    go_ret2
    exact ⟨rfl, rfl⟩
  · have hd : decide (n < 1) = false := by simpa using h1
    have hd2 : decide (4096 < n) = true := by simp; omega
    clear h h1
    go_enter Tryz.func5, Tryz.ntmps5
    go_wp2
    go_ret2
    exact ⟨rfl, rfl⟩
end Go.Proofs.YtnbamljaiahmdaaGreat

namespace Go.Proofs.YtnbamljaiahmdaaGreat
open Go Go.RowKit

/-- The slice value '.slice A n c' reads as the bools ks. -/
def Bl (w : World) (A : Option Addr) (n c : Nat) (ks : List Bool) : Prop :=
  ks.length = n ∧ n ≤ c ∧ (0 < n → ∃ b o, A = some ⟨b, o, none⟩ ∧ ∀ j, j < n → w.cell? ⟨b, o + j, none⟩ = some (.bool (ks.getD j false)))
section
variable {w w' : World} {A : Option Addr} {n c : Nat} {ks : List Bool}
theorem Bl.mod {F : Nat → Prop} (h : Bl w A n c ks) (hm : Mod F w w') (hF : ∀ k, blkOf A = some k → 0 < n → ¬ F k) : Bl w' A n c ks := by
  refine ⟨h.1, h.2.1, fun hn => ?_⟩
  obtain ⟨b, o, rfl, hc⟩ := h.2.2 hn
  exact ⟨b, o, rfl, fun j hj => (World.cell?_of_block (hm.block b (World.block_lt_of_cell? w _ (hc j hj)) (hF b rfl hn))).trans (hc j hj)⟩
theorem Bl.keep (h : Bl w A n c ks) (hm : Mod (fun _ => False) w w') : Bl w' A n c ks := h.mod hm (fun _ _ _ => id)
theorem Bl.below {B : Nat} (h : Bl w A n c ks) (hB : ∀ k, blkOf A = some k → 0 < n → k < B) (hb : Below B w w') : Bl w' A n c ks := by
  refine ⟨h.1, h.2.1, fun hn => ?_⟩
  obtain ⟨b, o, rfl, hc⟩ := h.2.2 hn
  exact ⟨b, o, rfl, fun j hj => (World.cell?_of_block (hb.block b (hB b rfl hn))).trans (hc j hj)⟩
end

end Go.Proofs.YtnbamljaiahmdaaGreat

namespace Go.Proofs.YtnbamljaiahmdaaGreat
open Go Go.RowKit

section
variable {P : Program} {Q : Exit → Act → World → Prop} {l n : Nat}

theorem roundOper {o : Oper} {a : Act} {w : World} {K : Act → World → Prop} (hd : ∀ c, o.op ≠ .defer c) (h : o.wp P a w K Q) : o.wpIn (Fence.wide.inRound l) n P a w K Q := by
  refine ⟨fun _ _ => trivial, ?_⟩
  rw [Oper.semAt_eq _ _ _ hd]
  unfold Oper.wp at h
  generalize (execOp a.eval o).run P w = r at h
  cases r with
  | ok x w' =>
    cases x with
    | enter f args => exact ⟨fun q => (by cases q), CallsIn.inRound l (callsIn_wide.2 h)⟩
    | row row args =>
      refine ⟨fun q => (by cases q), fun c cs _ => ?_⟩
      obtain ⟨v, w'', hr, hs⟩ := h c cs
      exact ⟨v, w'', hr, stepsIn_wide.2 hs⟩
    | value v => exact h
    | skip => exact h
    | defer d => exact h
    | _ => exact h.elim
  | halt x w' => cases x <;> first | exact h | exact h.elim

theorem roundOps {md : Region.Mode} {ops : Array Oper} (hd : ∀ (i : Nat) (o : Oper), ops[i]? = some o → ∀ c, o.op ≠ .defer c) (hQ : ¬ LetsOut Q) :
    ∀ (fuel : Nat) (listed : Array Bool) (a : Act) (w : World), wpAny P md ops Q fuel listed a w → wpAnyIn (Fence.wide.inRound l) n P md ops Q fuel listed a w
  | 0, _, _, _, h => h
  | fuel + 1, listed, a, w, h => by
    refine ⟨h.1, fun i hi => ?_⟩
    have h1 := h.2 i hi
    unfold wpOp at h1
    unfold wpOpIn
    cases ho : ops[i]? with
    | none => rw [ho] at h1; exact roundOps hd hQ fuel _ _ _ h1
    | some o =>
      rw [ho] at h1
      dsimp only at h1 ⊢
      by_cases hw : Region.wanted o (yielded ops a.tmps) = true
      · rw [if_pos hw] at h1 ⊢
        rcases h1 with h1 | h1
        · exact Oper.wpIn_mono (fun a' w' h2 => roundOps hd hQ fuel _ _ _ h2) (roundOper (hd i o ho) h1)
        · exact absurd h1.2 hQ
      · rw [if_neg hw] at h1 ⊢
        exact ⟨fun _ _ => trivial, roundOps hd hQ fuel _ _ _ h1⟩

/-- Reads first, in whatever order; behind them a chain: walked in the text's order. -/
theorem round_still_tail {id : Nat} {a : Act} {w : World} {L : List Oper} (m : Nat) (hm : P.follows .mixedOrders = true) (hB : Region.lexTailB .any L.toArray m = true) (hd : ∀ o ∈ L, ∀ c, o.op ≠ .defer c) (hQ : ¬ LetsOut Q)
    (h : wpStill P L.toArray { w with drawn := w.drawn + 1 } (fun a' => wpList P L.toArray Q (L.drop m) a' { w with drawn := w.drawn + 1 }) (L.take m) a) : (Code.region id L.toArray true).wpIn (Fence.wide.inRound l) n P Q a w := by
  refine wpIn_region_any hm (roundOps (fun i o ho => hd o (by rw [List.getElem?_toArray] at ho; exact List.mem_of_getElem? ho)) hQ _ _ _ _ ?_)
  generalize ({ w with drawn := w.drawn + 1 } : World) = W at h ⊢
  unfold Region.lexTailB at hB
  rw [Bool.and_eq_true, Bool.and_eq_true, Bool.and_eq_true, Bool.and_eq_true, decide_eq_true_eq] at hB
  obtain ⟨⟨⟨⟨b1, b2⟩, b3⟩, b4⟩, b5⟩ := hB
  have hsz : L.toArray.size = L.length := List.size_toArray
  have hml : m < L.length := by omega
  have hlen : (L.take m).length = m := by rw [List.length_take]; omega
  have hrest : (L.drop m).length = L.toArray.size - m := by rw [List.length_drop, hsz]
  have start : HeadInv .any L.toArray m (Array.replicate L.toArray.size false) := by
    refine ⟨Array.size_replicate, fun j oj _ hl => ?_, fun t _ ht => ?_⟩
    · rw [getD_replicate_false] at hl; cases hl
    · exact getD_in (by rw [Array.size_replicate]; exact ht) (getD_replicate_false _ _)
  have headWalk := wpAnyL_lex (md := .any) (g := L.toArray.size - m) b1 b3 b4 b2 (L.take m) 0 _ a
    (fun j hj => by rw [hlen] at hj; rw [Nat.zero_add, List.getElem?_toArray, List.getElem?_take, if_pos hj]) (by rw [Nat.zero_add]; exact hlen) start (by rw [hlen]; exact b5) h
  have tailWalk : ∀ (listed : Array Bool) (a' : Act), (Region.seqB .any L.toArray (L.toArray.size - m) m listed = true ∧ wpList P L.toArray Q (L.drop m) a' W) → wpAny P .any L.toArray Q (L.toArray.size - m) listed a' W := by
    rintro listed a' ⟨s1, s2⟩
    rw [← hrest] at s1 ⊢
    exact wpAny_of_seq (L.drop m) m listed a' W (fun j => by rw [List.getElem?_drop, List.getElem?_toArray]) s1 s2
  have both := wpAny_of_head tailWalk _ _ _ headWalk
  rw [hlen, Nat.add_sub_cancel' (Nat.le_of_lt b2)] at both
  exact both
end
end Go.Proofs.YtnbamljaiahmdaaGreat

namespace Go.Proofs.YtnbamljaiahmdaaGreat
open Go Go.RowKit Go.Shelf
attribute [local go_sem] Oper.semAt_some

/-- A write that survives: where, what, how much of it. -/
structure Sv where
  i : Nat
  s : Sct
  k : Nat
def survGo (f : Nat → Nat) : Nat → List (Nat × Sct) → List Sv
  | _, [] => []
  | i, y :: W => if 0 < f i then ⟨y.1, y.2, f i⟩ :: survGo f (i + 1) W else survGo f (i + 1) W
theorem survGo_snoc (f : Nat → Nat) (W : List (Nat × Sct)) : ∀ (i : Nat) (y : Nat × Sct), survGo f i (W ++ [y]) = survGo f i W ++ (if 0 < f (i + W.length) then [⟨y.1, y.2, f (i + W.length)⟩] else []) := by
  induction W with
  | nil => intro i y; simp [survGo]
  | cons z W ih =>
    intro i y
    rw [List.cons_append]
    show (if 0 < f i then _ else _) = _
    rw [ih]
    have e : i + 1 + W.length = i + (z :: W).length := by rw [List.length_cons]; omega
    rw [e]
    show _ = (if 0 < f i then _ else _) ++ _
    split <;> simp
theorem survGo_len (f : Nat → Nat) (W : List (Nat × Sct)) : ∀ i, (survGo f i W).length ≤ W.length := by
  induction W with
  | nil => intro i; exact Nat.le_refl _
  | cons z W ih =>
    intro i
    have := ih (i + 1)
    show (if 0 < f i then _ else _ : List Sv).length ≤ _
    split <;> simp <;> omega

def Sv.encs (z : Sv) : Array Value := #[.agg #[.int .i64 z.i, .slice z.s.A 256 z.s.c], .int .i64 z.k]

/-- What a round keeps: all but the block g and what is laid since L. -/
def Kp (g L : Nat) : World → World → Prop := Mod (fun k => k = g ∨ L ≤ k)

/-- What the iterator reads, all of it in old blocks other than g. -/
structure Its (w : World) (g L Bd Bc : Nat) (x : DV) (kA : Option Addr) (kn kc : Nat) (ks : List Bool) (torn kk : Int) : Prop where
  box : w.cell? ⟨Bd, 0, none⟩ = some (.pointer (some ⟨x.p, 0, none⟩))
  c0 : w.cell? ⟨Bc, 0, none⟩ = some (.slice kA kn kc)
  c1 : w.cell? ⟨Bc, 1, none⟩ = some (.int .i64 torn)
  c2 : w.cell? ⟨Bc, 2, none⟩ = some (.int .i64 kk)
  bl : Bl w kA kn kc ks
  bln : ∀ k, blkOf kA = some k → 0 < kn → k ≠ g ∧ k < L
  obj : w.cell? ⟨x.p, 2, none⟩ = some (.slice x.pA x.W.length x.cp)
  pend : ∀ j y, x.W[j]? = some y → ∃ b, x.pA = some ⟨b, 0, none⟩ ∧ w.cell? ⟨b, j * 2, none⟩ = some (.int .i64 y.1) ∧ w.cell? ⟨b, j * 2 + 1, none⟩ = some (.slice y.2.A 256 y.2.c)
  n1 : Bd ≠ g ∧ Bd < L
  n2 : Bc ≠ g ∧ Bc < L
  n3 : x.p ≠ g ∧ x.p < L
  n4 : ∀ b, blkOf x.pA = some b → b ≠ g ∧ b < L
theorem Its.keep {w w' : World} {g L Bd Bc : Nat} {x : DV} {kA : Option Addr} {kn kc : Nat} {ks : List Bool} {torn kk : Int} (h : Its w g L Bd Bc x kA kn kc ks torn kk) (hk : Kp g L w w') : Its w' g L Bd Bc x kA kn kc ks torn kk := by
  have cell : ∀ (b i : Nat) (v : Value), b ≠ g ∧ b < L → w.cell? ⟨b, i, none⟩ = some v → w'.cell? ⟨b, i, none⟩ = some v := fun b i v hb hc =>
    (World.cell?_of_block (hk.block b (World.block_lt_of_cell? w _ hc) (fun e => by rcases e with e | e; exact hb.1 e; omega))).trans hc
  refine ⟨cell _ _ _ h.n1 h.box, cell _ _ _ h.n2 h.c0, cell _ _ _ h.n2 h.c1, cell _ _ _ h.n2 h.c2, h.bl.mod hk (fun k hk' hn e => ?_), h.bln, cell _ _ _ h.n3 h.obj, fun j y hy => ?_, h.n1, h.n2, h.n3, h.n4⟩
  · have := h.bln k hk' hn
    rcases e with e | e
    · exact this.1 e
    · omega
  · obtain ⟨b, hb, h0, h1⟩ := h.pend j y hy
    have hn := h.n4 b (by rw [hb]; rfl)
    exact ⟨b, hb, cell _ _ _ hn h0, cell _ _ _ hn h1⟩

theorem grown_of_mod {w w' : World} (h : Mod (fun _ => False) w w') : w.grownBy w' none := ⟨h.os, h.tape, h.output, h.size, fun k hk _ => h.block k hk id⟩

end Go.Proofs.YtnbamljaiahmdaaGreat

namespace Go.Proofs.YtnbamljaiahmdaaGreat
open Go Go.RowKit

/-- One operation alone may come up: it is carried out. -/
theorem held_one {P : Program} {md : Region.Mode} {ops : Array Oper} {Q : Exit → Act → World → Prop} {S : World → Prop} {fuel : Nat} {listed : Array Bool} {a : Act} {w : World} (i : Nat) {o : Oper} (ho : ops[i]? = some o)
    (hr : Region.ready md ops listed = [i]) (hw : Region.wanted o (yielded ops a.tmps) = true) (h : o.wp P a w (fun a' w' => S w' ∧ wpAnyH P md ops Q S fuel (listed.setIfInBounds i true) a' w') Q) : wpAnyH P md ops Q S (fuel + 1) listed a w := by
  refine wpAnyH_all hr (by simp) (fun j hj => ?_)
  obtain rfl : j = i := by simpa using hj
  unfold wpOp
  rw [ho]
  dsimp only
  rw [if_pos hw]
  exact .inl h

/-- Does this order fit the region? 'true': taken first; 'false': carried out, nothing else being ready. -/
def orderB (ops : Array Oper) : List (Nat × Bool) → Array Bool → Bool
  | [], listed => (Region.ready .any ops listed).isEmpty
  | (i, true) :: r, listed => (Region.ready .any ops listed).contains i && Region.free .any ops listed i && orderB ops r (listed.setIfInBounds i true)
  | (i, false) :: r, listed => decide (Region.ready .any ops listed = [i]) && orderB ops r (listed.setIfInBounds i true)

def wpSeq (P : Program) (ops : Array Oper) (Q : Exit → Act → World → Prop) (S : World → Prop) : List (Nat × Bool) → Act → World → Prop
  | [], a, w => Q .normal a w
  | (i, true) :: r, a, w => ∃ o v, ops[i]? = some o ∧ YieldsIf P ops S o v a ∧ S w ∧ wpSeq P ops Q S r (a.put o.dst v) w
  | (i, false) :: r, a, w => ∃ o, ops[i]? = some o ∧ Region.wanted o (yielded ops a.tmps) = true ∧ o.wp P a w (fun a' w' => S w' ∧ wpSeq P ops Q S r a' w') Q

theorem held_of_seq {P : Program} {ops : Array Oper} {Q : Exit → Act → World → Prop} {S : World → Prop} (hsel : Region.noSelect ops = true) (hQ : ∀ c a a' w, Q (.panic c) a w → Q (.panic c) a' w) :
    ∀ (l : List (Nat × Bool)) (listed : Array Bool) (a : Act) (w : World), orderB ops l listed = true → wpSeq P ops Q S l a w → wpAnyH P .any ops Q S l.length listed a w
  | [], listed, a, w, hB, h => ⟨by simpa [orderB] using hB, h⟩
  | (i, true) :: r, listed, a, w, hB, h => by
    simp only [orderB, Bool.and_eq_true] at hB
    obtain ⟨o, v, ho, hy, hS, hr⟩ := h
    exact wpAnyH_take ho hsel hB.1.2 hB.1.1 (fun c a w => hQ c _ _ w) hy hS (held_of_seq hsel hQ r _ _ _ hB.2 hr)
  | (i, false) :: r, listed, a, w, hB, h => by
    simp only [orderB, Bool.and_eq_true, decide_eq_true_eq] at hB
    obtain ⟨o, ho, hw, hwp⟩ := h
    exact held_one i ho hB.1 hw (Oper.wp_mono (fun a' w' hh => ⟨hh.1, held_of_seq hsel hQ r _ _ _ hB.2 hh.2⟩) hwp)

/-- What is asked of an operation, by a table of the region. -/
theorem spec_at {ops : Array Oper} {L : List (Option Tmp × Op × Option (Nat × Bool))} (h : ops.toList.map (fun o => (o.dst, o.op, o.guard)) = L) {i : Nat} {d : Option Tmp} {p : Op} {q : Option (Nat × Bool)} (e : L[i]? = some (d, p, q)) :
    ∃ o, ops[i]? = some o ∧ o.dst = d ∧ o.op = p ∧ o.guard = q := by
  rw [← h, List.getElem?_map, Array.getElem?_toList] at e
  cases ho : ops[i]? with
  | none => rw [ho] at e; cases e
  | some o =>
    rw [ho] at e
    simp only [Option.map_some, Option.some.injEq, Prod.mk.injEq] at e
    exact ⟨o, rfl, e.1, e.2.1, e.2.2⟩
theorem wanted_of {ops : Array Oper} {o : Oper} {ts : Array Value} (h : o.guard = none) : Region.wanted o (yielded ops ts) = true := by simp [Region.wanted, h]

/-- A read that is taken first. -/
theorem seq_take {P : Program} {ops : Array Oper} {Q : Exit → Act → World → Prop} {S : World → Prop} {i : Nat} {r : List (Nat × Bool)} {a : Act} {w : World} {L : List (Option Tmp × Op × Option (Nat × Bool))} (h : ops.toList.map (fun o => (o.dst, o.op, o.guard)) = L) (d : Tmp) (p : Op)
    (e : L[i]? = some (some d, p, none)) (v : Value) (hy : ∀ o : Oper, o.op = p → ∀ w, S w → (execOp a.eval o).run P w = .ok (.value v) w) (hS : S w) (hr : wpSeq P ops Q S r (a.put (some d) v) w) : wpSeq P ops Q S ((i, true) :: r) a w := by
  obtain ⟨o, ho, hd, hp, hg⟩ := spec_at h e
  refine ⟨o, v, ho, .inl ⟨wanted_of hg, hy o hp⟩, hS, ?_⟩
  rw [hd]
  exact hr
theorem seq_one {P : Program} {ops : Array Oper} {Q : Exit → Act → World → Prop} {S : World → Prop} {i : Nat} {r : List (Nat × Bool)} {a : Act} {w : World} {L : List (Option Tmp × Op × Option (Nat × Bool))} (h : ops.toList.map (fun o => (o.dst, o.op, o.guard)) = L) (d : Option Tmp) (p : Op)
    (e : L[i]? = some (d, p, none)) (hw : ∀ o : Oper, o.dst = d → o.op = p → o.wp P a w (fun a' w' => S w' ∧ wpSeq P ops Q S r a' w') Q) : wpSeq P ops Q S ((i, false) :: r) a w := by
  obtain ⟨o, ho, hd, hp, hg⟩ := spec_at h e
  exact ⟨o, ho, wanted_of hg, hw o hd hp⟩
end Go.Proofs.YtnbamljaiahmdaaGreat

namespace Go.Proofs.YtnbamljaiahmdaaGreat
open Go Go.RowKit

inductive Tr where
  | nil
  | take (i : Nat) (t : Tr)
  | one (i : Nat) (t : Tr)
  | two (i : Nat) (t : Tr) (j : Nat) (u : Tr)
def ordT (ops : Array Oper) : Tr → Nat → Array Bool → Bool
  | .nil, n, l => decide (n = 0) && (Region.ready .any ops l).isEmpty
  | .take i t, n, l => decide (0 < n) && (Region.ready .any ops l).contains i && Region.free .any ops l i && ordT ops t (n - 1) (l.setIfInBounds i true)
  | .one i t, n, l => decide (0 < n) && decide (Region.ready .any ops l = [i]) && ordT ops t (n - 1) (l.setIfInBounds i true)
  | .two i t j u, n, l => decide (0 < n) && decide (Region.ready .any ops l = [i, j]) && ordT ops t (n - 1) (l.setIfInBounds i true) && ordT ops u (n - 1) (l.setIfInBounds j true)
def wpT (P : Program) (ops : Array Oper) (Q : Exit → Act → World → Prop) : Tr → Act → World → Prop
  | .nil, a, w => Q .normal a w
  | .take i t, a, w => ∃ o v, ops[i]? = some o ∧ YieldsIf P ops (fun _ => True) o v a ∧ wpT P ops Q t (a.put o.dst v) w
  | .one i t, a, w => ∃ o, ops[i]? = some o ∧ Region.wanted o (yielded ops a.tmps) = true ∧ o.wp P a w (fun a' w' => wpT P ops Q t a' w') Q
  | .two i t j u, a, w => (∃ o, ops[i]? = some o ∧ Region.wanted o (yielded ops a.tmps) = true ∧ o.wp P a w (fun a' w' => wpT P ops Q t a' w') Q) ∧ ∃ o, ops[j]? = some o ∧ Region.wanted o (yielded ops a.tmps) = true ∧ o.wp P a w (fun a' w' => wpT P ops Q u a' w') Q
theorem op_in {P : Program} {ops : Array Oper} {Q : Exit → Act → World → Prop} {K : Act → World → Prop} {i : Nat} {o : Oper} {a : Act} {w : World} (ho : ops[i]? = some o) (hw : Region.wanted o (yielded ops a.tmps) = true) (h : o.wp P a w K Q) : wpOp P ops Q i K a w := by
  unfold wpOp
  rw [ho]
  dsimp only
  rw [if_pos hw]
  exact .inl h
theorem any_of_tree {P : Program} {ops : Array Oper} {Q : Exit → Act → World → Prop} (hsel : Region.noSelect ops = true) (hQ : ∀ c a t v w, Q (.panic c) (a.put t v) w → Q (.panic c) a w) :
    ∀ (t : Tr) (n : Nat) (l : Array Bool) (a : Act) (w : World), ordT ops t n l = true → wpT P ops Q t a w → wpAnyH P .any ops Q (fun _ => True) n l a w
  | .nil, n, l, a, w, hB, h => by
    simp only [ordT, Bool.and_eq_true, decide_eq_true_eq] at hB
    obtain ⟨rfl, hB⟩ := hB
    exact ⟨by simpa using hB, h⟩
  | .take i t, n, l, a, w, hB, h => by
    simp only [ordT, Bool.and_eq_true, decide_eq_true_eq] at hB
    obtain ⟨⟨⟨hn, h1⟩, h2⟩, h3⟩ := hB
    obtain ⟨m, rfl⟩ : ∃ m, n = m + 1 := ⟨n - 1, by omega⟩
    obtain ⟨o, v, ho, hy, hr⟩ := h
    exact wpAnyH_take ho hsel h2 h1 (fun c a w => hQ c _ _ _ w) hy trivial (any_of_tree hsel hQ t m _ _ _ h3 hr)
  | .one i t, n, l, a, w, hB, h => by
    simp only [ordT, Bool.and_eq_true, decide_eq_true_eq] at hB
    obtain ⟨⟨hn, h1⟩, h2⟩ := hB
    obtain ⟨m, rfl⟩ : ∃ m, n = m + 1 := ⟨n - 1, by omega⟩
    obtain ⟨o, ho, hw, hwp⟩ := h
    exact held_one i ho h1 hw (Oper.wp_mono (fun a' w' hh => ⟨trivial, any_of_tree hsel hQ t m _ _ _ h2 hh⟩) hwp)
  | .two i t j u, n, l, a, w, hB, h => by
    simp only [ordT, Bool.and_eq_true, decide_eq_true_eq] at hB
    obtain ⟨⟨⟨hn, h1⟩, h2⟩, h3⟩ := hB
    obtain ⟨m, rfl⟩ : ∃ m, n = m + 1 := ⟨n - 1, by omega⟩
    obtain ⟨⟨o, ho, hw, hwp⟩, ⟨o', ho', hw', hwp'⟩⟩ := h
    refine wpAnyH_all h1 (by simp) (fun k hk => ?_)
    simp only [List.mem_cons, List.not_mem_nil, or_false] at hk
    rcases hk with rfl | rfl
    · exact op_in ho hw (Oper.wp_mono (fun a' w' hh => ⟨trivial, any_of_tree hsel hQ t m _ _ _ h2 hh⟩) hwp)
    · exact op_in ho' hw' (Oper.wp_mono (fun a' w' hh => ⟨trivial, any_of_tree hsel hQ u m _ _ _ h3 hh⟩) hwp')

section
variable {P : Program} {ops : Array Oper} {Q : Exit → Act → World → Prop} {i j : Nat} {t u : Tr} {a : Act} {w : World} {L : List (Option Tmp × Op × Option (Nat × Bool))}
theorem tr_take (h : ops.toList.map (fun o => (o.dst, o.op, o.guard)) = L) (d : Tmp) {p : Op} (e : L[i]? = some (some d, p, none)) (v : Value)
    (hy : ∀ o : Oper, o.op = p → ∀ w, (execOp a.eval o).run P w = .ok (.value v) w) (hr : wpT P ops Q t (a.put (some d) v) w) : wpT P ops Q (.take i t) a w := by
  obtain ⟨o, ho, hd, hp, hg⟩ := spec_at h e
  refine ⟨o, v, ho, .inl ⟨wanted_of hg, fun w _ => hy o hp w⟩, ?_⟩
  rw [hd]
  exact hr
theorem tr_one (h : ops.toList.map (fun o => (o.dst, o.op, o.guard)) = L) (d : Option Tmp) {p : Op} (e : L[i]? = some (d, p, none))
    (hw : ∀ o : Oper, o.dst = d → o.op = p → o.wp P a w (fun a' w' => wpT P ops Q t a' w') Q) : wpT P ops Q (.one i t) a w := by
  obtain ⟨o, ho, hd, hp, hg⟩ := spec_at h e
  exact ⟨o, ho, wanted_of hg, hw o hd hp⟩
theorem tr_two (h1 : wpT P ops Q (.one i t) a w) (h2 : wpT P ops Q (.one j u) a w) : wpT P ops Q (.two i t j u) a w := ⟨h1, h2⟩
/-- A load, alone. -/
theorem tr_load (h : ops.toList.map (fun o => (o.dst, o.op, o.guard)) = L) (d : Tmp) {p : Op} (e : L[i]? = some (some d, p, none)) (v : Value)
    (hy : ∀ o : Oper, o.op = p → (execOp a.eval o).run P w = .ok (.value v) w) (hr : wpT P ops Q t (a.put (some d) v) w) : wpT P ops Q (.one i t) a w := by
  refine tr_one h (some d) e (fun o hd hp => ?_)
  simp only [Oper.wp, hy o hp, Oper.upon, hd]
  exact hr
end
end Go.Proofs.YtnbamljaiahmdaaGreat
