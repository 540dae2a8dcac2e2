/-
  math/bits.Mul, slices.Repeat, disk.New.
-/
import Derived.Test.YtfgngmoeedegiaaMake
namespace Go.Proofs.Ytfgngmoeedegiaa
open Go Go.RowKit

theorem wrap_u64 (n : Nat) (hn : n < 4294967296) : IntKind.u64.wrap (n : Int) = n := by
  have : IntKind.u64.wrap (n : Int) = (n : Int) % 18446744073709551616 := rfl
  rw [this]
  omega
theorem and_u64 (n : Nat) (hn : n < 4294967296) : bits .and .u64 (n : Int) 4294967295 = n := by
  have e : ∀ c : Nat, c < 4294967296 → (BitVec.ofInt 64 (c : Int)).toNat = c := fun c hc => by
    rw [BitVec.ofInt_natCast, BitVec.toNat_ofNat]; exact Nat.mod_eq_of_lt (by omega)
  show IntKind.u64.wrap ((BitVec.ofInt 64 (n : Int) &&& BitVec.ofInt 64 ((4294967295 : Nat) : Int)).toNat : Int) = _
  rw [BitVec.toNat_and, e n hn, e 4294967295 (by omega)]
  have : n &&& 4294967295 = n := by
    rw [show (4294967295 : Nat) = 2 ^ 32 - 1 by decide, Nat.and_two_pow_sub_one_eq_mod]
    omega
  rw [this, wrap_u64 n hn]

set_option maxRecDepth 100000 in
theorem mul64_one (w : World) (n : Nat) (hn : n < 4294967296) :
    Calls Try.prog 44 #[.int .u64 1, .int .u64 n] w fun e w' => e = .returned (.tuple #[.int .u64 0, .int .u64 n]) ∧ w' = w := by
  have b1 : bits .and .u64 (n : Int) 4294967295 = n := and_u64 n hn
  have b0 : bits .and .u64 1 4294967295 = 1 := and_u64 1 (by omega)
  have bz : bits .and .u64 0 4294967295 = 0 := and_u64 0 (by omega)
  have wn : IntKind.u64.wrap (n : Int) = n := wrap_u64 n hn
  have wz : IntKind.u64.wrap 0 = 0 := wrap_u64 0 (by omega)
  have d1 : (n : Int) / 4294967296 = 0 := by omega
  clear hn
  go_enter Try.func44, Try.ntmps44
  go_wp2
  go_ret2
  exact ⟨rfl, rfl⟩

set_option maxRecDepth 100000 in
theorem mul_one' (w : World) (n : Nat) (hn : n < 4294967296) :
    Calls Try.prog 40 #[.int .u64 1, .int .u64 n] w fun e w' => e = .returned (.tuple #[.int .u64 0, .int .u64 n]) ∧ w' = w := by
  go_enter Try.func40, Try.ntmps40
  go_wp2_with fail
  refine (mul64_one _ n hn).mono ?_
  rintro e w' ⟨rfl, rfl⟩
  go_wp2
  go_ret2
  exact ⟨rfl, rfl⟩

/-- v's, and then nil ones. -/
def laidS (v : Value) (n j : Nat) : List Value := List.replicate j v ++ List.replicate (n - j) (.slice none 0 0)
theorem laidS_len (v : Value) (n j : Nat) (h : j ≤ n) : (laidS v n j).length = n := by unfold laidS; rw [List.length_append, List.length_replicate, List.length_replicate]; omega
theorem laidS_none (v : Value) (n : Nat) : List.replicate n (.slice none 0 0) = laidS v n 0 := by unfold laidS; rw [List.replicate_zero, List.nil_append, Nat.sub_zero]
theorem laidS_all (v : Value) (n : Nat) : laidS v n n = List.replicate n v := by unfold laidS; rw [Nat.sub_self, List.replicate_zero, List.append_nil]
theorem laidS_splice (v : Value) (n j m : Nat) : splice (laidS v n j) j (List.replicate m v) = laidS v n (j + m) := by
  unfold laidS
  rw [splice_at _ _ j List.length_replicate, List.length_replicate, List.drop_replicate, ← List.append_assoc, List.replicate_append_replicate, Nat.sub_sub]
theorem laidS_get (v : Value) (n j i : Nat) (h : i < j) : (laidS v n j)[i]? = some v := by
  unfold laidS
  rw [List.getElem?_append_left (by rw [List.length_replicate]; exact h), List.getElem?_replicate, if_pos h]

/-- A row without spare is known whole. -/
theorem OwV.whole {w : World} {base : Nat} {e : TypeId} {g n : Nat} {vs : List Value} (h : OwV w base e (some ⟨g, 0, none⟩) n n vs) : w.heap[g]? = some (.cells vs.toArray e (0, 0)) := by
  obtain ⟨_, cur, hg, _, _, h3, h4⟩ := h.block rfl
  rw [List.take_of_length_le (by simp [h3])] at h4
  rw [hg, ← h4]

set_option maxRecDepth 100000 in
set_option maxHeartbeats 800000 in
theorem repeat_ok (w : World) (g0 : Nat) (A : Option Addr) (c : Nat) (hg0 : w.heap[g0]? = some (.cells #[.slice A 256 c] 61 (0, 0))) (n : Nat) (h1 : 1 ≤ n) (hn : n ≤ 4096) :
    Calls Try.prog 30 #[.slice (some ⟨g0, 0, none⟩) 1 1, .int .i64 n] w fun e w' => ∃ g, e = .returned (.slice (some ⟨g, 0, none⟩) n n) ∧
      OwV w' w.heap.size 61 (some ⟨g, 0, none⟩) n n (List.replicate n (.slice A 256 c)) ∧ Mod (fun _ => False) w w' := by
  have Hfn := Lib.hid (laidS_none (.slice A 256 c) n)
  have wn : IntKind.u64.wrap (n : Int) = n := wrap_u64 n (by omega)
  have wi : wrap64 (n : Int) = n := by unfold wrap64; omega
  have hd0 : decide ((n : Int) < 0) = false := by simp
  have hd1 : ¬ (9223372036854775807 : Int) < n := by omega
  have Hg0 := Lib.hid hg0
  clear hg0
  go_enter Try.func30, Try.ntmps30
  go_wp2_with fail
  refine (mul_one' _ n (by omega)).mono ?_
  rintro e w' ⟨rfl, rfl⟩
  go_wp2_with (at_make; refine wpList_mk (.tmp 29) (.tmp 29) secElem rfl rfl rfl n .i64 .i64 n n rfl rfl rfl rfl (by omega) (by unfold maxLen; omega) _ Hfn.out ?_)
  intro w1 hown hm
  obtain ⟨g, hg⟩ : ∃ g, g = w'.heap.size := ⟨_, rfl⟩
  rw [← hg]
  rw [← hg] at hown
  have hgl := (hown.lt g rfl).2
  have hml : n ≤ maxLen := by unfold maxLen; omega
  have Hml := Lib.hid hml
  have Hhg := Lib.hid hg
  have Hw1 := Lib.hid hown.whole
  have Hm := Lib.hid hm
  have hc0 : w1.heap[g0]? = some (.cells #[.slice A 256 c] 61 (0, 0)) := (hm.block _ (Array.getElem?_eq_some_iff.1 Hg0.out).1 id).trans Hg0.out
  obtain ⟨CX, hCX⟩ : ∃ CX : List Value, CX = List.replicate 1 (.slice A 256 c) := ⟨_, rfl⟩
  have Hn2 : Hid (CX.length = Nat.min 1 n) := by show CX.length = min 1 n; rw [hCX, List.length_replicate]; omega
  have Hf2 : Hid (0 + CX.length ≤ (laidS (.slice A 256 c) n 0).length) := by show 0 + CX.length ≤ _; rw [hCX, List.length_replicate, laidS_len _ _ _ (by omega)]; omega
  have Hone : Hid (∀ v ∈ CX, v.oneCell' = true) := by
    show ∀ v ∈ CX, v.oneCell' = true
    rw [hCX]; intro v hv; rw [List.eq_of_mem_replicate hv]; rfl
  have Hp2 : Hid (0 < CX.length → ∃ ad, some (⟨g0, 0, none⟩ : Addr) = some ad ∧ ∀ j v, CX[j]? = some v → w1.cell? (ad.add j) = some v) := by
    intro _
    refine ⟨_, rfl, ?_⟩
    rw [hCX]
    exact World.news_of_block hc0
  have HCX := Lib.hid hCX
  have HCl : Hid (CX.length = 1) := by show _ = _; rw [hCX, List.length_replicate]
  clear hown hm hg hc0 hCX hml
  go_wp2_with (with_reducible refine wpList_copyAt (.tmp 31) (.tmp 32) secElem rfl rfl rfl rfl Hw1.out Hn2.out Hp2.out Hf2.out Hone.out ?_)
  intro w2 hg2 hm2 hs2
  rw [HCX.out, laidS_splice, Nat.zero_add] at hg2
  rw [HCl.out]
  have Hg2 := Lib.hid hg2
  have Hm2 := Lib.hid hm2
  clear hg2 hs2 hm2 Hn2 Hf2 Hp2 Hone HCX HCl Hw1
  go_wp2_with fail
  go_loopw [8] (fun i wr => ∃ j : Nat, 1 ≤ j ∧ j ≤ n ∧ i = .int .i64 j ∧ wr.heap[g]? = some (.cells (laidS (.slice A 256 c) n j).toArray 61 (0, 0)) ∧ Mod (fun k => k = g) w1 wr) (fun i _ => n - (intOf i).toNat)
  case atStart => exact ⟨1, by omega, h1, rfl, Hg2.out, Hm2.out⟩
  case round =>
    obtain ⟨j, hj1, hj, rfl, hgr, hmr⟩ := hrel
    by_cases hlt : j < n
    · obtain ⟨m, hm⟩ : ∃ m, m = min j (n - j) := ⟨_, rfl⟩
      have hm1 : 1 ≤ m ∧ j + m ≤ n := by omega
      obtain ⟨CX, hCX⟩ : ∃ CX : List Value, CX = List.replicate m (.slice A 256 c) := ⟨_, rfl⟩
      have HCl : Hid (CX.length = m) := by show _ = _; rw [hCX, List.length_replicate]
      have Hn2 : Hid (CX.length = Nat.min j (n - j)) := by show CX.length = min j (n - j); rw [HCl.out, hm]
      have Hf2 : Hid (j + CX.length ≤ (laidS (.slice A 256 c) n j).length) := by show j + CX.length ≤ _; rw [HCl.out, laidS_len _ _ _ hj]; omega
      have Hone : Hid (∀ v ∈ CX, v.oneCell' = true) := by
        show ∀ v ∈ CX, v.oneCell' = true
        rw [hCX]; intro v hv; rw [List.eq_of_mem_replicate hv]; rfl
      have Hp2 : Hid (0 < CX.length → ∃ ad, some (⟨g, 0, none⟩ : Addr) = some ad ∧ ∀ i v, CX[i]? = some v → wr.drew.cell? (ad.add i) = some v) := by
        intro _
        refine ⟨_, rfl, ?_⟩
        rw [hCX]
        intro i v hv
        have hi : i < m := by have := (List.getElem?_eq_some_iff.1 hv).1; rw [List.length_replicate] at this; exact this
        have hadd : (⟨g, 0, none⟩ : Addr).add i = ⟨g, i, none⟩ := by unfold Addr.add; split <;> simp_all
        rw [List.getElem?_replicate, if_pos hi] at hv
        rw [hadd, cell_of_row wr.drew g i _ _ _ hgr, List.getElem?_toArray, laidS_get _ _ _ _ (by omega), ← hv]
      have Hgr : Hid (wr.drew.heap[g]? = some (.cells (laidS (.slice A 256 c) n j).toArray 61 (0, 0))) := hgr
      have HCX := Lib.hid hCX
      have Hmr := Lib.hid hmr
      clear hCX hgr hmr hm
      have hj2 : (j : Int) ≤ n := by omega
      have hj3 : (j : Int) < n := by omega
      have hj4 : ¬ n = j := by omega
      go_wp2_with fail
      go_region_law ((rw [if_pos (by simp [Region.wanted])]); refine wp_copyTo (dp := some ⟨g, j, none⟩) (dLen := n - j) (dCap := n - j) (sp := some ⟨g, 0, none⟩) (sLen := j) (sCap := n) (off := j) (.tmp 41) (.tmp 44) secElem rfl (by go_simp) (by go_simp) Hgr.out Hn2.out (fun hp => ⟨rfl, Hp2.out hp⟩) Hf2.out Hone.out ?_; intro w3 hg3 hm3 hs3)
      all_goals
        rw [HCX.out, laidS_splice] at hg3
        have Hg3 := Lib.hid hg3
        have Hm3 : Hid (Mod (fun k => k = g) w1 w3) := Hmr.out.drew.trans hm3 (fun _ _ e => e)
        clear hg3 hm3 hs3
        rw [HCl.out]
        have hjm : IntKind.i64.wrap ((j : Int) + m) = ((j + m : Nat) : Int) := by rw [IntKind.wrap_i64]; omega
        rw [hjm]
        go_simp
        go_wp2
        go_roundw
        case rel =>
          refine ⟨_, _, _, _, _, _, _, _, _, _, _, _, _, _, ?_, rfl⟩
          exact ⟨j + m, by omega, by omega, by go_num, Hg3.out, Hm3.out⟩
        case measure => simp [intOf]; omega
    · obtain rfl : j = n := by omega
      rw [laidS_all] at hgr
      have Hgr := Lib.hid hgr
      clear hgr
      go_wp2
      go_ret
      have hof := OwV.of_block (base := w'.heap.size) (w := wr) (g := g) (by rw [Hhg.out]; exact Nat.le_refl _) Hgr.out (by rw [List.length_replicate]; exact Hml.out)
      rw [List.length_replicate] at hof
      exact ⟨g, rfl, hof, Hm.out.trans hmr (fun i hi e => by have := Hhg.out; omega)⟩

theorem map_replicate_v (n : Nat) (s : Sct) : (List.replicate n s).map Sct.v = List.replicate n s.v := by rw [List.map_replicate]

set_option maxRecDepth 100000 in
theorem new_ok (w : World) (n : Int) (h1 : 1 ≤ n) (hn : n ≤ 4096) :
    Calls Try.prog 10 #[.int .i64 n] w fun e w' => ∃ x, e = .returned (.tuple #[.pointer (some ⟨x.p, 0, none⟩), .int .i64 0]) ∧ Made w w' w.heap.size x (Dk.fresh (List.replicate n.toNat (fill 0))) := by
  obtain ⟨m, rfl⟩ := Int.eq_ofNat_of_zero_le (show 0 ≤ n by omega)
  have hd0 : decide ((m : Int) < 1) = false := by simp; omega
  have hd1 : decide ((4096 : Int) < m) = false := by simp; omega
  have Hz : Hid (List.replicate 256 (.int .u8 0) = (fill 0).map bv) := by
    show _ = _
    unfold fill
    rw [List.map_replicate]
    rfl
  have he : Elem Try.prog 61 5 (.int .u8 0) 1 := Elem.mk_ Try.underlying61 rfl (by kernel_rfl)
  have He := Lib.hid he
  clear he
  go_enter Try.func10, Try.ntmps10
  go_wp2_with (at_make; refine wpList_mk (.const (.int .i64 256)) (.const (.int .i64 256)) He.out rfl rfl rfl 256 .i64 .i64 256 256 rfl rfl rfl rfl (by omega) (by unfold maxLen; omega) _ Hz.out ?_)
  intro w1 hown hm
  have hsl := hown.sl
  have hlt := hown.lt w.heap.size rfl
  have Hsl := Lib.hid hsl
  have Hlt := Lib.hid hlt
  have Hm := Lib.hid hm
  obtain ⟨g, hg⟩ : ∃ g, g = w.heap.size := ⟨_, rfl⟩
  rw [← hg] at Hsl Hlt ⊢
  have Hg := Lib.hid hg
  clear hown hm hsl hlt hg
  go_wp2_with fail
  refine (repeat_ok _ w1.heap.size (some ⟨g, 0, none⟩) 256 (heap_alloc_new w1 _) m (by omega) (by omega)).mono ?_
  rintro e w2 ⟨g2, rfl, hown2, hm2⟩
  have hm12 : Mod (fun _ => False) w1 w2 := ((Mod.refl _ w1).alloc _).trans hm2 (fun _ _ h => h)
  have hs2 : (⟨some ⟨g, 0, none⟩, 256, fill 0⟩ : Sct).At w2 (fun k => k = g2) := by
    refine ⟨Hsl.out.mod hm12 (fun _ _ _ => id), fun k hk e => ?_⟩
    have h1 := (hown2.lt g2 rfl).1
    have h2 := Hlt.out.2
    simp [blkOf] at hk
    rw [World.size_alloc] at h1
    omega
  have hown3 : OwV w2 w.heap.size 61 (some ⟨g2, 0, none⟩) (List.replicate m (⟨some ⟨g, 0, none⟩, 256, fill 0⟩ : Sct)).length m ((List.replicate m (⟨some ⟨g, 0, none⟩, 256, fill 0⟩ : Sct)).map Sct.v) := by
    rw [map_replicate_v, List.length_replicate]
    exact hown2.rebase (fun k hk => by
      have h1 := (hown2.lt k hk).1
      rw [World.size_alloc] at h1
      have := Hm.out.size
      omega)
  have hmd := made_ok w2 w.heap.size g2 m (List.replicate m ⟨some ⟨g, 0, none⟩, 256, fill 0⟩) hown3 (by rw [List.length_replicate]; omega) (by rw [List.length_replicate]; omega) (by have := Hm.out.size; have := hm12.size; omega)
    (fun s hs => by rw [List.eq_of_mem_replicate hs]; exact hs2)
  rw [List.length_replicate, List.map_replicate] at hmd
  have Hmd := Lib.hid hmd
  have Hm2 : Hid (Mod (fun _ => False) w w2) := Hm.out.trans hm12 (fun _ _ h => h)
  clear hown2 hm2 hm12 hs2 hown3 hmd Hsl Hlt Hm
  go_wp2_with fail
  refine Hmd.out.mono ?_
  rintro e w3 ⟨x, rfl, hM⟩
  have HM := Lib.hid hM
  clear hM
  go_wp2
  go_ret2
  exact ⟨x, rfl, HM.out.1, HM.out.2.1, HM.out.2.2.1, Hm2.out.trans HM.out.2.2.2 (fun _ _ h => h)⟩

set_option maxRecDepth 100000 in
theorem new_no (w : World) (n : Int) (h : n < 1 ∨ 4096 < n) :
    Calls Try.prog 10 #[.int .i64 n] w fun e w' => e = .returned (.tuple #[.pointer none, .int .i64 1]) ∧ w' = w := by
  by_cases h1 : n < 1
  · have hd : decide (n < 1) = true := by simpa using h1
    clear h h1
    go_enter Try.func10, Try.ntmps10
    go_wp2
    go_ret2
    exact ⟨rfl, rfl⟩
  · have hd : decide (n < 1) = false := by simpa using h1
    have hd2 : decide (4096 < n) = true := by simp; omega
    clear h h1
    go_enter Try.func10, Try.ntmps10
    go_wp2
    go_ret2
    exact ⟨rfl, rfl⟩
end Go.Proofs.Ytfgngmoeedegiaa
