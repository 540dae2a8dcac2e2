/-
  make, in our words; bobbinlaw03.Sector.
-/
import Derived.Test.YtfgngmoeedegiaaSync
import Derived.OwnWalk
import Derived.Laws.OwnMore
namespace Go.Proofs.Ytfgngmoeedegiaa
open Go Go.RowKit

theorem wpList_mk {P : Program} {w : World} {ops : Array Oper} {rest : List Oper} {o : Oper} {a : Act} {Q : Exit → Act → World → Prop} (l c : Operand) {t e : TypeId} {z : Value} {bytes : Nat}
    (he : Elem P t e z bytes) (hz : z.cells = #[z]) (hgd : o.guard = none) (hop : o.op = Op.makeSlice t l c) (n : Nat) (kl kc : IntKind) (L C : Int) (hl : a.eval l = .int kl L) (hc : a.eval c = .int kc C) (hL : L = (n : Int)) (hC : C = (n : Int))
    (hb : bytes * n ≤ 281474976710656) (h63 : n ≤ maxLen) (Z : List Value) (hZ : List.replicate n z = Z)
    (h : ∀ w', OwV w' w.heap.size e (some ⟨w.heap.size, 0, none⟩) n n Z → Mod (fun _ => False) w w' → wpList P ops Q rest (a.put o.dst (.slice (some ⟨w.heap.size, 0, none⟩) n n)) w') :
    wpList P ops Q (o :: rest) a w := by
  obtain ⟨ht, _, i, hi, hz0, hsz, hby⟩ := he
  refine wpList_make_full w hgd l c t hop w.heap.size e i z 1 ht hi hz0 hsz kl kc L C n hl hc hL hC (by rw [hby]; exact hb) h63 (Nat.le_refl _) ?_
  intro w' hown hg
  rw [hz, Nat.mul_one, toList_madeCells_one, hZ] at hown
  exact h w' hown ((Mod.refl _ w).grown hg (fun k e => by cases e))

/-- b's, and then zeros. -/
def filled (b : UInt8) (j : Nat) : List UInt8 := List.replicate j b ++ List.replicate (256 - j) 0
theorem filled_set (b : UInt8) (j : Nat) (hj : j < 256) : ((filled b j).map bv).set j (bv b) = (filled b (j + 1)).map bv := by
  rw [← List.map_set]
  congr 1
  unfold filled
  rw [List.set_append_right _ _ (by simp), List.length_replicate, Nat.sub_self, show 256 - j = (256 - (j + 1)) + 1 by omega, List.replicate_succ, List.set_cons_zero, List.replicate_succ' (n := j), List.append_assoc]
  rfl
/-- A sector of one byte. -/
def fill (b : UInt8) : List UInt8 := List.replicate 256 b
theorem fill_len (b : UInt8) : (fill b).length = 256 := List.length_replicate
theorem filled_all (b : UInt8) : filled b 256 = fill b := by
  unfold filled fill
  rw [Nat.sub_self]
  exact List.append_nil _
theorem filled_none (b : UInt8) : List.replicate 256 (.int .u8 0) = (filled b 0).map bv := by
  unfold filled
  rw [List.replicate_zero, List.nil_append, List.map_replicate]
  rfl

set_option maxRecDepth 100000 in
theorem sector_ok (w : World) (b : UInt8) :
    Calls Try.prog 12 #[bv b] w fun e w' => ∃ g, e = .returned (.slice (some ⟨g, 0, none⟩) 256 256) ∧ FreshR w w' (some ⟨g, 0, none⟩) 256 256 (fill b) := by
  have Hfn := Lib.hid (filled_none b)
  go_enter Try.func12, Try.ntmps12
  go_wp2_with (at_make; refine wpList_mk (.const (.int .i64 256)) (.const (.int .i64 256)) byteElem rfl rfl rfl 256 .i64 .i64 256 256 rfl rfl rfl rfl (by omega) (by unfold maxLen; omega) _ Hfn.out ?_)
  intro w1 hown hm
  have Hown := Lib.hid hown
  have Hm := Lib.hid hm
  obtain ⟨g, hg⟩ : ∃ g, g = w.heap.size := ⟨_, rfl⟩
  have Hg := Lib.hid hg
  rw [← hg]
  rw [← hg] at Hown
  clear hown hm hg
  go_wp2_with fail
  go_loopw [4] (fun i wr => ∃ j : Nat, j ≤ 256 ∧ i = .int .i64 j ∧ OwV wr g 5 (some ⟨g, 0, none⟩) 256 256 ((filled b j).map bv) ∧ Mod (fun k => k = g) w1 wr) (fun i _ => 256 - (intOf i).toNat)
  case atStart => exact ⟨0, by omega, rfl, Hown.out, Mod.refl _ _⟩
  case round =>
    obtain ⟨j, hj, rfl, hown, hm⟩ := hrel
    by_cases hlt : j < 256
    · obtain ⟨⟨u, cu, _⟩, fu⟩ := hown.spot j hlt
      have h1 := hown.set j (bv b)
      rw [filled_set b j hlt] at h1
      have H1 := Lib.hid h1
      have H2 := Lib.hid (hm.one j (bv b))
      clear h1 hown hm
      go_wp2
      go_roundw
      case rel => exact ⟨j + 1, by omega, by go_num, H1.out, H2.out⟩
      case measure => simp [intOf]; omega
    · obtain rfl : j = 256 := by omega
      rw [filled_all] at hown
      have H1 := Lib.hid hown
      clear hown
      go_wp2
      go_ret
      refine ⟨g, rfl, by rw [← Hg.out]; exact H1.out, Hm.out.trans hm (fun i hi e => by have := Hg.out; omega)⟩
end Go.Proofs.Ytfgngmoeedegiaa
