/-
  Two arrays of four bytes, compared.
-/
import Derived.Test.YtfejmaffgbbkeaaMarks
import Derived.ChangeKeysEq
import Derived.Laws.StructEq
namespace Go.Proofs.Ytfejmaffgbbkeaa
open Go Go.RowKit

theorem byte_ne {x y : UInt8} (h : x ≠ y) : ((x.toNat : Int) == (y.toNat : Int)) = false := by
  rw [beq_eq_false_iff_ne]
  intro e
  exact h (UInt8.toNat_inj.1 (by omega))

set_option maxRecDepth 100000 in
theorem eq_ag4 (x0 x1 x2 x3 y0 y1 y2 y3 : UInt8) (w : World) :
    (Op.equalIn 10000 38 (ag4 x0 x1 x2 x3) (ag4 y0 y1 y2 y3)).run Try.prog w = .ok (decide ([x0, x1, x2, x3] = [y0, y1, y2, y3])) w := by
  obtain ⟨i, hi⟩ : ∃ i, Try.prog.info? 5 = some i := Option.isSome_iff_exists.1 (by kernel_rfl)
  have hc : Try.prog.cellsOf 5 = 1 := by kernel_rfl
  have p : ∀ (a b c d : UInt8) (w : World), (part 5 #[bv a, bv b, bv c, bv d] 0).run Try.prog w = .ok (bv a) w ∧ (part 5 #[bv a, bv b, bv c, bv d] 1).run Try.prog w = .ok (bv b) w ∧ (part 5 #[bv a, bv b, bv c, bv d] 2).run Try.prog w = .ok (bv c) w ∧ (part 5 #[bv a, bv b, bv c, bv d] 3).run Try.prog w = .ok (bv d) w :=
    fun a b c d w => ⟨by kernel_rfl, by kernel_rfl, by kernel_rfl, by kernel_rfl⟩
  have q : ∀ (a b : UInt8) (w : World), (Op.equalIn 9999 5 (bv a) (bv b)).run Try.prog w = .ok ((a.toNat : Int) == (b.toNat : Int)) w := fun a b w => run_equalIn_int w 9998 _ _ _ _ _ Try.underlying5
  have e := run_equalIn_array w 9999 #[bv x0, bv x1, bv x2, bv x3] #[bv y0, bv y1, bv y2, bv y3] Try.underlying38 hi
  rw [hc] at e
  refine e.trans ?_
  show (Op.eqItems 9999 5 1 _ _ [0, 1, 2, 3]).run Try.prog w = _
  obtain ⟨a0, a1, a2, a3⟩ := p x0 x1 x2 x3 w
  obtain ⟨b0, b1, b2, b3⟩ := p y0 y1 y2 y3 w
  by_cases h0 : x0 = y0
  · by_cases h1 : x1 = y1
    · by_cases h2 : x2 = y2
      · by_cases h3 : x3 = y3
        · subst h0; subst h1; subst h2; subst h3
          simp [Op.eqItems, Sem.run_bind, a0, a1, a2, a3, q]
        · have g3 := byte_ne h3
          subst h0; subst h1; subst h2
          simp [Op.eqItems, Sem.run_bind, a0, a1, a2, a3, b0, b1, b2, b3, q, g3, h3]
      · have g2 := byte_ne h2
        subst h0; subst h1
        simp [Op.eqItems, Sem.run_bind, a0, a1, a2, b0, b1, b2, q, g2, h2]
    · have g1 := byte_ne h1
      subst h0
      simp [Op.eqItems, Sem.run_bind, a0, a1, b0, b1, q, g1, h1]
  · have g0 := byte_ne h0
    simp [Op.eqItems, Sem.run_bind, a0, b0, q, g0, h0]
theorem eq_no {x0 x1 x2 x3 y0 y1 y2 y3 : UInt8} (h : [x0, x1, x2, x3] ≠ [y0, y1, y2, y3]) (w : World) :
    (Op.equalIn 10000 38 (ag4 x0 x1 x2 x3) (ag4 y0 y1 y2 y3)).run Try.prog w = .ok false w := by
  rw [eq_ag4, decide_eq_false h]
theorem eq_yes (x0 x1 x2 x3 : UInt8) (w : World) :
    (Op.equalIn 10000 38 (ag4 x0 x1 x2 x3) (ag4 x0 x1 x2 x3)).run Try.prog w = .ok true w := by
  rw [eq_ag4, decide_eq_true rfl]
end Go.Proofs.Ytfejmaffgbbkeaa
