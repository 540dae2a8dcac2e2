/-
  What the laws' walks share: a list that was told, beside a map that calls turn.
-/
import Derived.Test.YtallokaboldflaaMOps
import Derived.StillTailTactics
namespace Go.Proofs.Ytallokaboldflaa
open Go Go.RowKit

/-- A list that was told: it lies apart from the map x. -/
structure Want (w : World) (x : MV) (A : Option Addr) (n c : Nat) (l : List Pr) : Prop where
  pl : Pl w A n c l
  lt : ∀ b, blkOf A = some b → 0 < n → b < w.heap.size
  apart : ∀ b, blkOf A = some b → 0 < n → ¬ x.M b
section
variable {w0 w w' : World} {x x' : MV} {A : Option Addr} {n c : Nat} {l L : List Pr}
theorem Want.keep (h : Want w x A n c l) (hm : Mod (fun _ => False) w w') : Want w' x A n c l :=
  ⟨h.pl.keep hm, fun b e hn => Nat.lt_of_lt_of_le (h.lt b e hn) hm.size, h.apart⟩
theorem Want.step (h : Want w x A n c l) (hm : Mod x.M w w') (hx : ∀ k, x'.M k → x.M k ∨ w.heap.size ≤ k) : Want w' x' A n c l :=
  ⟨h.pl.mod hm (fun k e hn => h.apart k e hn), fun b e hn => Nat.lt_of_lt_of_le (h.lt b e hn) hm.size, fun b e hn hM => (hx b hM).elim (h.apart b e hn) (fun hge => by have := h.lt b e hn; omega)⟩
theorem Want.of (hL : Live w0 w x L) (hp : Pl w' A n c l) (hn : ∀ k, blkOf A = some k → w.heap.size ≤ k) : Want w' x A n c l :=
  ⟨hp, fun b e h0 => by
    obtain ⟨b', o, rfl, hlt⟩ := hp.lt h0
    injection e with e
    exact e ▸ hlt, fun b e _ hM => by have := hn b e; have := (hL.low hM).2; omega⟩
theorem Live.drewN (h : Live w0 w x l) (q : Nat) : Live w0 (w.drewN q) x l := h.keep ((Mod.refl _ w).drewN q)
theorem mDel_none {k : Int} (h : mGet k l = none) : mDel k l = l := by
  rcases mGet_cases k l with ⟨y, _, _, e⟩ | ⟨hm, _⟩
  · rw [h] at e; cases e
  · exact mDel_miss hm
theorem opSet_srt (ops : List OpD) : ∀ l : List Pr, Srt l → Srt (ops.foldl opSet l) := by
  induction ops with
  | nil => intro l h; exact h
  | cons y ops ih => intro l h; exact ih _ h.set
theorem opDo_srt (ops : List OpD) : ∀ l : List Pr, Srt l → Srt (ops.foldl opDo l) := by
  induction ops with
  | nil => intro l h; exact h
  | cons y ops ih =>
    intro l h
    refine ih _ ?_
    unfold opDo
    split
    · exact h.del
    · exact h.set
theorem foldTake_len (ops : List OpD) (j : Nat) (hj : j ≤ 60) : ((ops.take j).foldl opSet []).length ≤ 60 := by
  have h1 := opSet_len (ops.take j) []
  have h2 : (ops.take j).length ≤ j := List.length_take_le _ _
  simp at h1
  omega
theorem foldTake_lenD (ops : List OpD) (j m : Nat) (hj : j ≤ m) : ((ops.take j).foldl opDo []).length ≤ m := by
  have h1 := opDo_len (ops.take j) []
  have h2 : (ops.take j).length ≤ j := List.length_take_le _ _
  simp at h1
  omega
end
end Go.Proofs.Ytallokaboldflaa
