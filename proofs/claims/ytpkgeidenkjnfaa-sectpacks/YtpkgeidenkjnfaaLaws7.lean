/-
  Words for the laws' walks: an answer of Same that is true; sizes.
-/
import Derived.Test.YtpkgeidenkjnfaaDecR4
import Derived.Test.YtpkgeidenkjnfaaRMath2
import Derived.Test.YtpkgeidenkjnfaaRefS
namespace Go.Proofs.Ytpkgeidenkjnfaa
open Go Go.RowKit

/-- Bytes in a block of their own. -/
theorem Sl.of_block {w : World} {q : Nat} {xs : List UInt8} (h : w.heap[q]? = some (.cells (xs.map bv).toArray 5 (0, 0))) : Sl w (some ⟨q, 0, none⟩) xs.length xs.length xs := Sl.lit xs h

def sameR (x y : RcD) : Bool := sameN x y && (sameV x.o y.o && sameV x.v y.v && (x.k == y.k))
theorem sameV_p {x y : VlD} (h : x.p = y.p) : sameV x y = true := by
  injection h with h1 h2
  unfold sameV
  rw [h1, h2, eqB_self]
  simp
theorem sameR_of {x y : RcD} (hk : x.k = y.k) (hf : ∀ i, 1 ≤ i → i ≤ 9 → x.f i = y.f i) (ho : x.o.p = y.o.p) (hv : x.v.p = y.v.p) : sameR x y = true := by
  unfold sameR
  rw [sameN_yes hf, sameV_p ho, sameV_p hv, hk]
  simp
theorem sameR_req {x y : RcD} {r : Rc} (hr : Req r x) (hy : y.p = r) : sameR x y = true := by
  subst hy
  exact sameR_of hr.k.symm (fun i a b => (hr.f i a b).symm) hr.o.symm hr.v.symm
theorem At.len {w : World} {x y : VlD} (hx : x.At w) {w' : World} (hy : y.At w') (h : x.p = y.p) : x.m = y.m := by
  injection h with h1 h2
  rw [← Sl.len hx, ← Sl.len hy, h2]
theorem Mod.end_ {w w' : World} (h : Mod (fun _ => False) w w') : Below w.heap.size w w' := h.below (Nat.le_refl _) (fun _ _ => id)

/-- How many bytes a record of a kind has. -/
def szB (k : Int) (m n : Nat) : Nat :=
  if k = 1 then 11 + m + n else if k = 2 then 10 + n else if k = 3 ∨ k = 4 ∨ k = 5 then 2 else if k = 6 ∨ k = 10 then 8 else if k = 7 then 1 else if k = 8 then 11 else if k = 9 then 6 else 5
theorem encV_size {w : World} {v : VlD} (hv : v.At w) (ho : okV v = true) : (encV v).length = 1 + v.m ∧ v.m ≤ 32 := by
  have hl := Sl.len hv
  unfold okV noneV at ho
  unfold encV
  cases hi : v.is with
  | true => rw [hi] at ho; simp at ho; simp [hl]; omega
  | false => rw [hi] at ho; simp at ho; simp [ho]
theorem encB_size {w : World} {x : RcD} (hx : x.At w) (h : mayB x = true) : (encB x).length = szB x.k x.o.m x.v.m ∧ (encB x).length ≤ 75 := by
  obtain ⟨fl, hfl, hok, _⟩ := mayB_kind h
  have ho := fun h => encV_size hx.1 (hok .old h)
  have hv := fun h => encV_size hx.2 (hok .new h)
  unfold encB
  rw [hfl]
  show (encR fl x).length = _ ∧ (encR fl x).length ≤ 75
  unfold encR szB
  unfold fieldsOf at hfl
  split at hfl
  · rename_i hk
    injection hfl with hfl; subst hfl
    have h1 := ho (by simp)
    have h2 := hv (by simp)
    simp [encF, le_length, hk, h1.1, h2.1]
    omega
  split at hfl
  · rename_i hk1 hk
    injection hfl with hfl; subst hfl
    have h2 := hv (by simp)
    simp [encF, le_length, hk, h2.1]
    omega
  split at hfl
  · rename_i hk1 hk2 hk
    injection hfl with hfl; subst hfl
    simp [encF, le_length, hk1, hk2, hk]
  split at hfl
  · rename_i hk1 hk2 hk3 hk
    injection hfl with hfl; subst hfl
    simp [encF, le_length, hk1, hk2, hk3, hk]
  split at hfl
  · rename_i hk1 hk2 hk3 hk4 hk
    injection hfl with hfl; subst hfl
    simp [hk]
  split at hfl
  · rename_i hk1 hk2 hk3 hk4 hk5 hk
    injection hfl with hfl; subst hfl
    simp [encF, le_length, hk]
  split at hfl
  · rename_i hk1 hk2 hk3 hk4 hk5 hk6 hk
    injection hfl with hfl; subst hfl
    simp [encF, le_length, hk]
  split at hfl
  · rename_i hk1 hk2 hk3 hk4 hk5 hk6 hk7 hk
    injection hfl with hfl; subst hfl
    simp [encF, le_length, hk]
  · cases hfl
theorem encB_head {x : RcD} (h : mayB x = true) : ∃ ys, encB x = UInt8.ofNat x.k.toNat :: ys := by
  obtain ⟨fl, hfl, _⟩ := mayB_kind h
  refine ⟨fl.flatMap (encF x), ?_⟩
  unfold encB
  rw [hfl]
  rfl
end Go.Proofs.Ytpkgeidenkjnfaa
