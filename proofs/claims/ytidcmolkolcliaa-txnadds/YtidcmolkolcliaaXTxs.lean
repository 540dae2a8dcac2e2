/-
  Rows of transactions of the law's own: cells, append.
-/
import Derived.Test.YtidcmolkolcliaaXLw
namespace Go.Proofs.Ytidcmolkolcliaa
open Go Go.RowKit

def txc (x : TxD) : List Value := [.int .i64 x.id, .int .i64 x.st, .int .i64 x.f, .int .i64 x.l, .slice x.A x.n x.c, .slice x.B x.m x.d]
def txs (l : List TxD) : List Value := l.flatMap txc
theorem txs_cons (x : TxD) (l : List TxD) : txs (x :: l) = txc x ++ txs l := rfl
theorem txs_append (a b : List TxD) : txs (a ++ b) = txs a ++ txs b := List.flatMap_append
theorem txs_len : ∀ l : List TxD, (txs l).length = l.length * 6
  | [] => rfl
  | x :: l => by rw [txs_cons, List.length_append, txs_len l, List.length_cons]; simp [txc]; omega
theorem txs_get : ∀ (l : List TxD) (i : Nat) (x : TxD), l[i]? = some x → ∀ j, j < 6 → (txs l)[i * 6 + j]? = (txc x)[j]?
  | [], i, x, h, _, _ => by simp at h
  | y :: l, 0, x, h, j, hj => by
    rw [txs_cons, Nat.zero_mul, Nat.zero_add, List.getElem?_append_left (by simp [txc]; omega)]
    simp at h
    rw [h]
  | y :: l, i + 1, x, h, j, hj => by
    rw [txs_cons, List.getElem?_append_right (by simp [txc]; omega)]
    have e : (i + 1) * 6 + j - (txc y).length = i * 6 + j := by simp [txc]; omega
    rw [e]
    exact txs_get l i x (by simpa using h) j hj
theorem txs_one (l : List TxD) : ∀ u ∈ txs l, u.oneCell' = true := by
  intro u hu
  simp only [txs, List.mem_flatMap] at hu
  obtain ⟨x, _, hx⟩ := hu
  simp [txc] at hx
  rcases hx with rfl | rfl | rfl | rfl | rfl | rfl <;> rfl
theorem Xs.src {w : World} {A : Option Addr} {n c : Nat} {l : List TxD} (h : Xs w A n c l) : SrcN w A n 6 (txs l) := by
  refine ⟨by rw [txs_len, h.len], txs_one l, fun hp => ?_⟩
  obtain ⟨b, o, rfl, hc⟩ := h.cells hp
  refine ⟨_, rfl, fun j u hu => ?_⟩
  have hj : j < l.length * 6 := by rw [← txs_len]; exact (List.getElem?_eq_some_iff.1 hu).1
  have hadd : (⟨b, o, none⟩ : Addr).add j = ⟨b, o + j, none⟩ := by unfold Addr.add; split <;> simp_all
  rw [hadd]
  obtain ⟨x, hx⟩ : ∃ x, l[j / 6]? = some x := ⟨_, List.getElem?_eq_getElem (by omega)⟩
  have g := txs_get l (j / 6) x hx (j % 6) (by omega)
  have e : j / 6 * 6 + j % 6 = j := by omega
  rw [e, hu] at g
  have := (hc _ x hx).get (j := j % 6) (u := u) (by rw [← Array.getElem?_toList]; exact g.symm)
  rwa [Nat.add_assoc, e] at this
abbrev OwT (w : World) (base : Nat) (A : Option Addr) (n c : Nat) (l : List TxD) : Prop := OwN w base 25 6 A n c (txs l)
theorem txElem : ElemN Try.prog 46 25 (.agg #[.int .i64 0, .int .i64 0, .int .i64 0, .int .i64 0, .slice none 0 0, .slice none 0 0]) 6 80 := ElemN.mk_ Try.underlying46 rfl (by decide) (by kernel_rfl)
section
variable {w w' : World} {base g : Nat} {A : Option Addr} {n c : Nat} {l : List TxD}
theorem OwT.len (h : OwT w base A n c l) : l.length = n := by have := h.1; rw [txs_len] at this; omega
theorem OwT.xs (h : OwT w base A n c l) (ha : ∀ x ∈ l, x.At w) : Xs w A n c l := by
  refine ⟨OwT.len h, OwN.cap h, fun hp => ?_, ha⟩
  obtain ⟨g, rfl, hc⟩ := OwN.cells h hp
  refine ⟨g, 0, rfl, fun i x hx => .of fun j u hu => ?_⟩
  have hl := OwT.len h
  have hi := (List.getElem?_eq_some_iff.1 hx).1
  have hj : j < 6 := (Array.getElem?_eq_some_iff.1 hu).1
  have d := txs_get l i x hx j hj
  have d2 : (txc x)[j]? = some u := by rw [← Array.getElem?_toList] at hu; exact hu
  rw [Nat.zero_add, hc _ (by omega), d, d2]
theorem Cs.one {x : ChD} (h : x.In w g) (ha : x.At w) : Cs w (some ⟨g, 0, none⟩) 1 1 [x] := by
  refine ⟨rfl, Nat.le_refl _, fun _ => ⟨g, 0, rfl, fun i y hy => ?_⟩, fun y hy => by simp at hy; rw [hy]; exact ha⟩
  have hi : i = 0 := by have := (List.getElem?_eq_some_iff.1 hy).1; simp at this; omega
  subst hi
  have e : x = y := by simpa using hy
  subst e
  refine .of fun j u hu => ?_
  rw [Nat.zero_mul, Nat.zero_add]
  exact (cell_of_row _ _ _ _ _ _ h).trans hu
theorem pt_append (a b : List TxD) : pt (a ++ b) = pt a ++ pt b := by simp [pt]
theorem kept_pt {page : Int} (h : ∀ t ∈ l, smallT t.p) : kept page (pt l) ≤ 2080 * (l.length : Int) := by
  have := kept_le (page := page) (l := pt l) (fun t ht => by
    obtain ⟨x, hx, rfl⟩ := List.mem_map.1 ht
    exact h x hx)
  rwa [pt_len] at this
/-- What all changes of one list keep, when some may be small. -/
theorem small_upto {i : Nat} (hl : l.length = i) (h : ∀ (j : Nat) (x : TxD), j < i → l[j]? = some x → smallT x.p) : ∀ t ∈ l, smallT t.p := fun t ht => by
  obtain ⟨j, hj⟩ := List.mem_iff_getElem?.1 ht
  have := (List.getElem?_eq_some_iff.1 hj).1
  exact h j t (by omega) hj
end
end Go.Proofs.Ytidcmolkolcliaa
