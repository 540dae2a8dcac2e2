/-
  Bytes as elements of a slice; the contract of bobbinref01.Same.
-/
import Derived.Test.YtidcmolkolcliaaRows
import Derived.Test.YtidcmolkolcliaaWords
import Derived.Test.YtidcmolkolcliaaMath
namespace Go.Proofs.Ytidcmolkolcliaa
open Go Go.RowKit

theorem byteElem : Elem Try.prog 26 5 (.int .u8 0) 1 := Elem.mk_ Try.underlying26 rfl (by kernel_rfl)

/-- A row in new memory that holds xs; nothing old has turned. -/
def FreshR (w w' : World) (A : Option Addr) (n c : Nat) (xs : List UInt8) : Prop :=
  OwV w' w.heap.size 5 A n c (xs.map bv) ∧ Mod (fun _ => False) w w'

/-- Bytes that a literal lays into a block of its own. -/
theorem Sl.lit {w : World} {g : Nat} {e : TypeId} {fr : Nat × Nat} (xs : List UInt8) (h : w.heap[g]? = some (.cells (xs.map bv).toArray e fr)) : Sl w (some ⟨g, 0, none⟩) xs.length xs.length xs := by
  refine ⟨rfl, Nat.le_refl _, fun _ => ⟨g, 0, rfl, fun j hj => ?_⟩⟩
  rw [Nat.zero_add, cell_of_row w g j _ _ _ h]
  simp [hj]

/-- Are two lists of bytes the same? -/
def eqB (xs ys : List UInt8) : Bool := decide (xs = ys)
theorem eqB_ne {xs ys : List UInt8} (h : xs.length ≠ ys.length) : eqB xs ys = false := by
  unfold eqB; rw [decide_eq_false_iff_not]; rintro rfl; exact h rfl
theorem take_eq_snoc {xs ys : List UInt8} {j : Nat} (h : xs.take j = ys.take j) (hx : j < xs.length) (hy : j < ys.length) (e : xs.getD j 0 = ys.getD j 0) : xs.take (j + 1) = ys.take (j + 1) := by
  rw [List.take_succ_eq_append_getElem hx, List.take_succ_eq_append_getElem hy, h]
  simp [List.getD_eq_getElem?_getD, List.getElem?_eq_getElem hx, List.getElem?_eq_getElem hy] at e
  rw [e]
theorem eqB_at {xs ys : List UInt8} {j : Nat} (h : xs.getD j 0 ≠ ys.getD j 0) : eqB xs ys = false := by
  unfold eqB; rw [decide_eq_false_iff_not]; rintro rfl; exact h rfl

theorem eqB_self (xs : List UInt8) : eqB xs xs = true := by simp [eqB]

set_option maxRecDepth 100000 in
theorem same_ok (w : World) (A B : Option Addr) (n m c d : Nat) (xs ys : List UInt8) (h : Sl w A n c xs) (k : Sl w B m d ys) (hc : n ≤ 140737488355328) (hd : m ≤ 140737488355328) :
    Calls Try.prog 45 #[.slice A n c, .slice B m d] w fun e w' => e = .returned (.bool (eqB xs ys)) ∧ ∃ q, w' = w.drewN q := by
  have h1 := h.len
  have k1 := k.len
  by_cases hne : n = m
  · subst hne
    have H1 := Lib.hid h1
    have K1 := Lib.hid k1
    clear h1 k1
    go_enter Try.func45, Try.ntmps45
    go_wp2
    go_loopw [5] (fun i wr => ∃ j q : Nat, j ≤ n ∧ i = .int .i64 j ∧ wr = w.drewN q ∧ xs.take j = ys.take j) (fun i _ => n - (intOf i).toNat)
    case atStart => exact ⟨0, 0, by omega, rfl, rfl, rfl⟩
    case round =>
      obtain ⟨j, q, hj, rfl, rfl, heq⟩ := hrel
      have Heq := Lib.hid heq
      clear heq
      by_cases hlt : j < n
      · obtain ⟨b, o, rfl, hcx⟩ := h.2.2 (by omega)
        obtain ⟨b', o', rfl, hcy⟩ := k.2.2 (by omega)
        have hx := hcx j hlt
        have hy := hcy j hlt
        clear hcx hcy
        by_cases hxy : xs.getD j 0 = ys.getD j 0
        · have Hs := Lib.hid (take_eq_snoc Heq.out (by rw [H1.out]; exact hlt) (by rw [K1.out]; exact hlt) hxy)
          rw [hxy] at hx
          clear hxy
          go_wp2
          go_quiet (fail)
          go_wp2
          go_roundw
          case rel => exact ⟨j + 1, _, by omega, by go_num, rfl, Hs.out⟩
          case measure => simp [intOf]; omega
        · have Hs := Lib.hid (eqB_at hxy)
          have hne : (((xs.getD j 0).toNat : Int) != ((ys.getD j 0).toNat : Int)) = true := by
            rw [bne_iff_ne]
            intro e
            exact hxy (UInt8.toNat_inj.1 (by omega))
          generalize xs.getD j 0 = x at *
          generalize ys.getD j 0 = y at *
          clear hxy
          go_wp2
          go_quiet (fail)
          go_wp2
          go_ret
          exact ⟨by rw [Hs.out]; rfl, _, World.drewN_drewN _ _ _⟩
      · obtain rfl : j = n := by omega
        go_wp2
        go_ret
        have e : eqB xs ys = true := by
          unfold eqB
          have := Heq.out
          rw [List.take_of_length_le (by rw [H1.out]; omega), List.take_of_length_le (by rw [K1.out]; omega)] at this
          simpa using this
        exact ⟨by rw [e]; rfl, _, rfl⟩
  · have hne' : ((n : Int) != (m : Int)) = true := by rw [bne_iff_ne]; omega
    have Hs := Lib.hid (eqB_ne (xs := xs) (ys := ys) (by rw [h1, k1]; exact hne))
    clear h1 k1
    go_enter Try.func45, Try.ntmps45
    go_wp2
    go_ret
    exact ⟨by rw [Hs.out]; rfl, 0, rfl⟩

end Go.Proofs.Ytidcmolkolcliaa
