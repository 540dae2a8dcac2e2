/-
  A list of calls ([]Op) as our walks know it; the statements' helper 'few'.
-/
import Derived.Test.YtllpiegdjaafnaaFrame
import Derived.Test.YtllpiegdjaafnaaAwake
namespace Go.Proofs.Ytllpiegdjaafnaa
open Go Go.RowKit

/-- A call: Put(n, width), or, with lay, Lay(xs). -/
structure OpD where
  lay : Bool
  n : Int
  width : Int
  A : Option Addr
  m : Nat
  d : Nat
  xs : List UInt8

/-- The four cells of a call. -/
def OpD.cells (x : OpD) : List Value := [.bool x.lay, .int .i64 x.n, .int .i64 x.width, .slice x.A x.m x.d]

/-- Its bytes lie below block B. -/
def OpD.At (x : OpD) (w : World) (B : Nat) : Prop := Sl w x.A x.m x.d x.xs ∧ ∀ k, blkOf x.A = some k → 0 < x.m → k < B

/-- The slice '.slice A n c' holds the calls l, in a row below block B; what they point at lies below it, too. -/
def OpsAt (w : World) (B : Nat) (A : Option Addr) (n c : Nat) (l : List OpD) : Prop :=
  l.length = n ∧ n ≤ c ∧ (0 < n → ∃ b o, A = some ⟨b, o, none⟩ ∧ b < B ∧ ∀ i x, l[i]? = some x →
    w.cell? ⟨b, o + i * 4, none⟩ = some (.bool x.lay) ∧ w.cell? ⟨b, o + i * 4 + 1, none⟩ = some (.int .i64 x.n) ∧
    w.cell? ⟨b, o + i * 4 + 2, none⟩ = some (.int .i64 x.width) ∧ w.cell? ⟨b, o + i * 4 + 3, none⟩ = some (.slice x.A x.m x.d)) ∧
  ∀ x ∈ l, x.At w B

theorem OpD.At.below {x : OpD} {w w' : World} {B : Nat} (h : x.At w B) (hb : Below B w w') : x.At w' B := by
  refine ⟨?_, h.2⟩
  obtain ⟨h1, h2, h3⟩ := h.1
  refine ⟨h1, h2, fun hn => ?_⟩
  obtain ⟨b, o, hA, hc⟩ := h3 hn
  refine ⟨b, o, hA, fun j hj => (hb.cell (p := ⟨b, o + j, none⟩) (h.2 b (by rw [hA]; rfl) hn)).trans (hc j hj)⟩
theorem OpsAt.below {w w' : World} {B : Nat} {A : Option Addr} {n c : Nat} {l : List OpD} (h : OpsAt w B A n c l) (hb : Below B w w') : OpsAt w' B A n c l := by
  obtain ⟨h1, h2, h3, h4⟩ := h
  refine ⟨h1, h2, fun hn => ?_, fun x hx => (h4 x hx).below hb⟩
  obtain ⟨b, o, hA, hbB, hc⟩ := h3 hn
  refine ⟨b, o, hA, hbB, fun i x hx => ?_⟩
  obtain ⟨c0, c1, c2, c3⟩ := hc i x hx
  exact ⟨(hb.cell (p := ⟨b, _, none⟩) hbB).trans c0, (hb.cell (p := ⟨b, _, none⟩) hbB).trans c1, (hb.cell (p := ⟨b, _, none⟩) hbB).trans c2, (hb.cell (p := ⟨b, _, none⟩) hbB).trans c3⟩
theorem OpsAt.mod {F : Nat → Prop} {w w' : World} {A : Option Addr} {n c : Nat} {B : Nat} {l : List OpD} (h : OpsAt w B A n c l) (hB : B ≤ w.heap.size) (hm : Mod F w w') (hF : ∀ k, k < B → ¬ F k) : OpsAt w' B A n c l :=
  h.below (hm.below hB hF)

/-- Are there at most 60 calls, of at most 600 bytes? -/
def fewB (l : List OpD) : Bool := decide (l.length ≤ 60) && l.all fun x => decide (x.m ≤ 600)

set_option maxRecDepth 100000 in
theorem few_ok (w : World) (B : Nat) (A : Option Addr) (n c : Nat) (l : List OpD) (h : OpsAt w B A n c l) :
    Calls Try.prog 10 #[.slice A n c] w fun e w' => e = .returned (.bool (fewB l)) ∧ w = w' := by
  have hl := h.1
  by_cases hbig : 60 < n
  · have hb' : (60 : Int) < n := by omega
    have Hf : Hid (fewB l = false) := by
      have : ¬ l.length ≤ 60 := by omega
      show _ = _
      simp [fewB, this]
    clear hl
    go_enter Try.func10, Try.ntmps10
    go_wp2
    go_ret
    exact ⟨by rw [Hf.out]; rfl, rfl⟩
  · have hb' : ¬ (60 : Int) < n := by omega
    have Hl := Lib.hid hl
    clear hl
    go_enter Try.func10, Try.ntmps10
    go_wp2
    go_loop [3] (fun i => ∃ j : Nat, j ≤ n ∧ i = .int .i64 j ∧ (l.take j).all (fun x => decide (x.m ≤ 600)) = true) (fun i => n - (intOf i).toNat)
    case atStart => exact ⟨0, by omega, rfl, rfl⟩
    case round =>
      obtain ⟨j, hj, rfl, hall⟩ := hrel
      have Hall := Lib.hid hall
      clear hall
      by_cases hlt : j < n
      · obtain ⟨b, o, rfl, _, hcells⟩ := h.2.2.1 (by omega)
        have hjl : j < l.length := by rw [Hl.out]; exact hlt
        have hx := hcells j l[j] (List.getElem?_eq_getElem hjl)
        obtain ⟨_, _, _, c3⟩ := hx
        clear hcells
        by_cases hm : 600 < l[j].m
        · have hm' : (600 : Int) < (l[j].m : Int) := by omega
          have Hf : Hid (fewB l = false) := by
            show _ = _
            unfold fewB
            rw [Bool.and_eq_false_iff]
            right
            rw [List.all_eq_false]
            exact ⟨l[j], List.getElem_mem hjl, by simpa using hm⟩
          generalize l[j] = x at *
          go_wp2
          go_ret
          exact ⟨by rw [Hf.out]; rfl, rfl⟩
        · have hm' : ¬ (600 : Int) < (l[j].m : Int) := by omega
          have Hs : Hid ((l.take (j + 1)).all (fun x => decide (x.m ≤ 600)) = true) := by
            show _ = _
            rw [List.take_succ_eq_append_getElem hjl, List.all_append, Hall.out]
            simp; omega
          generalize l[j] = x at *
          go_wp2
          go_round
          case rel => exact ⟨j + 1, by omega, by go_num, Hs.out⟩
          case measure => simp [intOf]; omega
      · obtain rfl : j = n := by omega
        have Hf : Hid (fewB l = true) := by
          have h2 := Hall.out
          rw [List.take_of_length_le (by rw [Hl.out]; omega)] at h2
          have h1 : l.length ≤ 60 := by rw [Hl.out]; omega
          show _ = _
          unfold fewB
          rw [h2]
          simp [h1]
        go_wp2
        go_ret
        exact ⟨by rw [Hf.out]; rfl, rfl⟩
end Go.Proofs.Ytllpiegdjaafnaa
