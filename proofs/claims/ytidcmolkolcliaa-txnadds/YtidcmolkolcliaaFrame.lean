/-
  From a reading of an argument to the words of our walks: a slice of bytes.
-/
import Derived.Test.YtidcmolkolcliaaWords
import Derived.ProofKit
import Derived.OpenShut
import Derived.ShutString
import Derived.ChangeOld
import Derived.Below
import Derived.SizedLaws
import Derived.Deep.Slices
import Derived.Deep.Fields
namespace Go.Proofs.Ytidcmolkolcliaa
open Go.ChangeShapes Go.WideShapes Go.ChangeAt Go.RowKit

theorem byte_of_int {z : Int} (h0 : 0 ≤ z) (h1 : z ≤ 255) : ((UInt8.ofNat z.toNat).toNat : Int) = z := by
  rw [UInt8.toNat_ofNat']
  have : z.toNat % 2 ^ 8 = z.toNat := Nat.mod_eq_of_lt (by omega)
  rw [this]
  omega

section
variable {H : Type} {enc : TypeId × Value → H} {P : Program} {W : World} {base : Nat} {spare : Nat → Bool} {held : Bool}

/-- A slice of integers of whatever kind: what its cells hold. -/
theorem open_row {k : IntKind} {t e : TypeId} {a : Option Addr} {len cap : Nat} {d : DataW H} {p : List MemPlace} (ht : P.underlying t = some (.slice e)) (he : P.underlying e = some (.int k)) (hc : P.cellsOf e = 1)
    (h : DataW.Trod enc P W base spare held t (.slice a len cap) d p) :
    ∃ zs : List Int, zs.length = len ∧ len ≤ cap ∧ cap ≤ maxLen ∧ (∀ z ∈ zs, (Lit.int k z).wf = true) ∧
      (0 < len → ∃ b o, a = some ⟨b, o, none⟩ ∧ ∀ j, j < len → W.cell? ⟨b, o + j, none⟩ = some (.int k (zs.getD j 0))) ∧
      (len = 0 ∨ ∃ el sp, d = .slice el sp ∧ el.length = len) := by
  obtain ⟨fuel, hf⟩ := h
  rcases open_ints ht he hc hf with ⟨hcs, _⟩ | ⟨x, l, c, zs, hcs, _, hl, hm, hz, hx, hcell, hwz⟩
  · simp [Value.cells] at hcs
    obtain ⟨rfl, rfl, rfl⟩ := hcs
    exact ⟨[], rfl, Nat.le_refl _, Nat.zero_le _, by simp, fun h => absurd h (by omega), .inl rfl⟩
  · simp [Value.cells] at hcs
    obtain ⟨rfl, rfl, rfl⟩ := hcs
    have hlz : len ≤ zs.length := by rw [hz]; split <;> omega
    refine ⟨zs.take len, by simp; omega, hl, hm, fun z hzm => hwz z (List.mem_of_mem_take hzm), fun hp => ?_, .inr ?_⟩
    · obtain ⟨b, o, rfl, hc'⟩ := ints_at hcell (by omega)
      refine ⟨b, o, rfl, fun j hj => ?_⟩
      rw [hc' j (by omega)]
      simp [hj]
    · simp only [Prod.mk.injEq] at hx
      exact ⟨_, _, hx.1, by simp [lits]; omega⟩

theorem open_sl {t e : TypeId} {a : Option Addr} {len cap : Nat} {d : DataW H} {p : List MemPlace} (ht : P.underlying t = some (.slice e)) (he : P.underlying e = some (.int .u8)) (hc : P.cellsOf e = 1)
    (h : DataW.Trod enc P W base spare held t (.slice a len cap) d p) :
    ∃ xs, Sl W a len cap xs ∧ (len = 0 ∨ ∃ el sp, d = .slice el sp ∧ el.length = len) := by
  obtain ⟨zs, hl, hcap, _, hwf, hcells, hd⟩ := open_row ht he hc h
  refine ⟨zs.map fun z => UInt8.ofNat z.toNat, ⟨by simpa using hl, hcap, fun hp => ?_⟩, hd⟩
  obtain ⟨b, o, rfl, hcell⟩ := hcells hp
  refine ⟨b, o, rfl, fun j hj => ?_⟩
  rw [hcell j hj]
  have hj' : j < zs.length := by omega
  obtain ⟨h0, h1⟩ := bounds_u8 (hwf zs[j] (List.getElem_mem hj'))
  have e1 : zs.getD j 0 = zs[j] := by simp [hj']
  have e2 : (zs.map fun z => UInt8.ofNat z.toNat).getD j 0 = UInt8.ofNat (zs[j]).toNat := by simp [hj']
  rw [e1, e2]
  show some (Value.int .u8 _) = some (Value.int .u8 _)
  rw [byte_of_int h0 h1]

/-- A slice's capacity is one that Go lets be. -/
theorem open_cap {k : IntKind} {t e : TypeId} {a : Option Addr} {len cap : Nat} {d : DataW H} {p : List MemPlace} (ht : P.underlying t = some (.slice e)) (he : P.underlying e = some (.int k)) (hc : P.cellsOf e = 1)
    (h : DataW.Trod enc P W base spare held t (.slice a len cap) d p) : cap ≤ maxLen := by
  obtain ⟨zs, _, _, hm, _⟩ := open_row ht he hc h
  exact hm

/-- A slice of structs, each field one cell: every field's cell, with its own reading. -/
theorem open_structs {t e : TypeId} {fs : Array Field} {a : Option Addr} {len cap : Nat} {d : DataW H} {p : List MemPlace} (ht : P.underlying t = some (.slice e)) (he : P.underlying e = some (.struct fs))
    (hone : Go.Deep.oneCellFields P fs = true) (hC : P.cellsOf e = fs.size) (hK : 0 < fs.size)
    (h : DataW.Trod enc P W base spare held t (.slice a len cap) d p) :
    len ≤ cap ∧ cap ≤ maxLen ∧ (len = 0 ∨ ∃ el sp, d = .slice el sp ∧ el.length = len) ∧
      (0 < len → ∃ b o, a = some ⟨b, o, none⟩ ∧ ∀ i, i < len → ∀ (j : Nat) (f : Field), fs[j]? = some f →
        ∃ (v : Value) (n : Nat) (y : DataW H × List MemPlace), W.cell? ⟨b, o + i * fs.size + j, none⟩ = some v ∧ DataW.trod enc P W base spare held n f.type [v] = some y) := by
  obtain ⟨fuel, hf⟩ := h
  rcases Go.Deep.open_slice ht hf with ⟨hcs, _⟩ | ⟨x, l, c, m, n, D, Pl, hcs, _, hl, hm, hmm, hx, hi⟩
  · simp [Value.cells] at hcs
    obtain ⟨rfl, rfl, rfl⟩ := hcs
    exact ⟨Nat.le_refl _, Nat.zero_le _, .inl rfl, fun h => absurd h (by omega)⟩
  · simp [Value.cells] at hcs
    obtain ⟨rfl, rfl, rfl⟩ := hcs
    have hlm : len ≤ m := by rw [hmm]; split <;> omega
    simp only [Prod.mk.injEq] at hx
    refine ⟨hl, hm, .inr ⟨_, _, hx.1, by simp⟩, fun hp => ?_⟩
    have cells : ∀ i, i < len → ∀ (j : Nat) (f : Field), fs[j]? = some f →
        ∃ (v : Value) (n : Nat) (y : DataW H × List MemPlace), W.cell? ((x.add (i * fs.size)).add j) = some v ∧ DataW.trod enc P W base spare held n f.type [v] = some y := by
      intro i hil j f hj
      obtain ⟨cs', hc, ht'⟩ := hi i (by omega)
      rw [hC] at hc
      obtain ⟨ys, n', _, _, hlen, hyl, hf'⟩ := DataW.trod_struct he ht'
      obtain ⟨_, hcl, hat⟩ := World.cells?_some hc
      obtain ⟨ho, hk⟩ := Go.Deep.hone_of hone j f hj
      have hjl : j < fs.size := (Array.getElem?_eq_some_iff.1 hj).1
      have hjc : j < cs'.length := by omega
      have h1 := hf' j f hj
      rw [ho, hk, List.drop_eq_getElem_cons hjc] at h1
      have hys : ys[j]? = some (ys[j]'(by omega)) := List.getElem?_eq_getElem (by omega)
      refine ⟨cs'[j], n', _, ?_, h1.trans hys⟩
      rw [hat j hjl, List.getElem?_eq_getElem hjc]
    obtain ⟨b, o, spot⟩ := x
    have hspot : spot = none := by
      have hf0 : fs[0]? = some (fs[0]'hK) := Array.getElem?_eq_getElem hK
      obtain ⟨v, _, _, hc0, _⟩ := cells 0 hp 0 _ hf0
      have := World.cell?_spot hc0
      simpa [Addr.add] using this
    subst hspot
    refine ⟨b, o, rfl, fun i hil j f hj => ?_⟩
    obtain ⟨v, n, y, h1, h2⟩ := cells i hil j f hj
    refine ⟨v, n, y, ?_, h2⟩
    rw [Go.WideShapes.add_plain, Go.WideShapes.add_plain] at h1
    exact h1
end

/-- One thing for each index: a list of them. -/
theorem list_of {α : Type} {Q : Nat → α → Prop} : ∀ len : Nat, (∀ i, i < len → ∃ x, Q i x) → ∃ l : List α, l.length = len ∧ ∀ i x, l[i]? = some x → Q i x
  | 0, _ => ⟨[], rfl, by simp⟩
  | len + 1, h => by
    obtain ⟨l, hl, hq⟩ := list_of len (fun i hi => h i (by omega))
    obtain ⟨x, hx⟩ := h len (by omega)
    refine ⟨l ++ [x], by simp [hl], fun i y hy => ?_⟩
    rcases Nat.lt_or_ge i l.length with hlt | hge
    · rw [List.getElem?_append_left hlt] at hy
      exact hq i y hy
    · rw [List.getElem?_append_right hge] at hy
      have hi : i = l.length := by
        have := (List.getElem?_eq_some_iff.1 hy).1
        simp at this; omega
      subst hi
      simp at hy
      subst hy
      rw [hl]
      exact hx
end Go.Proofs.Ytidcmolkolcliaa
