/-
  bobbinref10.New.
-/
import Derived.Test.YthbcgbbcoanbdaaRSet
import Derived.Test.YthbcgbbcoanbdaaTNew2
namespace Go.Proofs.Ythbcgbbcoanbdaa
open Go Go.RowKit

/-- A table under way: its box, the result's box, its rows. -/
structure Nw (w W : World) (k : Int) (A : Option Addr) (n c : Nat) (B : Option Addr) (m d : Nat) : Prop where
  bx : TBx W (w.heap.size + 1) ⟨A, n, c, B, m, d, ⟨List.replicate n emT, List.replicate m noT, k, 0⟩⟩
  res : TBx W w.heap.size z0
  pg : Ow3 W (w.heap.size + 2) 34 A n c (List.replicate n emT)
  sg : Ow3 W (w.heap.size + 2) 45 B m d (List.replicate m noT)
  old : Mod (fun _ => False) w W
  sz : w.heap.size + 2 ≤ W.heap.size
  sep : ∀ q, blkOf A = some q → blkOf B = some q → False
section
variable {w W W' : World} {k : Int} {A B A' : Option Addr} {n c m d c5 : Nat}
theorem Nw.boxes (h : Nw w W k A n c B m d) {F : Nat → Prop} (hm : Mod F W W') (hF : ∀ q, F q → w.heap.size + 2 ≤ q) : TBx W' (w.heap.size + 1) ⟨A, n, c, B, m, d, ⟨List.replicate n emT, List.replicate m noT, k, 0⟩⟩ ∧ TBx W' w.heap.size z0 :=
  ⟨h.bx.mod hm (fun e => by have := hF _ e; omega), h.res.mod hm (fun e => by have := hF _ e; omega)⟩
theorem Nw.addP (h : Nw w W k A n c B m d) (ho : Ow3 W' (w.heap.size + 2) 34 A' (n + 1) c5 (List.replicate (n + 1) emT)) (hm : Mod (fun q => blkOf A = some q) W W')
    (hat : blkOf A' = blkOf A ∨ ∃ q, blkOf A' = some q ∧ W.heap.size ≤ q) : Nw w (W'.setCell ⟨w.heap.size + 1, 0, none⟩ (.slice A' (n + 1 : Nat) c5)) k A' (n + 1) c5 B m d := by
  have hb := h.boxes hm (fun q e => (h.pg.lt q e).1)
  have hmm : Mod (fun q => q = w.heap.size + 1) W' (W'.setCell ⟨w.heap.size + 1, 0, none⟩ (.slice A' (n + 1 : Nat) c5)) := (Mod.refl (fun q => q = w.heap.size + 1) W').one (fun _ => rfl) 0 _
  have hall : Mod (fun q => w.heap.size ≤ q) w (W'.setCell ⟨w.heap.size + 1, 0, none⟩ (.slice A' (n + 1 : Nat) c5)) :=
    ((h.old.mono (G := fun q => w.heap.size ≤ q) (fun _ _ h => h.elim)).trans hm (fun q _ e => by have := (h.pg.lt q e).1; show w.heap.size ≤ q; omega)).trans hmm (fun q _ e => by show w.heap.size ≤ q; omega)
  refine ⟨heap_set hb.1 0 _, hb.2.mod hmm (fun e => by omega), ho.mod hmm (fun q hq e => by have := (ho.lt q hq).1; omega), ?_, hall.mono (fun q hq e => by omega), Nat.le_trans h.sz (Nat.le_trans hm.size hmm.size), ?_⟩
  · exact (h.sg.mod hm (fun q hq e => h.sep q e hq)).mod hmm (fun q hq e => by have := (h.sg.lt q hq).1; omega)
  · intro q h1 h2
    rcases hat with e | ⟨q', e, hq⟩
    · exact h.sep q (e ▸ h1) h2
    · rw [e] at h1
      injection h1 with h1
      have := (h.sg.lt q h2).2
      omega
theorem Nw.addS {B' : Option Addr} (h : Nw w W k A n c B m d) (ho : Ow3 W' (w.heap.size + 2) 45 B' (m + 1) c5 (List.replicate (m + 1) noT)) (hm : Mod (fun q => blkOf B = some q) W W')
    (hat : blkOf B' = blkOf B ∨ ∃ q, blkOf B' = some q ∧ W.heap.size ≤ q) : Nw w (W'.setCell ⟨w.heap.size + 1, 1, none⟩ (.slice B' (m + 1 : Nat) c5)) k A n c B' (m + 1) c5 := by
  have hb := h.boxes hm (fun q e => (h.sg.lt q e).1)
  have hmm : Mod (fun q => q = w.heap.size + 1) W' (W'.setCell ⟨w.heap.size + 1, 1, none⟩ (.slice B' (m + 1 : Nat) c5)) := (Mod.refl (fun q => q = w.heap.size + 1) W').one (fun _ => rfl) 1 _
  have hall : Mod (fun q => w.heap.size ≤ q) w (W'.setCell ⟨w.heap.size + 1, 1, none⟩ (.slice B' (m + 1 : Nat) c5)) :=
    ((h.old.mono (G := fun q => w.heap.size ≤ q) (fun _ _ h => h.elim)).trans hm (fun q _ e => by have := (h.sg.lt q e).1; show w.heap.size ≤ q; omega)).trans hmm (fun q _ e => by show w.heap.size ≤ q; omega)
  refine ⟨heap_set hb.1 1 _, hb.2.mod hmm (fun e => by omega), ?_, ho.mod hmm (fun q hq e => by have := (ho.lt q hq).1; omega), hall.mono (fun q hq e => by omega), Nat.le_trans h.sz (Nat.le_trans hm.size hmm.size), ?_⟩
  · exact (h.pg.mod hm (fun q hq e => h.sep q hq e)).mod hmm (fun q hq e => by have := (h.pg.lt q hq).1; omega)
  · intro q h1 h2
    rcases hat with e | ⟨q', e, hq⟩
    · exact h.sep q h1 (e ▸ h2)
    · rw [e] at h2
      injection h2 with h2
      have := (h.pg.lt q h1).2
      omega
end
end Go.Proofs.Ythbcgbbcoanbdaa
