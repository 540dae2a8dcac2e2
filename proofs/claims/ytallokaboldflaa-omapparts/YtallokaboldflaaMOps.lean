/-
  Calls of a law's argument []Op: what their cells hold; from a reading of an argument to these words.
-/
import Derived.Test.YtallokaboldflaaLiveM
import Derived.Test.YtallokaboldflaaFrame
import Derived.ChangeMaps5
namespace Go.Proofs.Ytallokaboldflaa
open Go.ChangeShapes Go.WideShapes Go.ChangeAt Go.RowKit

structure OpD where
  del : Bool
  k : Int
  v : ByteArray
def OpD.Cells (w : World) (x : OpD) (b o : Nat) : Prop :=
  w.cell? ⟨b, o, none⟩ = some (.bool x.del) ∧ w.cell? ⟨b, o + 1, none⟩ = some (.int .i64 x.k) ∧ w.cell? ⟨b, o + 2, none⟩ = some (.string x.v)
def OpsAt (w : World) (A : Option Addr) (n c : Nat) (l : List OpD) : Prop :=
  l.length = n ∧ n ≤ c ∧ c ≤ maxLen ∧ (0 < n → ∃ b o, A = some ⟨b, o, none⟩ ∧ ∀ (i : Nat) (x : OpD), l[i]? = some x → x.Cells w b (o + i * 3))
theorem OpsAt.keep {w w' : World} {A : Option Addr} {n c : Nat} {l : List OpD} (h : OpsAt w A n c l) (hm : Mod (fun _ => False) w w') : OpsAt w' A n c l := by
  refine ⟨h.1, h.2.1, h.2.2.1, fun hn => ?_⟩
  obtain ⟨b, o, hA, hc⟩ := h.2.2.2 hn
  refine ⟨b, o, hA, fun i x hx => ?_⟩
  have k : ∀ (j : Nat) (v : Value), w.cell? ⟨b, j, none⟩ = some v → w'.cell? ⟨b, j, none⟩ = some v := fun j v hv =>
    (World.cell?_of_block (hm.block b (World.block_lt_of_cell? w _ hv) id)).trans hv
  obtain ⟨c0, c1, c2⟩ := hc i x hx
  exact ⟨k _ _ c0, k _ _ c1, k _ _ c2⟩
/-- What calls make of a map. -/
def opDo (l : List Pr) (x : OpD) : List Pr := if x.del then mDel x.k l else mSet x.k x.v l
def opSet (l : List Pr) (x : OpD) : List Pr := mSet x.k x.v l
theorem opDo_len (ops : List OpD) : ∀ l : List Pr, (ops.foldl opDo l).length ≤ l.length + ops.length := by
  induction ops with
  | nil => intro l; simp
  | cons x ops ih =>
    intro l
    have h1 := ih (opDo l x)
    have h2 : (opDo l x).length ≤ l.length + 1 := by
      unfold opDo
      split
      · have := mDel_len x.k l; omega
      · exact mSet_len x.k x.v l
    simp only [List.foldl_cons, List.length_cons]
    omega
theorem opSet_len (ops : List OpD) : ∀ l : List Pr, (ops.foldl opSet l).length ≤ l.length + ops.length := by
  induction ops with
  | nil => intro l; simp
  | cons x ops ih =>
    intro l
    have h1 := ih (opSet l x)
    have h2 : (opSet l x).length ≤ l.length + 1 := mSet_len x.k x.v l
    simp only [List.foldl_cons, List.length_cons]
    omega
theorem foldl_take_succ {α β : Type} {f : β → α → β} {l : List α} {j : Nat} {x : α} {b : β} (hx : l[j]? = some x) : (l.take (j + 1)).foldl f b = f ((l.take j).foldl f b) x := by
  obtain ⟨hj, e⟩ := List.getElem?_eq_some_iff.1 hx
  rw [List.take_succ_eq_append_getElem hj, e, List.foldl_append]
  rfl

theorem Try.own : ownKnob Try.prog.godebug = none := by kernel_rfl
theorem Try.laidOut : laidOutB Try.prog = true := by kernel_rfl

theorem open_ops {H : Type} {enc : TypeId × Value → H} {W : World} {base : Nat} {spare : Nat → Bool} {held : Bool} {a : Option Addr} {len cap : Nat} {d : DataW H} {p : List MemPlace}
    (h : DataW.Trod enc Try.prog W base spare held 22 (.slice a len cap) d p) : ∃ l, OpsAt W a len cap l := by
  obtain ⟨hl, hm, _, hc⟩ := open_structs Try.underlying22 Try.underlying30 (by kernel_rfl) (by kernel_rfl) (by decide) h
  have each : ∀ i, i < len → ∃ x : OpD, ∀ b o, a = some ⟨b, o, none⟩ → x.Cells W b (o + i * 3) := by
    intro i hi
    obtain ⟨b, o, rfl, hf⟩ := hc (by omega)
    obtain ⟨v0, n0, y0, c0, t0⟩ := hf i hi 0 _ rfl
    obtain ⟨v1, n1, y1, c1, t1⟩ := hf i hi 1 _ rfl
    obtain ⟨v2, n2, y2, c2, t2⟩ := hf i hi 2 _ rfl
    obtain ⟨del, e0, _⟩ := DataW.trod_bool Try.underlying4 t0
    obtain ⟨k, e1, _, _⟩ := DataW.trod_int Try.underlying3 t1
    obtain ⟨v, e2, _⟩ := DataW.trod_string Try.underlying9 t2
    simp only [List.cons.injEq, and_true] at e0 e1 e2
    subst e0 e1 e2
    refine ⟨⟨del, k, v⟩, ?_⟩
    intro b' o' e
    injection e with e; injection e with e1 e2; subst e1; subst e2
    exact ⟨c0, c1, c2⟩
  obtain ⟨l, hlen, hq⟩ := list_of len each
  refine ⟨l, hlen, hl, hm, fun hp => ?_⟩
  obtain ⟨b, o, rfl, hf⟩ := hc hp
  exact ⟨b, o, rfl, fun i x hx => hq i x hx b o rfl⟩
end Go.Proofs.Ytallokaboldflaa
