/-
  From a reading of an argument []Op to the words of our walks.
-/
import Derived.Test.YtllpiegdjaafnaaOps
import Derived.Lib.SmallJoins
namespace Go.Proofs.Ytllpiegdjaafnaa
open Go.ChangeShapes Go.WideShapes Go.ChangeAt Go.RowKit

theorem Try.own : ownKnob Try.prog.godebug = none := by kernel_rfl
theorem Try.laidOut : laidOutB Try.prog = true := by kernel_rfl
theorem Try.bytes1 : Try.prog.bytesOf 5 = 1 := by kernel_rfl

theorem open_ops {H : Type} {enc : TypeId × Value → H} {W : World} {base : Nat} {spare : Nat → Bool} {held : Bool} {a : Option Addr} {len cap : Nat} {d : DataW H} {p : List MemPlace}
    (h : DataW.Trod enc Try.prog W base spare held 22 (.slice a len cap) d p) : ∃ l, OpsAt W W.heap.size a len cap l := by
  obtain ⟨hl, _, _, hc⟩ := open_structs Try.underlying22 Try.underlying30 (by kernel_rfl) (by kernel_rfl) (by decide) h
  have each : ∀ i, i < len → ∃ x : OpD, (∀ b o, a = some ⟨b, o, none⟩ →
      W.cell? ⟨b, o + i * 4, none⟩ = some (.bool x.lay) ∧ W.cell? ⟨b, o + i * 4 + 1, none⟩ = some (.int .i64 x.n) ∧
      W.cell? ⟨b, o + i * 4 + 2, none⟩ = some (.int .i64 x.width) ∧ W.cell? ⟨b, o + i * 4 + 3, none⟩ = some (.slice x.A x.m x.d)) ∧ x.At W W.heap.size := by
    intro i hi
    obtain ⟨b, o, rfl, hf⟩ := hc (by omega)
    obtain ⟨v0, n0, y0, c0, t0⟩ := hf i hi 0 _ rfl
    obtain ⟨v1, n1, y1, c1, t1⟩ := hf i hi 1 _ rfl
    obtain ⟨v2, n2, y2, c2, t2⟩ := hf i hi 2 _ rfl
    obtain ⟨v3, n3, y3, c3, t3⟩ := hf i hi 3 _ rfl
    obtain ⟨lay, e0, _⟩ := DataW.trod_bool Try.underlying4 t0
    obtain ⟨n, e1, _, _⟩ := DataW.trod_int Try.underlying3 t1
    obtain ⟨k, e2, _, _⟩ := DataW.trod_int Try.underlying3 t2
    obtain ⟨A, m, dd, e3⟩ := Go.Joins.slice_form Try.underlying26 t3
    simp only [List.cons.injEq, and_true] at e0 e1 e2 e3
    subst e0 e1 e2 e3
    obtain ⟨xs, hsl, _⟩ := open_sl (d := y3.1) (p := y3.2) Try.underlying26 Try.underlying5 (by kernel_rfl) ⟨n3, t3⟩
    refine ⟨⟨lay, n, k, A, m, dd, xs⟩, ?_, hsl, ?_⟩
    · intro b' o' e
      injection e with e; injection e with e1 e2; subst e1; subst e2
      exact ⟨c0, c1, c2, c3⟩
    · intro q hq hm
      obtain ⟨b2, o2, rfl, hlt⟩ := hsl.lt hm
      simp [blkOf] at hq
      omega
  obtain ⟨l, hlen, hq⟩ := list_of len each
  refine ⟨l, hlen, hl, fun hp => ?_, fun x hx => ?_⟩
  · obtain ⟨b, o, rfl, hf⟩ := hc hp
    refine ⟨b, o, rfl, ?_, fun i x hx => (hq i x hx).1 b o rfl⟩
    obtain ⟨v0, _, _, c0, _⟩ := hf 0 hp 0 _ rfl
    exact World.block_lt_of_cell? W _ c0
  · obtain ⟨i, hi⟩ := List.getElem?_of_mem hx
    exact (hq i x hi).2
end Go.Proofs.Ytllpiegdjaafnaa
