/-
  copy into a row that is known whole, from whatever place on, in our words; arrays of zeros.
-/
import Derived.Test.YtgeodpflaebbgaaWords
import Derived.Laws.CopyOwn
import Derived.Deep.WholeRow
import Derived.Deep.RegionLaw
namespace Go.Proofs.Ytgeodpflaebbgaa
open Go Go.RowKit

section
variable {P : Program} {w : World}
theorem run_copyTo {t e : TypeId} {z : Value} {bytes : Nat} (he : Elem P t e z bytes) (ty : TypeId)
    {dp sp : Option Addr} {dLen dCap sLen sCap : Nat} {g off : Nat} {cur : List Value} {T : TypeId} (hg : w.heap[g]? = some (.cells cur.toArray T (0, 0)))
    {cs : List Value} (hn : cs.length = Nat.min sLen dLen)
    (hpos : 0 < cs.length → dp = some ⟨g, off, none⟩ ∧ ∃ ad, sp = some ad ∧ ∀ j v, cs[j]? = some v → w.cell? (ad.add j) = some v)
    (hfit : off + cs.length ≤ cur.length) (h1 : ∀ v ∈ cs, v.oneCell' = true) :
    ∃ w', (Builtin.copy_ #[t, t] ty #[.slice dp dLen dCap, .slice sp sLen sCap]).run P w = .ok (goInt cs.length) w' ∧
      w'.heap[g]? = some (.cells (splice cur off cs).toArray T (0, 0)) ∧ Mod (fun k => k = g) w w' ∧ w'.heap.size = w.heap.size := by
  obtain ⟨ht, _, i, hi, _, hsz, _⟩ := he
  have hone : (P.info? e).map (·.size) = some 1 := by simp [hi, hsz]
  by_cases h0 : cs.length = 0
  · obtain rfl : cs = [] := List.eq_nil_of_length_eq_zero h0
    exact ⟨w, run_copy_none (P := P) w t t ty e dp sp dLen dCap sLen sCap ht hone (by simpa using hn.symm), by simpa [splice] using hg, Mod.refl _ _, rfl⟩
  · obtain ⟨rfl, ad, rfl, hsrc⟩ := hpos (by omega)
    refine ⟨_, run_copy_row (P := P) w t t ty e g off dLen dCap ad sLen sCap cur.toArray T cs ht hone hg hn hsrc (by simpa using hfit) h1, ?_,
      ⟨rfl, rfl, rfl, by simp [World.setRow], fun k _ hk => setRow_other w g k _ hk⟩, by simp [World.setRow]⟩
    rw [setRow_heap w g _ _ T _ hg]
    simp [splice]

theorem wpList_copyTo {ops : Array Oper} {rest : List Oper} {o : Oper} {a : Act} {Q : Exit → Act → World → Prop} (d s : Operand) {t e : TypeId} {z : Value} {bytes : Nat}
    {dp sp : Option Addr} {dLen dCap sLen sCap : Nat} {g off : Nat} {cur : List Value} {T : TypeId} {cs : List Value}
    (he : Elem P t e z bytes) (hgd : o.guard = none)
    (ho : o.op = .call { callee := .builtin .copy, args := #[d, s], argTypes := #[t, t] })
    (hed : a.eval d = .slice dp dLen dCap) (hes : a.eval s = .slice sp sLen sCap)
    (hg : w.heap[g]? = some (.cells cur.toArray T (0, 0))) (hn : cs.length = Nat.min sLen dLen)
    (hpos : 0 < cs.length → dp = some ⟨g, off, none⟩ ∧ ∃ ad, sp = some ad ∧ ∀ j v, cs[j]? = some v → w.cell? (ad.add j) = some v)
    (hfit : off + cs.length ≤ cur.length) (h1 : ∀ v ∈ cs, v.oneCell' = true)
    (h : ∀ w', w'.heap[g]? = some (.cells (splice cur off cs).toArray T (0, 0)) → Mod (fun k => k = g) w w' → w'.heap.size = w.heap.size → wpList P ops Q rest (a.put o.dst (goInt cs.length)) w') :
    wpList P ops Q (o :: rest) a w := by
  refine wpList_plain hgd fun K hK => ?_
  obtain ⟨w', hr, h2, h3, h4⟩ := run_copyTo (P := P) (w := w) he o.type (dp := dp) (sp := sp) (dLen := dLen) (dCap := dCap) (sLen := sLen) (sCap := sCap) (off := off) hg hn hpos hfit h1
  unfold Oper.wp execOp
  simp only [ho, resolve, invoke, builtin, Sem.run_bind, Sem.run_pure, Result.andThen_ok, List.map_toArray, List.map_cons, List.map_nil, hed, hes, hr]
  exact hK _ _ (h w' h2 h3 h4)

theorem wpList_copyAt {ops : Array Oper} {rest : List Oper} {o : Oper} {a : Act} {Q : Exit → Act → World → Prop} (d s : Operand) {t e : TypeId} {z : Value} {bytes : Nat}
    {sp : Option Addr} {dLen dCap sLen sCap : Nat} {g off : Nat} {cur : List Value} {T : TypeId} {cs : List Value}
    (he : Elem P t e z bytes) (hgd : o.guard = none)
    (ho : o.op = .call { callee := .builtin .copy, args := #[d, s], argTypes := #[t, t] })
    (hed : a.eval d = .slice (some ⟨g, off, none⟩) dLen dCap) (hes : a.eval s = .slice sp sLen sCap)
    (hg : w.heap[g]? = some (.cells cur.toArray T (0, 0))) (hn : cs.length = Nat.min sLen dLen)
    (hpos : 0 < cs.length → ∃ ad, sp = some ad ∧ ∀ j v, cs[j]? = some v → w.cell? (ad.add j) = some v)
    (hfit : off + cs.length ≤ cur.length) (h1 : ∀ v ∈ cs, v.oneCell' = true)
    (h : ∀ w', w'.heap[g]? = some (.cells (splice cur off cs).toArray T (0, 0)) → Mod (fun k => k = g) w w' → w'.heap.size = w.heap.size → wpList P ops Q rest (a.put o.dst (goInt cs.length)) w') :
    wpList P ops Q (o :: rest) a w :=
  wpList_copyTo d s he hgd ho hed hes hg hn (fun hp => ⟨rfl, hpos hp⟩) hfit h1 h

/-- The same, the operation by itself (for a region that draws its order). -/
theorem wp_copyTo {o : Oper} {a : Act} {K : Act → World → Prop} {Q : Exit → Act → World → Prop} (d s : Operand) {t e : TypeId} {z : Value} {bytes : Nat}
    {dp sp : Option Addr} {dLen dCap sLen sCap : Nat} {g off : Nat} {cur : List Value} {T : TypeId} {cs : List Value}
    (he : Elem P t e z bytes)
    (ho : o.op = .call { callee := .builtin .copy, args := #[d, s], argTypes := #[t, t] })
    (hed : a.eval d = .slice dp dLen dCap) (hes : a.eval s = .slice sp sLen sCap)
    (hg : w.heap[g]? = some (.cells cur.toArray T (0, 0))) (hn : cs.length = Nat.min sLen dLen)
    (hpos : 0 < cs.length → dp = some ⟨g, off, none⟩ ∧ ∃ ad, sp = some ad ∧ ∀ j v, cs[j]? = some v → w.cell? (ad.add j) = some v)
    (hfit : off + cs.length ≤ cur.length) (h1 : ∀ v ∈ cs, v.oneCell' = true)
    (h : ∀ w', w'.heap[g]? = some (.cells (splice cur off cs).toArray T (0, 0)) → Mod (fun k => k = g) w w' → w'.heap.size = w.heap.size → K (a.put o.dst (goInt cs.length)) w') :
    Oper.wp P o a w K Q := by
  obtain ⟨w', hr, h2, h3, h4⟩ := run_copyTo (P := P) (w := w) he o.type (dp := dp) (sp := sp) (dLen := dLen) (dCap := dCap) (sLen := sLen) (sCap := sCap) (off := off) hg hn hpos hfit h1
  unfold Oper.wp execOp
  simp only [ho, resolve, invoke, builtin, Sem.run_bind, Sem.run_pure, Result.andThen_ok, List.map_toArray, List.map_cons, List.map_nil, hed, hes, hr]
  exact h w' h2 h3 h4
end

/-- A beginning of a slice of bytes, as a source. -/
theorem Sl.srcTake {w : World} {A : Option Addr} {n c : Nat} {xs : List UInt8} (h : Sl w A n c xs) (k : Nat) (hk : k ≤ n) (hp : 0 < ((xs.take k).map bv).length) :
    ∃ ad, A = some ad ∧ ∀ j v, ((xs.take k).map bv)[j]? = some v → w.cell? (ad.add j) = some v := by
  have hl := h.len
  have hn : 0 < n := by simp [hl] at hp; omega
  obtain ⟨_, _, hs⟩ := h.src
  obtain ⟨ad, hA, hc⟩ := hs hn
  refine ⟨ad, hA, fun j v hv => hc j v ?_⟩
  rw [List.map_take, List.getElem?_take] at hv
  split at hv
  · exact hv
  · cases hv
/-- Zeros. -/
def zeros (n : Nat) : List UInt8 := List.replicate n 0
theorem zeros_len (n : Nat) : (zeros n).length = n := List.length_replicate
def zrow (n : Nat) : Array Value := ((zeros n).map bv).toArray
theorem bv_one (xs : List UInt8) : ∀ v ∈ xs.map bv, v.oneCell' = true := by
  intro u hu
  obtain ⟨x, _, rfl⟩ := List.mem_map.1 hu
  rfl
theorem splice_map (L : List UInt8) (off : Nat) (cs : List UInt8) : splice (L.map bv) off (cs.map bv) = (splice L off cs).map bv := by
  simp [splice, List.map_take, List.map_drop]
end Go.Proofs.Ytgeodpflaebbgaa
