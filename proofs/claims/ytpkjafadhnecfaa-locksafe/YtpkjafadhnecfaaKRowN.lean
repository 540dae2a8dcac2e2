/-
  copy, append of zeros, over rows of elements of several cells.
-/
import Derived.Test.YtpkjafadhnecfaaTMem
import Derived.Lib.AppendZerosOnto
import Derived.Lib.Overlaps
import Derived.Laws.Externs
import Derived.Laws.CopyOwn
import Derived.Deep.RegionLaw
namespace Go.Proofs.Ytpkjafadhnecfaa
open Go Go.RowKit

section
variable {P : Program} {w : World}
theorem run_copyN {t e : TypeId} {z : Value} {size bytes : Nat} (he : ElemN P t e z size bytes) (ty : TypeId)
    {dp sp : Option Addr} {dLen dCap sLen sCap : Nat} {g off : Nat} {cur : List Value} {T : TypeId} (hg : w.heap[g]? = some (.cells cur.toArray T (0, 0)))
    {m : Nat} (hm : Nat.min sLen dLen = m) {cs : List Value} (hn : cs.length = m * size)
    (hpos : 0 < m → dp = some ⟨g, off, none⟩ ∧ ∃ ad, sp = some ad ∧ ∀ j v, cs[j]? = some v → w.cell? (ad.add j) = some v)
    (hfit : off + cs.length ≤ cur.length) (h1 : ∀ v ∈ cs, v.oneCell' = true) :
    ∃ w', (Builtin.copy_ #[t, t] ty #[.slice dp dLen dCap, .slice sp sLen sCap]).run P w = .ok (goInt m) w' ∧
      w'.heap[g]? = some (.cells (splice cur off cs).toArray T (0, 0)) ∧ Mod (fun k => k = g) w w' ∧ w'.heap.size = w.heap.size := by
  obtain ⟨ht, _, hs0, i, hi, _, hsz, _⟩ := he
  by_cases h0 : m = 0
  · subst h0
    obtain rfl : cs = [] := List.eq_nil_of_length_eq_zero (by simpa using hn)
    refine ⟨w, ?_, by simpa [splice] using hg, Mod.refl _ _, rfl⟩
    cases sp <;> cases dp <;> simp [Builtin.copy_, run_underlying ht, Builtin.lenOf, Builtin.firstCells, sizeOf, typeInfo, hi, hm, loadCells, loadCellsFrom, storeCells]
  · obtain ⟨rfl, ad, rfl, hsrc⟩ := hpos (by omega)
    have hst := run_storeCells_at P g off T cs 0 cur.toArray w hg (by simpa using hfit) h1
    have hl := run_loadCells_list (P := P) w ad cs hsrc
    rw [hn] at hl
    refine ⟨w.setRow g (splice cur off cs).toArray, by simp [Builtin.copy_, run_underlying ht, Builtin.lenOf, Builtin.firstCells, sizeOf, typeInfo, hi, hsz, hm, hl, hst, splice], setRow_heap w g _ _ T _ hg,
      ⟨rfl, rfl, rfl, by simp [World.setRow], fun k _ hk => setRow_other w g k _ hk⟩, by simp [World.setRow]⟩

/-- append of what fits: in place. -/
theorem run_appRoomN {t e : TypeId} {z : Value} {size bytes : Nat} (he : ElemN P t e z size bytes) (ty : TypeId)
    {g sLen sCap : Nat} {cur : List Value} (hg : w.heap[g]? = some (.cells cur.toArray e (0, 0)))
    {A2 : Option Addr} {m c2 : Nat} {news : List Value} (hs : SrcN w A2 m size news) (hroom : sLen + m ≤ sCap) (hfit : sLen * size + news.length ≤ cur.length) :
    ∃ w', (Builtin.append_ #[t, t] ty #[.slice (some ⟨g, 0, none⟩) sLen sCap, .slice A2 m c2]).run P w = .ok (.slice (some ⟨g, 0, none⟩) (sLen + m) sCap) w' ∧
      w'.heap[g]? = some (.cells (splice cur (sLen * size) news).toArray e (0, 0)) ∧ Mod (fun k => k = g) w w' ∧ w'.heap.size = w.heap.size := by
  obtain ⟨ht, _, hs0, i, hi, _, hsz, _⟩ := he
  by_cases h0 : m = 0
  · subst h0
    obtain rfl : news = [] := List.eq_nil_of_length_eq_zero (by simpa using hs.1)
    refine ⟨w, ?_, by simpa [splice] using hg, Mod.refl _ _, rfl⟩
    have hr : sLen ≤ sCap := by omega
    cases A2 <;> simp [Builtin.append_, run_underlying ht, Builtin.lenOf, Builtin.firstCells, sizeOf, typeInfo, hi, hr, loadCells, loadCellsFrom, storeCells]
  · obtain ⟨ad, rfl, hc⟩ := hs.2.2 (by omega)
    have hr := run_append_room (P := P) w t ty e i ht hi g sLen sCap cur.toArray hg ad m c2 news (by rw [hsz]; exact hs.1) hc hs.2.1 hroom (by rw [hsz]; simpa using hfit)
    rw [hsz] at hr
    refine ⟨_, hr, ?_, ⟨rfl, rfl, rfl, by simp [World.setRow], fun k _ hk => setRow_other w g k _ hk⟩, by simp [World.setRow]⟩
    rw [setRow_heap w g _ _ e _ hg]
    simp [splice]

/-- clear of some elements of a row. -/
theorem run_clearN {t e : TypeId} {z : Value} {size bytes : Nat} (he : ElemN P t e z size bytes) (hz1 : ∀ v ∈ z.cells.toList, v.oneCell' = true) (ty : TypeId)
    {g off m c : Nat} {A : Option Addr} {cur : List Value} (hg : w.heap[g]? = some (.cells cur.toArray e (0, 0))) (hA : 0 < m → A = some ⟨g, off, none⟩) (hfit : off + m * size ≤ cur.length) :
    ∃ w' zs, (Builtin.clear_ #[t] ty #[.slice A m c]).run P w = .ok (.tuple #[]) w' ∧ zs.length = m * size ∧
      w'.heap[g]? = some (.cells (splice cur off zs).toArray e (0, 0)) ∧ Mod (fun k => k = g) w w' ∧ w'.heap.size = w.heap.size := by
  obtain ⟨ht, hzs, hs0, i, hi, hz, hsz, _⟩ := he
  by_cases h0 : m = 0
  · subst h0
    refine ⟨w, [], ?_, by simp, by simpa [splice] using hg, Mod.refl _ _, rfl⟩
    cases A <;> simp [Builtin.clear_, run_underlying ht]
  · obtain rfl := hA (by omega)
    have hlen : (Builtin.zeroCells z.cells m).toList.length = m * size := by simp [Builtin.zeroCells, hzs]
    have hone : ∀ v ∈ (Builtin.zeroCells z.cells m).toList, v.oneCell' = true := by
      intro v hv
      simp [Builtin.zeroCells] at hv
      obtain ⟨a, ha, rfl⟩ := hv
      refine hz1 _ ?_
      have hp : 0 < z.cells.size := by omega
      have hlt : a % z.cells.size < z.cells.size := Nat.mod_lt _ hp
      rw [getElem!_pos z.cells _ hlt]
      exact Array.getElem_mem_toList hlt
    have hst := run_storeCells_at P g off e (Builtin.zeroCells z.cells m).toList 0 cur.toArray w hg (by rw [hlen]; simpa using hfit) hone
    obtain ⟨q, rfl⟩ : ∃ q, m = q + 1 := ⟨m - 1, by omega⟩
    refine ⟨w.setRow g (splice cur off (Builtin.zeroCells z.cells (q + 1)).toList).toArray, (Builtin.zeroCells z.cells (q + 1)).toList, by simp [Builtin.clear_, run_underlying ht, zeroValue, typeInfo, hi, hz, hst, splice], hlen, setRow_heap w g _ _ e _ hg,
      ⟨rfl, rfl, rfl, by simp [World.setRow], fun k _ hk => setRow_other w g k _ hk⟩, by simp [World.setRow]⟩

/-! ### As steps of a walk -/
section
variable {o : Oper} {a : Act} {K : Act → World → Prop} {Q : Exit → Act → World → Prop} {t e : TypeId} {z : Value} {size bytes : Nat}
theorem wp_copyN (d s : Operand) (he : ElemN P t e z size bytes) (ho : o.op = .call { callee := .builtin .copy, args := #[d, s], argTypes := #[t, t] })
    {dp sp : Option Addr} {dLen dCap sLen sCap : Nat} (hed : a.eval d = .slice dp dLen dCap) (hes : a.eval s = .slice sp sLen sCap)
    {g off : Nat} {cur : List Value} {T : TypeId} (hg : w.heap[g]? = some (.cells cur.toArray T (0, 0)))
    {m : Nat} (hm : Nat.min sLen dLen = m) {cs : List Value} (hn : cs.length = m * size)
    (hpos : 0 < m → dp = some ⟨g, off, none⟩ ∧ ∃ ad, sp = some ad ∧ ∀ j v, cs[j]? = some v → w.cell? (ad.add j) = some v)
    (hfit : off + cs.length ≤ cur.length) (h1 : ∀ v ∈ cs, v.oneCell' = true)
    (h : ∀ w', w'.heap[g]? = some (.cells (splice cur off cs).toArray T (0, 0)) → Mod (fun k => k = g) w w' → w'.heap.size = w.heap.size → K (a.put o.dst (goInt m)) w') : o.wp P a w K Q := by
  obtain ⟨w', hr, h2, h3, h4⟩ := run_copyN (P := P) (w := w) he o.type (dp := dp) (sp := sp) (dCap := dCap) (sCap := sCap) hg hm hn hpos hfit h1
  unfold Oper.wp execOp
  simp only [ho, resolve, invoke, builtin, Sem.run_bind, Sem.run_pure, Result.andThen_ok, List.map_toArray, List.map_cons, List.map_nil, hed, hes, hr]
  exact h w' h2 h3 h4
theorem wp_appRoomN (d s : Operand) (he : ElemN P t e z size bytes) (ho : o.op = .call { callee := .builtin .append, args := #[d, s], argTypes := #[t, t] })
    {g sLen sCap N : Nat} {A2 : Option Addr} {m c2 : Nat} (hed : a.eval d = .slice (some ⟨g, 0, none⟩) sLen sCap) (hes : a.eval s = .slice A2 m c2) (hN : sLen + m = N)
    {cur : List Value} (hg : w.heap[g]? = some (.cells cur.toArray e (0, 0)))
    {news : List Value} (hs : SrcN w A2 m size news) (hroom : sLen + m ≤ sCap) (hfit : sLen * size + news.length ≤ cur.length)
    (h : ∀ w', w'.heap[g]? = some (.cells (splice cur (sLen * size) news).toArray e (0, 0)) → Mod (fun k => k = g) w w' → w'.heap.size = w.heap.size → K (a.put o.dst (.slice (some ⟨g, 0, none⟩) N sCap)) w') : o.wp P a w K Q := by
  subst hN
  obtain ⟨w', hr, h2, h3, h4⟩ := run_appRoomN (P := P) (w := w) he o.type (c2 := c2) hg hs hroom hfit
  unfold Oper.wp execOp
  simp only [ho, resolve, invoke, builtin, Sem.run_bind, Sem.run_pure, Result.andThen_ok, List.map_toArray, List.map_cons, List.map_nil, hed, hes, hr]
  exact h w' h2 h3 h4
theorem wp_clearN (d : Operand) (he : ElemN P t e z size bytes) (hz1 : ∀ v ∈ z.cells.toList, v.oneCell' = true) (ho : o.op = .call { callee := .builtin .clear, args := #[d], argTypes := #[t] })
    {g off m c : Nat} {A : Option Addr} (hed : a.eval d = .slice A m c) {cur : List Value} (hg : w.heap[g]? = some (.cells cur.toArray e (0, 0))) (hA : 0 < m → A = some ⟨g, off, none⟩) (hfit : off + m * size ≤ cur.length)
    (h : ∀ w' zs, zs.length = m * size → w'.heap[g]? = some (.cells (splice cur off zs).toArray e (0, 0)) → Mod (fun k => k = g) w w' → w'.heap.size = w.heap.size → K (a.put o.dst (.tuple #[])) w') : o.wp P a w K Q := by
  obtain ⟨w', zs, hr, h1, h2, h3, h4⟩ := run_clearN (P := P) (w := w) he hz1 o.type (c := c) hg hA hfit
  unfold Oper.wp execOp
  simp only [ho, resolve, invoke, builtin, Sem.run_bind, Sem.run_pure, Result.andThen_ok, List.map_toArray, List.map_cons, List.map_nil, hed, hr]
  exact h w' zs h1 h2 h3 h4
/-- append of k zeros where there is no room: a new row. -/
theorem wp_appZerosN (d s : Operand) {tn : TypeId} {kn : IntKind} (he : ElemN P t e z size bytes) (htn : P.underlying tn = some (.int kn)) (ho : o.op = .call { callee := .builtin .append, args := #[d, s], argTypes := #[t, tn] })
    {A : Option Addr} {n c k N : Nat} {kz : Int} (hed : a.eval d = .slice A n c) (hes : a.eval s = .int .i64 kz) (hkz : kz = k) (hN : n + k = N) {news : List Value} (hs : SrcN w A n size news) (hk : 0 < k) (hg : c < n + k) (hnc : n ≤ c) (hb : (n + k) * bytes ≤ 140737488355328) (h63 : n + k ≤ maxLen)
    (h : ∀ (w' : World) (zs : List Value) (c' : Nat), w'.heap[w.heap.size]? = some (.cells (news ++ zs).toArray e (0, 0)) → (news ++ zs).length = c' * size → N ≤ c' → c' ≤ maxLen → Mod (fun _ => False) w w' → w'.heap.size = w.heap.size + 1 → K (a.put o.dst (.slice (some ⟨w.heap.size, 0, none⟩) N c')) w') : o.wp P a w K Q := by
  subst hkz
  subst hN
  obtain ⟨ht, hzs, hs0, i, hi, hz, hsz, hby⟩ := he
  have hold : (Builtin.firstCells i.size n (.slice A n c)).run P w.drew = .ok news.toArray w.drew := by
    cases A with
    | none =>
      have h0 : n = 0 := by
        rcases Nat.eq_zero_or_pos n with h0 | h0
        · exact h0
        · obtain ⟨ad, e, _⟩ := hs.2.2 h0; cases e
      subst h0
      obtain rfl : news = [] := List.eq_nil_of_length_eq_zero (by simpa using hs.1)
      exact run_firstCells_none w.drew _ 0 0 c
    | some ad =>
      refine run_firstCells_some w.drew _ n ad n c news (by rw [hsz]; exact hs.1) (fun j v hv => ?_)
      have hp : 0 < n := by
        have := (List.getElem?_eq_some_iff.1 hv).1
        rcases Nat.eq_zero_or_pos n with h0 | h0
        · rw [hs.1, h0] at this; simp at this
        · exact h0
      obtain ⟨ad', e, hc⟩ := hs.2.2 hp
      injection e with e
      subst e
      exact hc j v hv
  have hgs : Builtin.nextslicecap (n + k) c * i.bytes ≤ 281474976710656 := by rw [hby]; exact growslice_fits hg hb
  have hr := Go.Lib.run_append_grow_zeros (P := P) w t tn o.type e i z .i64 kn ht htn hi hz A n c news hold k hk (by omega) hg (by unfold maxLen at h63; omega) (by rw [hby]; have : k * bytes ≤ (n + k) * bytes := Nat.mul_le_mul_right _ (by omega); omega) hgs
  have hge : n + k ≤ grownCap w (n + k) c e := grownCap_ge w _ _ _
  have hle : grownCap w (n + k) c e ≤ maxLen := grownCap_le_maxLen w _ _ _ h63
  unfold Oper.wp execOp
  simp only [ho, resolve, invoke, builtin, Sem.run_bind, Sem.run_pure, Result.andThen_ok, List.map_toArray, List.map_cons, List.map_nil, hed, hes, hr]
  have hlen : (news ++ ((Builtin.zeroCells z.cells k).toList ++ (Builtin.zeroCells z.cells (grownCap w (n + k) c e - (n + k))).toList)).length = grownCap w (n + k) c e * size := by
    simp only [List.length_append, Array.length_toList, size_zeroCells, hzs, hs.1, ← Nat.add_mul]
    congr 1
    omega
  refine h _ ((Builtin.zeroCells z.cells k).toList ++ (Builtin.zeroCells z.cells (grownCap w (n + k) c e - (n + k))).toList) _ ?_ hlen hge hle ((Mod.refl _ w).drew.alloc _) (by rw [World.size_alloc]; rfl)
  have := heap_alloc_new w.drew (.cells (news.toArray ++ Builtin.zeroCells z.cells k ++ Builtin.zeroCells z.cells (grownCap w (n + k) c e - (n + k))) e)
  refine Eq.trans this ?_
  congr 2
  apply Array.ext'
  simp
end
end
end Go.Proofs.Ytpkjafadhnecfaa
