/-
  What was appended: LSNs.
-/
import Derived.Test.YtidligegmhlikaaQTorn
namespace Go.Proofs.Ytidligegmhlikaa
open Go Go.RowKit

theorem secX_bd {l : List RcD} {s : Int} {a : Int × RcD} (h : a ∈ secX l s) : 256 * s ≤ a.1 ∧ a.1 < 256 * s + l.length := by
  obtain ⟨i, hi⟩ := List.getElem?_of_mem h
  have hlt : i < l.length := by rw [← secX_len l s]; exact (List.getElem?_eq_some_iff.1 hi).1
  unfold secX at hi
  rw [List.getElem?_map, List.getElem?_zipIdx, List.getElem?_eq_getElem hlt] at hi
  simp at hi
  rw [← hi]
  simp only
  omega
theorem outX_bd : ∀ (cs : List Sc) (k : Nat), (∀ (i : Nat) (c : Sc), cs[i]? = some c → c.Ok ((k + i : Nat) : Int)) → ∀ a ∈ outX cs k, a.1 < 256 * ((k + cs.length : Nat) : Int)
  | [], _, _ => fun a h => by simp [outX] at h
  | c :: cs, k, hok => by
    intro a ha
    rw [outX_cons] at ha
    rw [List.length_cons]
    rcases List.mem_append.1 ha with h | h
    · have h1 := (secX_bd h).2
      have h2 := (hok 0 c rfl).few
      omega
    · have := outX_bd cs (k + 1) (fun i c hc => by rw [show k + 1 + i = k + (i + 1) by omega]; exact hok (i + 1) c hc) a h
      rw [show k + (cs.length + 1) = k + 1 + cs.length by omega]
      exact this
section
variable {b n fr du : Nat} {g g' : Lg} {d d' : Dk} {cs : List Sc} {L : List LgD}
theorem Kept8.above (h : Kept8 b n fr du g d cs L) {N : Nat} (ok : g.Ok N) {r : RcD} {a er : Int} (k : App g d r a er g' d') (he : er = 0) {y : LgD} (hy : y ∈ L) : y.a < a := by
  have hm : y.key ∈ (outX cs 0 ++ bufX g).map keyX := by rw [← h.key]; exact List.mem_map_of_mem hy
  obtain ⟨x, hx, hxk⟩ := List.mem_map.1 hm
  have hxa : x.1 = y.a := congrArg Prod.fst hxk
  have hnx := h.ch.gnx
  have h60 := (fits_may ok.fit).2
  have hb : x.1 < 256 * g.nx + g.l.length := by
    rcases List.mem_append.1 hx with hx | hx
    · have := outX_bd cs 0 (fun i c hc => by rw [Nat.zero_add]; exact h.ch.ok i c hc) x hx
      rw [Nat.zero_add, ← hnx] at this
      omega
    · exact (secX_bd hx).2
  cases k with
  | arg _ => omega
  | full _ _ => omega
  | fit _ _ _ _ _ => omega
  | next _ _ _ _ _ _ => omega
theorem Kept8.below (h : Kept8 b n fr du g d cs L) {i : Nat} {y : LgD} (hy : L[i]? = some y) (hi : i < (outX (cs.take du) 0).length) : y.a < 256 * (du : Int) := by
  have hdn := h.ch.dn
  have hk : (L.map LgD.key)[i]? = ((outX cs 0 ++ bufX g).map keyX)[i]? := by rw [h.key]
  obtain ⟨z, hz⟩ := outX_take cs du 0
  rw [← hz, List.append_assoc, List.getElem?_map, List.getElem?_map, List.getElem?_append_left hi, hy, List.getElem?_eq_getElem hi] at hk
  injection hk with hk
  have ha : y.a = ((outX (cs.take du) 0)[i]).1 := congrArg Prod.fst hk
  have hb := outX_bd (cs.take du) 0 (fun j c hc => by
    rw [List.getElem?_take] at hc
    split at hc
    · rw [Nat.zero_add]; exact h.ch.ok j c hc
    · cases hc) _ (List.getElem_mem hi)
  rw [List.length_take, Nat.zero_add, Nat.min_eq_left hdn] at hb
  omega
theorem Kept8.len (h : Kept8 b n fr du g d cs L) : L.length = (outX cs 0).length + g.l.length := by
  have := congrArg List.length h.key
  rw [List.length_map, List.length_map, List.length_append, bufX, secX_len] at this
  exact this
theorem Kept8.few (h : Kept8 b n fr du g d cs L) {N : Nat} (ok : g.Ok N) : L.length ≤ 60 * n + 60 := by
  have h1 := h.ch.few.2
  have h2 := h.ch.ln
  have h3 := (fits_may ok.fit).2
  have h4 := h.len
  have : 60 * cs.length ≤ 60 * n := Nat.mul_le_mul_left 60 h2
  omega
theorem Kept8.durs (h : Kept8 b n fr du g d cs L) : (outX (cs.take du) 0).length ≤ L.length := by
  have := (outX_take cs du 0).length_le
  have := h.len
  omega
theorem Kept8.force {N : Nat} (h : Kept8 b n fr du g d cs L) (ok : g.Ok N) (hN : d.dur.length = N) (ha : d.armed = false) (hd : d.dead = false) (hw : Was g.l) : ∃ cs1, Kept8 b n fr cs1.length g.forced (g.forcedD d) cs1 L ∧ L.length = (outX (cs1.take cs1.length) 0).length := by
  obtain ⟨cs1, c1, _, c3, _⟩ := chn_force h.ch ok hN ha hd hw
  have hl := g.forced_l
  have hk : L.map LgD.key = (outX cs1 0).map keyX := h.key.trans c3.symm
  refine ⟨cs1, ⟨c1, ?_, h.may⟩, ?_⟩
  · rw [show bufX g.forced = [] by unfold bufX; rw [hl]; rfl, List.append_nil]
    exact hk
  · rw [List.take_length]
    have := congrArg List.length hk
    simpa using this
theorem newG_buf (b n ep st nx : Int) : bufX (newG b n ep st nx) = [] := rfl
end
end Go.Proofs.Ytidligegmhlikaa
