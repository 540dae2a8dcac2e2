/-
  The chain of log sectors that a log has written, and what a crash leaves of it.
  The chain, call by call; what is read of it.
-/
import Derived.Test.YtnbamljaiahmdaaGreatQLay
import Derived.Test.YtnbamljaiahmdaaGreatQW3
import Derived.Test.YtnbamljaiahmdaaGreatQNext
namespace Go.Proofs.YtnbamljaiahmdaaGreat
open Go Go.RowKit

/-! ### Lists of log sectors from the number k on -/
def ms (l : List Sc) (k : Nat) : List Bm := (l.zipIdx k).map fun p => p.1.m p.2
def pOf (b : Nat) (l : List Sc) (k : Nat) : List (Nat × List UInt8) := (l.zipIdx k).map fun p => (b + p.2, p.1.sec p.2)
def secX (l : List RcD) (s : Int) : List (Int × RcD) := l.zipIdx.map fun p => (256 * s + p.2, p.1)
def outX (l : List Sc) (k : Nat) : List (Int × RcD) := (l.zipIdx k).flatMap fun p => secX p.1.l p.2
def keyX (p : Int × RcD) : Int × List UInt8 := (p.1, encB p.2)
def bufX (g : Lg) : List (Int × RcD) := secX g.l g.nx
theorem ms_cons (c : Sc) (l : List Sc) (k : Nat) : ms (c :: l) k = c.m k :: ms l (k + 1) := rfl
theorem pOf_cons (b : Nat) (c : Sc) (l : List Sc) (k : Nat) : pOf b (c :: l) k = (b + k, c.sec k) :: pOf b l (k + 1) := rfl
theorem outX_cons (c : Sc) (l : List Sc) (k : Nat) : outX (c :: l) k = secX c.l k ++ outX l (k + 1) := rfl
theorem pOf_snoc (b : Nat) (l : List Sc) (c : Sc) (k : Nat) : pOf b (l ++ [c]) k = pOf b l k ++ [(b + (k + l.length), c.sec (k + l.length : Nat))] := by
  unfold pOf
  rw [List.zipIdx_append, List.map_append]
  rfl
theorem outX_snoc (l : List Sc) (c : Sc) (k : Nat) : outX (l ++ [c]) k = outX l k ++ secX c.l (k + l.length : Nat) := by
  unfold outX
  rw [List.zipIdx_append, List.flatMap_append]
  simp
theorem secX_snoc (l : List RcD) (x : RcD) (s : Int) : secX (l ++ [x]) s = secX l s ++ [(256 * s + l.length, x)] := by
  unfold secX
  rw [List.zipIdx_append, List.map_append]
  simp
theorem secX_len (l : List RcD) (s : Int) : (secX l s).length = l.length := by simp [secX]
theorem outX_take (l : List Sc) (t k : Nat) : outX (l.take t) k <+: outX l k := by
  refine ⟨outX (l.drop t) (k + (l.take t).length), ?_⟩
  unfold outX
  rw [← List.flatMap_append, ← List.zipIdx_append, List.take_append_drop]
theorem pOf_len (b : Nat) (l : List Sc) (k : Nat) : (pOf b l k).length = l.length := by simp [pOf]

/-- What is laid. -/
theorem lay_pOf (b : Nat) : ∀ (l : List Sc) (k : Nat) (D : List (List UInt8)), b + (k + l.length) ≤ D.length → ∀ i, (lay D (pOf b l k))[b + i]? = if k ≤ i ∧ i < k + l.length then (l[i - k]?).map fun c => c.sec i else D[b + i]?
  | [], k, D, _, i => by
    rw [if_neg (by simp)]
    rfl
  | c :: l, k, D, hD, i => by
    rw [pOf_cons]
    show (lay (D.set (b + k) (c.sec k)) (pOf b l (k + 1)))[b + i]? = _
    rw [lay_pOf b l (k + 1) _ (by rw [List.length_set]; simp at hD; omega) i]
    simp only [List.length_cons] at hD ⊢
    by_cases h : i = k
    · subst h
      rw [if_neg (by omega), if_pos (by omega), Nat.sub_self, List.getElem?_set_self (by omega)]
      rfl
    · by_cases h2 : k + 1 ≤ i ∧ i < k + 1 + l.length
      · rw [if_pos h2, if_pos (by omega), show i - k = (i - (k + 1)) + 1 by omega, List.getElem?_cons_succ]
      · rw [if_neg h2, if_neg (by omega), List.getElem?_set_ne (by omega)]
/-- What a crash leaves. -/
theorem crash_pOf (b : Nat) (f : Nat → Nat) : ∀ (l : List Sc) (k j : Nat) (D : List (List UInt8)), b + (k + l.length) ≤ D.length → ∀ i, (crashGo f j (pOf b l k) D)[b + i]? = if k ≤ i ∧ i < k + l.length then (l[i - k]?).bind fun c => (D[b + i]?).map fun X => partOf X (c.sec i) (f (j + (i - k))) else D[b + i]?
  | [], k, j, D, _, i => by
    rw [if_neg (by simp)]
    rfl
  | c :: l, k, j, D, hD, i => by
    rw [pOf_cons]
    show (crashGo f (j + 1) (pOf b l (k + 1)) (D.set (b + k) (partOf (D.getD (b + k) []) (c.sec k) (f j))))[b + i]? = _
    rw [crash_pOf b f l (k + 1) (j + 1) _ (by rw [List.length_set]; simp at hD; omega) i]
    simp only [List.length_cons] at hD ⊢
    by_cases h : i = k
    · subst h
      rw [if_neg (by omega), if_pos (by omega), Nat.sub_self, List.getElem?_set_self (by omega)]
      have hX : D[b + i]? = some D[b + i] := List.getElem?_eq_getElem (by omega)
      simp [List.getD_eq_getElem?_getD, hX]
    · by_cases h2 : k + 1 ≤ i ∧ i < k + 1 + l.length
      · rw [if_pos h2, if_pos (by omega), show i - k = (i - (k + 1)) + 1 by omega, List.getElem?_cons_succ, List.getElem?_set_ne (by omega)]
        rw [show j + 1 + (i - (k + 1)) = j + (i - (k + 1) + 1) by omega]
      · rw [if_neg h2, if_neg (by omega), List.getElem?_set_ne (by omega)]

/-! ### The chain -/
def prevB (cs : List Sc) : Nat → Bm
  | 0 => .zero
  | i + 1 => match cs[i]? with
    | some c => c.m i
    | none => .zero
structure Chn (b n fr du : Nat) (g : Lg) (d : Dk) (cs : List Sc) : Prop where
  gb : g.b = b
  gn : g.n = n
  st : g.st = 0
  gfr : g.fr = fr
  gdu : g.du = du
  gnx : g.nx = cs.length
  fd : fr ≤ du
  dn : du ≤ cs.length
  ln : cs.length ≤ n
  dl : b + n ≤ d.dur.length
  e1 : 1 ≤ g.ep
  ok : ∀ (i : Nat) (c : Sc), cs[i]? = some c → c.Ok (i : Int)
  fol : ∀ (i : Nat) (c : Sc), cs[i]? = some c → folB (prevB cs i) (c.m i) = true
  new_ : ∀ (i : Nat) (c : Sc), cs[i]? = some c → fr ≤ i → c.e = g.ep ∧ c.f = (fr : Int)
  old : ∀ (i : Nat) (c : Sc), cs[i]? = some c → i < fr → c.e < g.ep
  dur : ∀ (i : Nat) (c : Sc), cs[i]? = some c → i < du → d.dur[b + i]? = some (c.sec i)
  pend : d.pend = pOf b (cs.drop du) du
  lay : ∀ i, du ≤ i → i < n → ∃ X, d.dur[b + i]? = some X ∧ Lay i g.ep X
  no : du = fr → fr < n → ∀ X m, d.dur[b + fr]? = some X → batM X fr = some m → folB (prevB cs fr) m = false

theorem prevB_take {cs : List Sc} {t i : Nat} (h : i ≤ t) : prevB (cs.take t) i = prevB cs i := by
  cases i with
  | zero => rfl
  | succ i =>
    show (match (cs.take t)[i]? with | some c => c.m i | none => Bm.zero) = (match cs[i]? with | some c => c.m i | none => Bm.zero)
    rw [List.getElem?_take, if_pos (by omega)]
theorem prevB_append {cs ds : List Sc} {i : Nat} (h : i ≤ cs.length) : prevB (cs ++ ds) i = prevB cs i := by
  cases i with
  | zero => rfl
  | succ i =>
    show (match (cs ++ ds)[i]? with | some c => c.m i | none => Bm.zero) = (match cs[i]? with | some c => c.m i | none => Bm.zero)
    rw [List.getElem?_append_left (by omega)]

/-- What is read of a chain that stops at t. -/
theorem bats_chain {cs : List Sc} {R : Int → List UInt8} {n t : Nat} (ht : t ≤ cs.length) (htn : t ≤ n) (hR : ∀ (i : Nat) (c : Sc), cs[i]? = some c → i < t → R i = c.sec i) (ok : ∀ (i : Nat) (c : Sc), cs[i]? = some c → c.Ok (i : Int)) (fol : ∀ (i : Nat) (c : Sc), cs[i]? = some c → folB (prevB cs i) (c.m i) = true)
    (hs : t < n → ∀ m, batM (R t) t = some m → folB (prevB cs t) m = false) : ∀ k i, i + k = t → batsM R (n - i) i (prevB cs i) = ms ((cs.take t).drop i) i
  | 0, i, hi => by
    obtain rfl : i = t := by omega
    rw [List.drop_of_length_le (by rw [List.length_take]; omega)]
    show _ = []
    by_cases h : i < n
    · refine batsM_end R ?_
      cases hb : batM (R i) i with
      | none => exact accM_no1 hb
      | some m => exact accM_no2 hb (hs h m hb)
    · rw [show n - i = 0 by omega]
      rfl
  | k + 1, i, hi => by
    have hc : cs[i]? = some (cs[i]'(by omega)) := List.getElem?_eq_getElem _
    have hb : batM (R i) i = some ((cs[i]'(by omega)).m i) := by
      rw [hR i _ hc (by omega)]
      exact batM_sec (ok i _ hc)
    have hd : (cs.take t).drop i = (cs[i]'(by omega)) :: (cs.take t).drop (i + 1) := by
      rw [List.drop_eq_getElem_cons (by rw [List.length_take]; omega), List.getElem_take]
    rw [show n - i = (n - (i + 1)) + 1 by omega, batsM_go R (accM_yes hb (fol i _ hc)), hd, ms_cons]
    congr 1
    have ih := bats_chain ht htn hR ok fol hs k (i + 1) (by omega)
    have hp : prevB cs (i + 1) = (cs[i]'(by omega)).m i := by
      show (match cs[i]? with | some c => c.m i | none => Bm.zero) = _
      rw [hc]
    rw [hp] at ih
    exact ih
theorem old_no {E : Int} {b m : Bm} (hb : b.e = E) (hE : 1 ≤ E) (hm : m.e < E) : folB b m = false := by
  unfold folB
  rw [if_neg (by omega), if_neg (by omega), decide_eq_false (by omega)]
  rfl
section
variable {b n fr du : Nat} {g : Lg} {d : Dk} {cs : List Sc}
theorem Chn.prev_e (h : Chn b n fr du g d cs) {i : Nat} (h1 : fr < i) (h2 : i ≤ cs.length) : (prevB cs i).e = g.ep := by
  obtain ⟨j, rfl⟩ : ∃ j, i = j + 1 := ⟨i - 1, by omega⟩
  have hc : cs[j]? = some (cs[j]'(by omega)) := List.getElem?_eq_getElem _
  show Bm.e (match cs[j]? with | some c => c.m j | none => Bm.zero) = _
  rw [hc]
  exact (h.new_ j _ hc (by omega)).1
/-- What lay there before this epoch is not read behind the chain. -/
theorem Chn.stale (h : Chn b n fr du g d cs) {i : Nat} (h1 : du ≤ i) (h2 : i ≤ cs.length) (h3 : i < n) {X : List UInt8} (hX : d.dur[b + i]? = some X) {m : Bm} (hm : batM X i = some m) : folB (prevB cs i) m = false := by
  have hfd := h.fd
  by_cases hi : fr < i
  · obtain ⟨Y, hY, hl⟩ := h.lay i h1 h3
    rw [hX] at hY
    injection hY with hY
    subst hY
    exact old_no (h.prev_e hi h2) h.e1 (hl.bat hm)
  · obtain rfl : i = fr := by omega
    exact h.no (by omega) h3 X m hX hm
end
end Go.Proofs.YtnbamljaiahmdaaGreat

namespace Go.Proofs.YtnbamljaiahmdaaGreat
open Go Go.RowKit

section
variable {b n fr du N : Nat} {g : Lg} {d : Dk} {cs : List Sc}
theorem Chn.withL (h : Chn b n fr du g d cs) (l : List RcD) : Chn b n fr du { g with l := l } d cs :=
  ⟨h.gb, h.gn, h.st, h.gfr, h.gdu, h.gnx, h.fd, h.dn, h.ln, h.dl, h.e1, h.ok, h.fol, h.new_, h.old, h.dur, h.pend, h.lay, h.no⟩
theorem chn_new (hN : b + n ≤ N) : Chn b n 0 0 (newG b n 1 0 0) (Dk.fresh (List.replicate N (fill 0))) [] := by
  have hX : ∀ i, i < n → (Dk.fresh (List.replicate N (fill 0))).dur[b + i]? = some (zeros 256) := fun i hi => by
    show (List.replicate N (fill 0))[b + i]? = _
    rw [List.getElem?_replicate, if_pos (by omega)]
    rfl
  refine ⟨rfl, rfl, rfl, rfl, rfl, rfl, Nat.le_refl _, Nat.le_refl _, Nat.zero_le _, by show b + n ≤ (List.replicate N (fill 0)).length; rw [List.length_replicate]; exact hN, by show (1 : Int) ≤ 1; omega, fun i c h => by simp at h, fun i c h => by simp at h, fun i c h => by simp at h, fun i c h => by simp at h, fun i c h => by simp at h, rfl, fun i _ hi => ⟨_, hX i hi, lay_zero _⟩, fun _ h0 X m h1 h2 => ?_⟩
  rw [hX 0 h0] at h1
  injection h1 with h1
  rw [← h1, bat_zero] at h2
  cases h2
theorem Chn.prev_f (h : Chn b n fr du g d cs) {i : Nat} (h1 : fr < i) (h2 : i ≤ cs.length) : (prevB cs i).f = fr := by
  obtain ⟨j, rfl⟩ : ∃ j, i = j + 1 := ⟨i - 1, by omega⟩
  have hc : cs[j]? = some (cs[j]'(by omega)) := List.getElem?_eq_getElem _
  show Bm.f (match cs[j]? with | some c => c.m j | none => Bm.zero) = _
  rw [hc]
  exact (h.new_ j _ hc (by omega)).2
/-- A log sector is written. -/
theorem chn_wrote (h : Chn b n fr du g d cs) (ok : g.Ok N) (hN : d.dur.length = N) (ha : d.armed = false) (hd : d.dead = false) (hl : g.l ≠ []) (hw : Was g.l) :
    Chn b n fr du g.wrote (d.write g.place g.sec) (cs ++ [⟨g.ep, g.fr, g.l⟩]) := by
  have hs := ok.some_ hl
  have hst := h.st
  have hgn := h.gn
  have hnx := h.gnx
  have hdn := h.dn
  have hfd := h.fd
  have hgf := h.gfr
  have hlt : cs.length < n := by omega
  have hwr := (Dk.write_good ha hd ok.place.1 (by rw [hN]; exact ok.place.2) ok.secL).1
  have hpl : g.place.toNat = b + cs.length := by
    unfold Lg.place
    rw [hnx, hgn, Int.emod_eq_of_lt (by omega) (by omega), h.gb]
    omega
  have hsec : g.sec = (⟨g.ep, g.fr, g.l⟩ : Sc).sec cs.length := by unfold Lg.sec Sc.sec; rw [hnx]
  have hget : ∀ (i : Nat) (c : Sc), (cs ++ [⟨g.ep, g.fr, g.l⟩])[i]? = some c → cs[i]? = some c ∨ (i = cs.length ∧ c = ⟨g.ep, g.fr, g.l⟩) := fun i c hc => by
    rcases Nat.lt_or_ge i cs.length with h1 | h1
    · rw [List.getElem?_append_left h1] at hc; exact .inl hc
    · rw [List.getElem?_append_right h1] at hc
      have h2 : i - cs.length = 0 := by
        have := (List.getElem?_eq_some_iff.1 hc).1
        simp at this
        omega
      rw [h2] at hc
      injection hc with hc
      exact .inr ⟨by omega, hc.symm⟩
  have hlen : ∀ (i : Nat) (c : Sc), cs[i]? = some c → i < cs.length := fun i c hc => (List.getElem?_eq_some_iff.1 hc).1
  rw [hwr]
  refine ⟨h.gb, h.gn, h.st, h.gfr, h.gdu, ?_, h.fd, ?_, ?_, h.dl, h.e1, ?_, ?_, ?_, ?_, ?_, ?_, h.lay, ?_⟩
  · show g.nx + 1 = _
    rw [List.length_append, hnx]
    simp
  · rw [List.length_append]; omega
  · rw [List.length_append]; exact hlt
  · intro i c hc
    rcases hget i c hc with hc | ⟨rfl, rfl⟩
    · exact h.ok i c hc
    · exact ⟨ok.e1, ok.e2, ok.f0, by show g.fr ≤ _; rw [hgf]; omega, by omega, by have := ok.nm; omega, ok.fit, hw, hl⟩
  · intro i c hc
    rcases hget i c hc with hc | ⟨rfl, rfl⟩
    · rw [prevB_append (Nat.le_of_lt (hlen i c hc))]
      exact h.fol i c hc
    · rw [prevB_append (Nat.le_refl _)]
      have he1 := h.e1
      by_cases hf : fr < cs.length
      · unfold folB
        rw [if_neg (by rw [h.prev_e hf (Nat.le_refl _)]; omega), if_pos (by rw [h.prev_e hf (Nat.le_refl _)]; rfl), h.prev_f hf (Nat.le_refl _)]
        show decide (g.fr = _) = true
        rw [hgf, decide_eq_true rfl]
      · cases hcl : cs.length with
        | zero => rfl
        | succ j =>
          have hc : cs[j]? = some (cs[j]'(by omega)) := List.getElem?_eq_getElem _
          have ho := h.old j _ hc (by omega)
          have hk := (h.ok j _ hc).e1
          show folB (match cs[j]? with | some c => c.m j | none => Bm.zero) _ = true
          rw [hc]
          unfold folB
          rw [if_neg (by show ¬ (cs[j]'(by omega)).e = 0; omega), if_neg (by show ¬ (cs[j]'(by omega)).e = g.ep; omega)]
          show (decide ((cs[j]'(by omega)).e < g.ep) && decide (g.fr = ((j + 1 : Nat) : Int))) = true
          rw [decide_eq_true ho, decide_eq_true (by omega)]
          rfl
  · intro i c hc hi
    rcases hget i c hc with hc | ⟨rfl, rfl⟩
    · exact h.new_ i c hc hi
    · exact ⟨rfl, hgf⟩
  · intro i c hc hi
    rcases hget i c hc with hc | ⟨rfl, rfl⟩
    · exact h.old i c hc hi
    · omega
  · intro i c hc hi
    rcases hget i c hc with hc | ⟨rfl, rfl⟩
    · exact h.dur i c hc hi
    · omega
  · show d.pend ++ [(g.place.toNat, g.sec)] = _
    rw [List.drop_append_of_le_length hdn, pOf_snoc, h.pend, hpl, hsec, List.length_drop, show du + (cs.length - du) = cs.length by omega]
  · intro e hn X m hX hm
    rw [prevB_append (by omega)]
    exact h.no e hn X m hX hm
/-- All is synced. -/
theorem chn_sync (h : Chn b n fr du g d cs) (ha : d.armed = false) (hd : d.dead = false) : Chn b n fr cs.length { g with du := g.nx } d.sync cs := by
  have hdn := h.dn
  have hln := h.ln
  have hdl := h.dl
  have hfd := h.fd
  have hnow : ∀ i, d.now[b + i]? = if du ≤ i ∧ i < cs.length then (cs[i]?).map fun c => c.sec i else d.dur[b + i]? := fun i => by
    unfold Dk.now
    rw [h.pend, lay_pOf b (cs.drop du) du d.dur (by rw [List.length_drop]; omega) i, List.length_drop, show du + (cs.length - du) = cs.length by omega]
    by_cases hi : du ≤ i ∧ i < cs.length
    · rw [if_pos hi, if_pos hi, List.getElem?_drop, show du + (i - du) = i by omega]
    · rw [if_neg hi, if_neg hi]
  rw [(Dk.sync_good ha hd).1]
  refine ⟨h.gb, h.gn, h.st, h.gfr, h.gnx, h.gnx, by omega, Nat.le_refl _, hln, ?_, h.e1, h.ok, h.fol, h.new_, h.old, ?_, ?_, ?_, ?_⟩
  · show b + n ≤ d.now.length
    unfold Dk.now
    rw [lay_len]
    exact hdl
  · intro i c hc hi
    show d.now[b + i]? = _
    rw [hnow]
    by_cases h1 : du ≤ i
    · rw [if_pos ⟨h1, hi⟩, hc]; rfl
    · rw [if_neg (by omega)]; exact h.dur i c hc (by omega)
  · show [] = _
    rw [List.drop_length]
    rfl
  · intro i h1 h2
    obtain ⟨X, hX, hl⟩ := h.lay i (by omega) h2
    refine ⟨X, ?_, hl⟩
    show d.now[b + i]? = _
    rw [hnow, if_neg (by omega)]
    exact hX
  · intro e hn X m hX hm
    refine h.no (by omega) hn X m ?_ hm
    have hX : d.now[b + fr]? = some X := hX
    rw [hnow, if_neg (by omega)] at hX
    exact hX
theorem read_at (hp : d.pend = []) (hd : d.dead = false) {i : Nat} (hi : i < n) (hl : b + n ≤ d.dur.length) : d.read ((b : Int) + (i : Int) % (n : Int)) = d.dur.getD (b + i) [] := by
  have hm : (i : Int) % (n : Int) = i := Int.emod_eq_of_lt (by omega) (by omega)
  have hr : d.reach ((b : Int) + (i : Int)) = 0 := by unfold Dk.reach; rw [hd, if_neg (by simp), if_pos (by omega)]
  unfold Dk.read
  rw [hm, if_pos hr]
  unfold Dk.now
  rw [hp, show ((b : Int) + (i : Int)).toNat = b + i by omega]
  rfl
/-- What is read of a synced log. -/
theorem chn_read (h : Chn b n fr cs.length g d cs) (hp : d.pend = []) (hd : d.dead = false) : batsM (fun q => d.read ((b : Int) + q % (n : Int))) n 0 .zero = ms cs 0 := by
  have hln := h.ln
  have hx := bats_chain (cs := cs) (R := fun q => d.read ((b : Int) + q % (n : Int))) (n := n) (t := cs.length) (Nat.le_refl _) hln (fun i c hc hi => ?_) h.ok h.fol (fun ht m hm => ?_) cs.length 0 (Nat.zero_add _)
  · rw [List.take_length] at hx
    exact hx
  · show d.read _ = _
    rw [read_at hp hd (by omega) h.dl, List.getD_eq_getElem?_getD, h.dur i c hc hi]
    rfl
  · have hm : batM (d.read _) _ = some m := hm
    rw [read_at hp hd ht h.dl] at hm
    obtain ⟨X, hX, _⟩ := h.lay cs.length (Nat.le_refl _) ht
    rw [List.getD_eq_getElem?_getD, hX] at hm
    exact h.stale (Nat.le_refl _) (Nat.le_refl _) ht hX hm
theorem upto {P : Nat → Prop} {a c : Nat} (h : a ≤ c) : ∃ t, a ≤ t ∧ t ≤ c ∧ (∀ i, a ≤ i → i < t → P i) ∧ (t < c → ¬ P t) := by
  obtain ⟨k, rfl⟩ : ∃ k, c = a + k := ⟨c - a, by omega⟩
  clear h
  induction k with
  | zero => exact ⟨a, Nat.le_refl _, Nat.le_refl _, fun i h1 h2 => by omega, fun h => by omega⟩
  | succ k ih =>
    obtain ⟨t, h1, h2, h3, h4⟩ := ih
    by_cases ht : t < a + k
    · exact ⟨t, h1, by omega, h3, fun _ => h4 ht⟩
    · obtain rfl : t = a + k := by omega
      by_cases hp : P (a + k)
      · exact ⟨a + (k + 1), by omega, Nat.le_refl _, fun i g1 g2 => by
          by_cases e : i = a + k
          · rw [e]; exact hp
          · exact h3 i g1 (by omega), fun h => by omega⟩
      · exact ⟨a + k, h1, by omega, h3, fun _ => hp⟩
/-- A crash: a beginning is left, all that was synced in it. -/
theorem chn_crash (h : Chn b n fr du g d cs) (f : Nat → Nat) (hf : ∀ i, f i ≤ 256) : ∃ t, du ≤ t ∧ t ≤ cs.length ∧ batsM (fun q => (d.crash f).read ((b : Int) + q % (n : Int))) n 0 .zero = ms (cs.take t) 0 ∧ (∀ i, du ≤ i → i < t → f (i - du) = 256) ∧
    Chn b n t t (newG b n (g.ep + 1) 0 t) (d.crash f) (cs.take t) := by
  have hdn := h.dn
  have hln := h.ln
  have hdl := h.dl
  have hfd := h.fd
  obtain ⟨D, hD⟩ : ∃ D, (d.crash f).dur = D := ⟨_, rfl⟩
  have hDe : D = crashGo f 0 (pOf b (cs.drop du) du) d.dur := by rw [← hD, ← h.pend]; rfl
  have hDl : D.length = d.dur.length := by rw [hDe, crashGo_len]
  have hget : ∀ i, D[b + i]? = if du ≤ i ∧ i < cs.length then (cs[i]?).bind fun c => (d.dur[b + i]?).map fun X => partOf X (c.sec i) (f (i - du)) else d.dur[b + i]? := fun i => by
    rw [hDe, crash_pOf b f (cs.drop du) du 0 d.dur (by rw [List.length_drop]; omega) i, List.length_drop, show du + (cs.length - du) = cs.length by omega]
    by_cases hi : du ≤ i ∧ i < cs.length
    · rw [if_pos hi, if_pos hi, List.getElem?_drop, show du + (i - du) = i by omega, Nat.zero_add]
    · rw [if_neg hi, if_neg hi]
  -- a new sector, in part, over what lay there
  have part : ∀ (i : Nat) (c : Sc), cs[i]? = some c → du ≤ i → ∃ X, d.dur[b + i]? = some X ∧ Lay i c.e X ∧ c.e = g.ep ∧ D[b + i]? = some (partOf X (c.sec i) (f (i - du))) := fun i c hc hi => by
    have hlt := (List.getElem?_eq_some_iff.1 hc).1
    obtain ⟨X, hX, hl⟩ := h.lay i hi (by omega)
    have he := (h.new_ i c hc (by omega)).1
    refine ⟨X, hX, by rw [he]; exact hl, he, ?_⟩
    rw [hget, if_pos ⟨hi, hlt⟩, hc, hX]
    rfl
  obtain ⟨t, t1, t2, t3, t4⟩ := upto (P := fun i => ∃ c, cs[i]? = some c ∧ D[b + i]? = some (c.sec i)) hdn
  have stop : t < n → ∀ (X : List UInt8) (m : Bm), D[b + t]? = some X → batM X t = some m → folB (prevB cs t) m = false := fun htn X m hX hm => by
    by_cases htc : t < cs.length
    · have hc : cs[t]? = some (cs[t]'htc) := List.getElem?_eq_getElem _
      obtain ⟨Y, hY, hl, he, hP⟩ := part t _ hc t1
      rw [hX] at hP
      injection hP with hP
      have hop := (batM_some hm).2.1
      rw [hP] at hop
      rcases part_open hl (h.ok t _ hc) (hf _) hop with ⟨e, _⟩ | ⟨e, _⟩
      · exact absurd ⟨_, hc, by rw [hX, hP, e]⟩ (t4 htc)
      · rw [hP, e] at hm
        exact h.stale t1 t2 htn hY hm
    · rw [hget, if_neg (by omega)] at hX
      exact h.stale t1 t2 htn hX hm
  have hds : ∀ (i : Nat) (c : Sc), cs[i]? = some c → i < t → D[b + i]? = some (c.sec i) := fun i c hc hi => by
    by_cases h1 : du ≤ i
    · obtain ⟨c', hc', e⟩ := t3 i h1 hi
      rw [hc] at hc'
      injection hc' with hc'
      rw [hc']
      exact e
    · rw [hget, if_neg (by omega)]
      exact h.dur i c hc (by omega)
  have hpn : (d.crash f).pend = [] := rfl
  have hdd : (d.crash f).dead = false := rfl
  have hbl : b + n ≤ (d.crash f).dur.length := by rw [hD, hDl]; exact hdl
  refine ⟨t, t1, t2, ?_, fun i h1 h2 => ?_, ?_⟩
  · have hx := bats_chain (cs := cs) (R := fun q => (d.crash f).read ((b : Int) + q % (n : Int))) (n := n) (t := t) t2 (by omega) (fun i c hc hi => ?_) h.ok h.fol (fun ht m hm => ?_) t 0 (Nat.zero_add _)
    · exact hx
    · show (d.crash f).read _ = _
      rw [read_at hpn hdd (by omega) hbl, hD, List.getD_eq_getElem?_getD, hds i c hc hi]
      rfl
    · have hm : batM ((d.crash f).read _) _ = some m := hm
      rw [read_at hpn hdd ht hbl, hD] at hm
      have hX : D[b + t]? = some (D[b + t]'(by omega)) := List.getElem?_eq_getElem _
      rw [List.getD_eq_getElem?_getD, hX] at hm
      exact stop ht _ m hX hm
  · obtain ⟨c, hc, e⟩ := t3 i h1 h2
    obtain ⟨Y, hY, hl, he, hP⟩ := part i c hc h1
    rw [hP] at e
    injection e with e
    have hok := h.ok i c hc
    have hop : (partOf Y (c.sec i) (f (i - du))).take 4 = (partOf Y (c.sec i) (f (i - du))).drop 252 := by rw [e]; exact (batM_some (batM_sec hok)).2.1
    rcases part_open hl hok (hf _) hop with ⟨_, e2⟩ | ⟨e2, _⟩
    · exact e2
    · rw [e2] at e
      rw [e] at hl
      have := hl.bat (batM_sec hok)
      exact absurd this (Int.lt_irrefl _)
  · have htk : ∀ (i : Nat) (c : Sc), (cs.take t)[i]? = some c → cs[i]? = some c ∧ i < t := fun i c hc => by
      rw [List.getElem?_take] at hc
      split at hc
      · exact ⟨hc, by assumption⟩
      · cases hc
    have hlt : (cs.take t).length = t := by rw [List.length_take]; omega
    have he1 := h.e1
    refine ⟨rfl, rfl, rfl, rfl, rfl, by rw [hlt]; rfl, Nat.le_refl _, by omega, by omega, hbl, by show 1 ≤ g.ep + 1; omega, fun i c hc => h.ok i c (htk i c hc).1, fun i c hc => ?_, fun i c hc hi => ?_, fun i c hc hi => ?_, fun i c hc hi => ?_, ?_, fun i h1 h2 => ?_, fun _ hn X m hX hm => ?_⟩
    · obtain ⟨a1, a2⟩ := htk i c hc
      rw [prevB_take (by omega)]
      exact h.fol i c a1
    · have := (htk i c hc).2; omega
    · show c.e < g.ep + 1
      obtain ⟨a1, a2⟩ := htk i c hc
      by_cases hi : fr ≤ i
      · rw [(h.new_ i c a1 hi).1]; omega
      · have := h.old i c a1 (by omega); omega
    · obtain ⟨a1, a2⟩ := htk i c hc
      rw [hD]
      exact hds i c a1 a2
    · rw [hpn, List.drop_of_length_le (by omega)]
      rfl
    · rw [hD]
      show ∃ X, _ ∧ Lay i (g.ep + 1) X
      by_cases hi : i < cs.length
      · have hc : cs[i]? = some (cs[i]'hi) := List.getElem?_eq_getElem _
        obtain ⟨Y, hY, hl, he, hP⟩ := part i _ hc (by omega)
        refine ⟨_, hP, ?_⟩
        rw [← he]
        exact hl.part (h.ok i _ hc) (hf _)
      · obtain ⟨X, hX, hl⟩ := h.lay i (by omega) h2
        refine ⟨X, ?_, hl.mono (by omega)⟩
        rw [hget, if_neg (by omega)]
        exact hX
    · rw [hD] at hX
      rw [prevB_take (Nat.le_refl _)]
      exact stop hn X m hX hm
end
end Go.Proofs.YtnbamljaiahmdaaGreat
