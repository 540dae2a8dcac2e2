/-
  Mathematics of package txn: values, changes, transactions; which are valid; what each call makes of them.
-/
import Derived.Test.YtidcmolkolcliaaWords
namespace Go.Proofs.Ytidcmolkolcliaa
open Go Go.RowKit

/-- A value: is there one, its bytes. -/
abbrev Vp := Bool × List UInt8
/-- A change. -/
structure Cp where
  lsn : Int
  page : Int
  key : Int
  o : Vp
  v : Vp
/-- A transaction. -/
structure Tp where
  id : Int
  st : Int
  f : Int
  l : Int
  L : List Cp
  S : List Int
def noV : Vp := (false, [])
def noC : Cp := ⟨0, 0, 0, noV, noV⟩
def noT : Tp := ⟨0, 0, 0, 0, [], []⟩

def inB (n l u : Int) : Bool := decide (l ≤ n) && decide (n ≤ u)
theorem inB_iff {n l u : Int} : inB n l u = true ↔ l ≤ n ∧ n ≤ u := by simp [inB]
def vB (v : Vp) : Bool := decide (v.2.length ≤ 32) && (v.1 || decide (v.2.length = 0))
def cB (c : Cp) : Bool := inB c.lsn 1 4294967295 && inB c.page 0 255 && inB c.key 0 65535 && vB c.o && vB c.v
def atC (L : List Cp) (i : Nat) : Cp := L.getD i noC
def atI (S : List Int) (i : Nat) : Int := S.getD i 0
theorem atC_at {L : List Cp} {i : Nat} (h : i < L.length) : L[i]? = some (atC L i) := by
  unfold atC; rw [List.getD_eq_getElem?_getD, List.getElem?_eq_getElem h]; rfl
theorem atC_of {L : List Cp} {i : Nat} {c : Cp} (h : L[i]? = some c) : atC L i = c := by
  unfold atC; rw [List.getD_eq_getElem?_getD, h]; rfl
theorem atI_at {S : List Int} {i : Nat} (h : i < S.length) : S[i]? = some (atI S i) := by
  unfold atI; rw [List.getD_eq_getElem?_getD, List.getElem?_eq_getElem h]; rfl
theorem atI_of {S : List Int} {i : Nat} {c : Int} (h : S[i]? = some c) : atI S i = c := by
  unfold atI; rw [List.getD_eq_getElem?_getD, h]; rfl
theorem atC_take {L : List Cp} {i n : Nat} (h : i < n) : atC (L.take n) i = atC L i := by
  unfold atC; rw [List.getD_eq_getElem?_getD, List.getD_eq_getElem?_getD, List.getElem?_take, if_pos h]
theorem atI_take {S : List Int} {i n : Nat} (h : i < n) : atI (S.take n) i = atI S i := by
  unfold atI; rw [List.getD_eq_getElem?_getD, List.getD_eq_getElem?_getD, List.getElem?_take, if_pos h]
theorem atC_append {L : List Cp} {i : Nat} (K : List Cp) (h : i < L.length) : atC (L ++ K) i = atC L i := by
  unfold atC; rw [List.getD_eq_getElem?_getD, List.getD_eq_getElem?_getD, List.getElem?_append_left h]
theorem atC_snoc (L : List Cp) (c : Cp) : atC (L ++ [c]) L.length = c := atC_of (by simp)
theorem atI_append {L : List Int} {i : Nat} (K : List Int) (h : i < L.length) : atI (L ++ K) i = atI L i := by
  unfold atI; rw [List.getD_eq_getElem?_getD, List.getD_eq_getElem?_getD, List.getElem?_append_left h]
theorem atI_snoc (L : List Int) (c : Int) : atI (L ++ [c]) L.length = c := atI_of (by simp)

/-- May c follow the changes L? -/
def folB (L : List Cp) (c : Cp) : Bool := cB c && (decide (L.length = 0) || decide ((atC L (L.length - 1)).lsn < c.lsn))
/-- Is the change at i valid, and later than the one ahead of it? -/
def okC (L : List Cp) (i : Nat) : Bool := folB (L.take i) (atC L i)
def cL (L : List Cp) : Bool := decide (L.length ≤ 6) && (List.range L.length).all (okC L)
/-- Is the savepoint at i not below the one ahead of it, and not above k? -/
def okS (S : List Int) (k : Nat) (i : Nat) : Bool := decide ((if i = 0 then 0 else atI S (i - 1)) ≤ atI S i) && decide (atI S i ≤ (k : Int))
def sL (S : List Int) (k : Nat) : Bool := decide (S.length ≤ 4) && (List.range S.length).all (okS S k)
def mayT (t : Tp) : Bool := inB t.id 1 255 && inB t.st 1 3 && inB t.f 0 4294967295 && inB t.l 0 4294967295 && cL t.L && sL t.S t.L.length

theorem cL_iff {L : List Cp} : cL L = true ↔ L.length ≤ 6 ∧ ∀ i, i < L.length → okC L i = true := by
  unfold cL
  rw [Bool.and_eq_true, decide_eq_true_eq, List.all_eq_true]
  simp only [List.mem_range]
theorem sL_iff {S : List Int} {k : Nat} : sL S k = true ↔ S.length ≤ 4 ∧ ∀ i, i < S.length → okS S k i = true := by
  unfold sL
  rw [Bool.and_eq_true, decide_eq_true_eq, List.all_eq_true]
  simp only [List.mem_range]
theorem cL_no {L : List Cp} {i : Nat} (hi : i < L.length) (h : okC L i = false) : cL L = false := by
  cases hc : cL L with
  | false => rfl
  | true => rw [(cL_iff.1 hc).2 i hi] at h; cases h
theorem sL_no {S : List Int} {k i : Nat} (hi : i < S.length) (h : okS S k i = false) : sL S k = false := by
  cases hc : sL S k with
  | false => rfl
  | true => rw [(sL_iff.1 hc).2 i hi] at h; cases h
theorem okC_take {L : List Cp} {i n : Nat} (h : i < n) : okC (L.take n) i = okC L i := by
  unfold okC
  rw [atC_take h, List.take_take, Nat.min_eq_left (by omega)]
theorem okC_append {L K : List Cp} {i : Nat} (h : i < L.length) : okC (L ++ K) i = okC L i := by
  unfold okC
  rw [atC_append K h, List.take_append_of_le_length (by omega)]
theorem okC_snoc (L : List Cp) (c : Cp) : okC (L ++ [c]) L.length = folB L c := by
  unfold okC
  rw [atC_snoc, List.take_append_of_le_length (by omega), List.take_length]
theorem okS_iff {S : List Int} {k i : Nat} : okS S k i = true ↔ (if i = 0 then 0 else atI S (i - 1)) ≤ atI S i ∧ atI S i ≤ (k : Int) := by
  unfold okS; rw [Bool.and_eq_true, decide_eq_true_eq, decide_eq_true_eq]
theorem sL_rises {S : List Int} {k : Nat} (h : sL S k = true) : ∀ j i, i ≤ j → j < S.length → atI S i ≤ atI S j := by
  intro j
  induction j with
  | zero => intro i hi _; obtain rfl : i = 0 := by omega
            exact Int.le_refl _
  | succ j ih =>
    intro i hi hj
    rcases Nat.lt_or_ge i (j + 1) with hlt | hge
    · have h1 := ih i (by omega) (by omega)
      have h2 := (okS_iff.1 ((sL_iff.1 h).2 (j + 1) hj)).1
      rw [if_neg (by omega), Nat.add_sub_cancel] at h2
      omega
    · obtain rfl : i = j + 1 := by omega
      exact Int.le_refl _
theorem sL_bd {S : List Int} {k i : Nat} (h : sL S k = true) (hi : i < S.length) : 0 ≤ atI S i ∧ atI S i ≤ (k : Int) := by
  have h0 := (okS_iff.1 ((sL_iff.1 h).2 0 (by omega))).1
  rw [if_pos rfl] at h0
  have h1 := sL_rises h i 0 (by omega) hi
  exact ⟨by omega, (okS_iff.1 ((sL_iff.1 h).2 i hi)).2⟩
/-- Sorted, the first not below nought, the last not above k. -/
theorem sL_of {S : List Int} {k : Nat} (h4 : S.length ≤ 4) (hs : ∀ i, 0 < i → i < S.length → atI S (i - 1) ≤ atI S i) (h0 : S.length ≠ 0 → 0 ≤ atI S 0 ∧ atI S (S.length - 1) ≤ (k : Int)) : sL S k = true := by
  refine sL_iff.2 ⟨h4, fun i hi => okS_iff.2 ⟨?_, ?_⟩⟩
  · by_cases e : i = 0
    · subst e; rw [if_pos rfl]; exact (h0 (by omega)).1
    · rw [if_neg e]; exact hs i (by omega) hi
  · have up : ∀ d i, i + d < S.length → atI S i ≤ atI S (i + d) := by
      intro d
      induction d with
      | zero => intro i _; exact Int.le_refl _
      | succ d ih =>
        intro i hi
        have h1 := ih i (by omega)
        have h2 := hs (i + (d + 1)) (by omega) hi
        rw [show i + (d + 1) - 1 = i + d by omega] at h2
        omega
    have h1 := up (S.length - 1 - i) i (by omega)
    rw [show i + (S.length - 1 - i) = S.length - 1 by omega] at h1
    have := (h0 (by omega)).2
    omega

/-! ### What the calls make -/
def newT (id : Int) : Tp := ⟨id, 1, 0, 0, [], []⟩
def newE (id : Int) : Int := if inB id 1 255 then 0 else 1
def noteE (t : Tp) (c : Cp) : Int := if mayT t && folB t.L c then (if t.L.length = 6 then 4 else 0) else 1
def noteT (t : Tp) (c : Cp) : Tp := ⟨t.id, t.st, if t.f = 0 then c.lsn else t.f, c.lsn, t.L ++ [c], t.S⟩
def undoE (t : Tp) : Int := if mayT t then (if t.L.length = 0 then 3 else 0) else 1
def leq (k : Nat) (z : Int) : Bool := decide (z ≤ (k : Int))
def undoT (t : Tp) : Tp := ⟨t.id, t.st, t.f, t.l, t.L.take (t.L.length - 1), t.S.filter (leq (t.L.length - 1))⟩
def undoC (t : Tp) : Cp := atC t.L (t.L.length - 1)
def saveE (t : Tp) : Int := if mayT t then (if t.S.length = 4 then 4 else 0) else 1
def saveT (t : Tp) : Tp := ⟨t.id, t.st, t.f, t.l, t.L, t.S ++ [(t.L.length : Int)]⟩
def aboveE (t : Tp) (k : Int) : Int := if mayT t then (if inB k 0 ((t.S.length : Int) - 1) then 0 else 3) else 1
def aboveI (t : Tp) (k : Int) : Int := (t.L.length : Int) - atI t.S k.toNat
def sizV (v : Vp) : Int := if v.1 then 4 + (v.2.length : Int) else 0
def gain (page : Int) (c : Cp) : Int := if c.page = page then max 0 (sizV c.o - sizV c.v) else 0
def keptL (page : Int) : List Cp → Int
  | [] => 0
  | c :: L => gain page c + keptL page L
def kept (page : Int) : List Tp → Int
  | [] => 0
  | t :: l => keptL page t.L + kept page l

theorem mayT_iff {t : Tp} : mayT t = true ↔ inB t.id 1 255 = true ∧ inB t.st 1 3 = true ∧ inB t.f 0 4294967295 = true ∧ inB t.l 0 4294967295 = true ∧ cL t.L = true ∧ sL t.S t.L.length = true := by
  unfold mayT
  simp only [Bool.and_eq_true]
  constructor
  · rintro ⟨⟨⟨⟨⟨a, b⟩, c⟩, d⟩, e⟩, f⟩; exact ⟨a, b, c, d, e, f⟩
  · rintro ⟨a, b, c, d, e, f⟩; exact ⟨⟨⟨⟨⟨a, b⟩, c⟩, d⟩, e⟩, f⟩
theorem may_len {t : Tp} (h : mayT t = true) : t.L.length ≤ 6 ∧ t.S.length ≤ 4 := by
  obtain ⟨_, _, _, _, h5, h6⟩ := mayT_iff.1 h
  exact ⟨(cL_iff.1 h5).1, (sL_iff.1 h6).1⟩
theorem sizV_ge (v : Vp) : 0 ≤ sizV v := by unfold sizV; split <;> omega
theorem gain_ge (page : Int) (c : Cp) : 0 ≤ gain page c := by unfold gain; split <;> omega
theorem keptL_ge (page : Int) : ∀ L, 0 ≤ keptL page L
  | [] => Int.le_refl _
  | c :: L => by have := keptL_ge page L; have := gain_ge page c; unfold keptL; omega
theorem keptL_append (page : Int) : ∀ (L K : List Cp), keptL page (L ++ K) = keptL page L + keptL page K
  | [], K => by simp [keptL]
  | c :: L, K => by rw [List.cons_append, keptL, keptL, keptL_append page L K]; omega
theorem kept_append (page : Int) : ∀ (a b : List Tp), kept page (a ++ b) = kept page a + kept page b
  | [], K => by simp [kept]
  | c :: L, K => by rw [List.cons_append, kept, kept, kept_append page L K]; omega
theorem kept_one (page : Int) (t : Tp) : kept page [t] = keptL page t.L := by simp [kept]
/-- Values are not long. -/
def smallC (c : Cp) : Prop := c.o.2.length ≤ 100 ∧ c.v.2.length ≤ 100
theorem gain_le {page : Int} {c : Cp} (h : smallC c) : gain page c ≤ 104 := by
  have h1 := h.1
  have h2 := sizV_ge c.v
  have h3 : sizV c.o ≤ 104 := by unfold sizV; split <;> omega
  unfold gain
  split <;> omega
theorem keptL_le {page : Int} : ∀ {L : List Cp}, (∀ c ∈ L, smallC c) → keptL page L ≤ 104 * (L.length : Int)
  | [], _ => by simp [keptL]
  | c :: L, h => by
    have h1 := gain_le (page := page) (h c (by simp))
    have h2 := keptL_le (page := page) (fun d hd => h d (List.mem_cons_of_mem _ hd))
    rw [keptL, List.length_cons]
    omega
theorem take_succ_at {α : Type} {l : List α} {j : Nat} {x : α} (h : l[j]? = some x) : l.take (j + 1) = l.take j ++ [x] := by
  obtain ⟨hj, e⟩ := List.getElem?_eq_some_iff.1 h
  rw [List.take_succ_eq_append_getElem hj, e]
theorem keptL_succ {page : Int} {L : List Cp} {j : Nat} {c : Cp} (h : L[j]? = some c) : keptL page (L.take (j + 1)) = keptL page (L.take j) + gain page c := by
  rw [take_succ_at h, keptL_append]; simp [keptL]
theorem kept_succ {page : Int} {l : List Tp} {j : Nat} {t : Tp} (h : l[j]? = some t) : kept page (l.take (j + 1)) = kept page (l.take j) + keptL page t.L := by
  rw [take_succ_at h, kept_append]; simp [kept]
theorem kept_ge (page : Int) : ∀ l, 0 ≤ kept page l
  | [] => Int.le_refl _
  | t :: l => by have := kept_ge page l; have := keptL_ge page t.L; unfold kept; omega
/-- A transaction that is not too great. -/
def smallT (t : Tp) : Prop := t.L.length ≤ 20 ∧ ∀ c ∈ t.L, smallC c
theorem keptL_small {page : Int} {t : Tp} (h : smallT t) : keptL page t.L ≤ 2080 := by
  have h1 := keptL_le (page := page) h.2
  have h2 := h.1
  omega
theorem kept_le {page : Int} : ∀ {l : List Tp}, (∀ t ∈ l, smallT t) → kept page l ≤ 2080 * (l.length : Int)
  | [], _ => by simp [kept]
  | t :: l, h => by
    have h1 := keptL_small (page := page) (h t (by simp))
    have h2 := kept_le (page := page) (fun d hd => h d (List.mem_cons_of_mem _ hd))
    rw [kept, List.length_cons]
    omega
end Go.Proofs.Ytidcmolkolcliaa
