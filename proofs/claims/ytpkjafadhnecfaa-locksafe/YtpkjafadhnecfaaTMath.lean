/-
  Mathematics of tables: three numbers, what may be, counting, the next place.
-/
import Derived.Lib.Hide
namespace Go.Proofs.Ytpkjafadhnecfaa

/-- Three numbers: a place, a segment. -/
structure Tr where
  a : Int
  b : Int
  c : Int
def noT : Tr := ⟨0, 0, 0⟩
def emT : Tr := ⟨-1, 0, 0⟩
def eqT (x y : Tr) : Bool := decide (x.a = y.a) && (decide (x.b = y.b) && decide (x.c = y.c))
theorem eqT_iff {x y : Tr} : eqT x y = true ↔ x = y := by
  constructor
  · intro h
    simp only [eqT, Bool.and_eq_true, decide_eq_true_eq] at h
    obtain ⟨h0, h1, h2⟩ := h
    cases x; cases y
    simp only at h0 h1 h2
    subst h0; subst h1; subst h2
    rfl
  · rintro rfl; simp [eqT]
theorem eqT_self (x : Tr) : eqT x x = true := eqT_iff.2 rfl
theorem eqT_no {x y : Tr} (h : x ≠ y) : eqT x y = false := by
  cases he : eqT x y with
  | false => rfl
  | true => exact absurd (eqT_iff.1 he) h

/-- A table. -/
structure Tb where
  pg : List Tr
  sg : List Tr
  sl : Int
  nw : Int
def noTb : Tb := ⟨[], [], 0, 0⟩

def inB (n l u : Int) : Bool := decide (l ≤ n) && decide (n ≤ u)
theorem inB_iff {n l u : Int} : inB n l u = true ↔ l ≤ n ∧ n ≤ u := by simp [inB]
theorem inB_no {n l u : Int} (h : ¬ (l ≤ n ∧ n ≤ u)) : inB n l u = false := by
  cases he : inB n l u with
  | false => rfl
  | true => exact absurd (inB_iff.1 he) h

/-! ### Places that meet a condition -/
def ixs (f : Nat → Bool) (n : Nat) : List Nat := (List.range n).filter f
def cnt (f : Nat → Bool) (n : Nat) : Nat := (ixs f n).length
section
variable {f g : Nat → Bool} {n i : Nat}
theorem ixs_zero (f : Nat → Bool) : ixs f 0 = [] := rfl
theorem ixs_yes (h : f n = true) : ixs f (n + 1) = ixs f n ++ [n] := by simp [ixs, List.range_succ, h]
theorem ixs_no (h : f n = false) : ixs f (n + 1) = ixs f n := by simp [ixs, List.range_succ, h]
theorem mem_ixs : i ∈ ixs f n ↔ i < n ∧ f i = true := by simp [ixs]
theorem ixs_nil : ixs f n = [] ↔ ∀ i, i < n → f i = false := by simp [ixs]
theorem ixs_len (f : Nat → Bool) (n : Nat) : (ixs f n).length ≤ n := by
  have := List.length_filter_le f (List.range n)
  rw [List.length_range] at this
  exact this
theorem cnt_zero (f : Nat → Bool) : cnt f 0 = 0 := rfl
theorem cnt_yes (h : f n = true) : cnt f (n + 1) = cnt f n + 1 := by rw [cnt, ixs_yes h, List.length_append]; rfl
theorem cnt_no (h : f n = false) : cnt f (n + 1) = cnt f n := by rw [cnt, ixs_no h]; rfl
theorem cnt_le (f : Nat → Bool) (n : Nat) : cnt f n ≤ n := ixs_len f n
theorem cnt_pos : 0 < cnt f n ↔ ∃ i, i < n ∧ f i = true := by
  rw [cnt, List.length_pos_iff_exists_mem]
  exact ⟨fun ⟨i, hi⟩ => ⟨i, mem_ixs.1 hi⟩, fun ⟨i, hi⟩ => ⟨i, mem_ixs.2 hi⟩⟩
theorem cnt_none : cnt f n = 0 ↔ ∀ i, i < n → f i = false := by rw [cnt, List.length_eq_zero_iff, ixs_nil]
theorem cnt_congr (h : ∀ i, i < n → f i = g i) : cnt f n = cnt g n := by
  rw [cnt, cnt, ixs, ixs, List.filter_congr (fun i hi => h i (by simpa using hi))]
theorem cnt_le_one (h : cnt f n ≤ 1) {j : Nat} (hi : i < n) (hj : j < n) (fi : f i = true) (fj : f j = true) : i = j := by
  have mi : i ∈ ixs f n := mem_ixs.2 ⟨hi, fi⟩
  have mj : j ∈ ixs f n := mem_ixs.2 ⟨hj, fj⟩
  rw [cnt] at h
  match hl : ixs f n, mi, mj, h with
  | [x], mi, mj, _ => simp at mi mj; rw [mi, mj]
  | x :: y :: r, _, _, h => simp at h
theorem cnt_one_of (h : ∀ i j, i < n → j < n → f i = true → f j = true → i = j) : cnt f n ≤ 1 := by
  rw [cnt]
  have hnd : (ixs f n).Nodup := List.Nodup.sublist List.filter_sublist List.nodup_range
  match hl : ixs f n, hnd with
  | [], _ => simp
  | [x], _ => simp
  | x :: y :: r, hnd =>
    exfalso
    have mx : x ∈ ixs f n := by rw [hl]; simp
    have my : y ∈ ixs f n := by rw [hl]; simp
    have e := h x y (mem_ixs.1 mx).1 (mem_ixs.1 my).1 (mem_ixs.1 mx).2 (mem_ixs.1 my).2
    subst e
    simp at hnd
/-- The first one. -/
def fstI (f : Nat → Bool) (n : Nat) : Nat := (ixs f n).headD 0
theorem fstI_is (hi : i < n) (fi : f i = true) (hmin : ∀ j, j < i → f j = false) : fstI f n = i := by
  have h1 : (ixs f n).head? = some i := by
    rw [ixs, List.head?_filter, List.find?_range_eq_some]
    exact ⟨fi, by simpa using hi, fun j hj => by rw [hmin j hj]; rfl⟩
  rw [fstI, List.headD_eq_head?_getD, h1]
  rfl
theorem fstI_spec (h : 0 < cnt f n) : fstI f n < n ∧ f (fstI f n) = true ∧ ∀ j, j < fstI f n → f j = false := by
  have h0 : ixs f n ≠ [] := by intro e; rw [cnt, e] at h; simp at h
  obtain ⟨i, hi⟩ : ∃ i, (ixs f n).head? = some i := by
    cases hl : ixs f n with
    | nil => exact absurd hl h0
    | cons x r => exact ⟨x, rfl⟩
  have e : fstI f n = i := by rw [fstI, List.headD_eq_head?_getD, hi]; rfl
  rw [ixs, List.head?_filter, List.find?_range_eq_some] at hi
  rw [e]
  exact ⟨by simpa using hi.2.1, hi.1, fun j hj => by simpa using hi.2.2 j hj⟩
end

/-! ### What may be -/
def allN (f : Nat → Bool) (n : Nat) : Bool := (List.range n).all f
theorem allN_iff {f : Nat → Bool} {n : Nat} : allN f n = true ↔ ∀ i, i < n → f i = true := by simp [allN]
theorem allN_no {f : Nat → Bool} {n i : Nat} (hi : i < n) (h : f i = false) : allN f n = false := by
  cases he : allN f n with
  | false => rfl
  | true => rw [allN_iff.1 he i hi] at h; cases h
def sizB (p s k : Int) : Bool := inB p 1 16 && inB s 2 32 && inB k 1 16
def segB (s : Tr) (sl nw : Int) : Bool :=
  if s.a = 0 then eqT s noT else if s.a = 1 then inB s.b 1 (sl - 1) && inB s.c 0 nw else if s.a = 2 then decide (s.b = sl) && inB s.c 0 nw else false
def atS (l : List Tr) (i : Nat) : Tr := l.getD i noT
def plB (t : Tb) (p : Tr) : Bool := inB p.a 0 (t.sg.length - 1) && inB p.b 0 (t.sl - 1) && inB p.c 0 4294967295
def slB (q p : Tr) : Bool := decide (q.a = p.a) && decide (q.b = p.b)
def takF (l : List Tr) (i : Int) (p : Tr) (j : Nat) : Bool := !decide ((j : Int) = i) && slB (atS l j) p
def takB (l : List Tr) (i : Int) (p : Tr) : Bool := !allN (fun j => !takF l i p j) l.length
theorem takB_iff {l : List Tr} {i : Int} {p : Tr} : takB l i p = true ↔ ∃ j, j < l.length ∧ (j : Int) ≠ i ∧ (atS l j).a = p.a ∧ (atS l j).b = p.b := by
  unfold takB
  constructor
  · intro h
    have h' : ¬ allN (fun j => !takF l i p j) l.length = true := by simpa using h
    rw [allN_iff] at h'
    have : ∃ j, ¬ (j < l.length → (!takF l i p j) = true) := Classical.not_forall.1 h'
    obtain ⟨j, hj⟩ := this
    simp only [Classical.not_imp, Bool.not_eq_true', Bool.not_eq_false] at hj
    obtain ⟨h1, h2⟩ := hj
    simp only [takF, slB, Bool.and_eq_true, Bool.not_eq_true', decide_eq_false_iff_not, decide_eq_true_eq] at h2
    exact ⟨j, h1, h2.1, h2.2.1, h2.2.2⟩
  · rintro ⟨j, h1, h2, h3, h4⟩
    have : takF l i p j = true := by simp [takF, slB, h2, h3, h4]
    rw [allN_no h1 (by rw [this]; rfl)]
    rfl
def havB (t : Tb) (i : Int) (p : Tr) : Bool := plB t p && decide (p.b < (atS t.sg p.a.toNat).b) && !takB t.pg i p
def pgB (t : Tb) (i : Nat) : Bool := eqT (atS t.pg i) emT || havB t i (atS t.pg i)
def stF (st : Int) (t : Tb) (i : Nat) : Bool := decide ((atS t.sg i).a = st)
def lvF (seg : Int) (t : Tb) (i : Nat) : Bool := decide ((atS t.pg i).a = seg)
def sgF (t : Tb) (i : Nat) : Bool := segB (atS t.sg i) t.sl t.nw
def sgsB (t : Tb) : Bool := allN (sgF t) t.sg.length && decide (cnt (stF 1 t) t.sg.length ≤ 1)
def pagB (t : Tb) : Bool := allN (pgB t) t.pg.length
def mayB (t : Tb) : Bool := sizB t.pg.length t.sg.length t.sl && inB t.nw 0 1099511627776 && sgsB t && pagB t

/-- A segment's three ways. -/
theorem segB_iff {s : Tr} {sl nw : Int} : segB s sl nw = true ↔ s = noT ∨ (s.a = 1 ∧ 1 ≤ s.b ∧ s.b ≤ sl - 1 ∧ 0 ≤ s.c ∧ s.c ≤ nw) ∨ (s.a = 2 ∧ s.b = sl ∧ 0 ≤ s.c ∧ s.c ≤ nw) := by
  unfold segB
  by_cases h0 : s.a = 0
  · rw [if_pos h0, eqT_iff]
    exact ⟨fun h => .inl h, fun h => by rcases h with h | h | h <;> first | exact h | (exfalso; omega)⟩
  · have hn : s ≠ noT := fun e => h0 (by rw [e]; rfl)
    rw [if_neg h0]
    by_cases h1 : s.a = 1
    · rw [if_pos h1, Bool.and_eq_true, inB_iff, inB_iff]
      exact ⟨fun h => .inr (.inl ⟨h1, h.1.1, h.1.2, h.2.1, h.2.2⟩), fun h => by
        rcases h with h | h | h
        · exact absurd h hn
        · exact ⟨⟨h.2.1, h.2.2.1⟩, h.2.2.2⟩
        · exfalso; omega⟩
    · rw [if_neg h1]
      by_cases h2 : s.a = 2
      · rw [if_pos h2, Bool.and_eq_true, decide_eq_true_eq, inB_iff]
        exact ⟨fun h => .inr (.inr ⟨h2, h.1, h.2.1, h.2.2⟩), fun h => by
          rcases h with h | h | h
          · exact absurd h hn
          · exfalso; omega
          · exact ⟨h.2.1, h.2.2⟩⟩
      · rw [if_neg h2]
        constructor
        · intro h; cases h
        · rintro (h | h | h)
          · exact absurd h hn
          · exfalso; omega
          · exfalso; omega
theorem plB_iff {t : Tb} {p : Tr} : plB t p = true ↔ 0 ≤ p.a ∧ p.a < t.sg.length ∧ 0 ≤ p.b ∧ p.b < t.sl ∧ 0 ≤ p.c ∧ p.c ≤ 4294967295 := by
  unfold plB
  rw [Bool.and_eq_true, Bool.and_eq_true, inB_iff, inB_iff, inB_iff]
  omega

structure Tb.May (t : Tb) : Prop where
  p1 : 1 ≤ t.pg.length
  p2 : t.pg.length ≤ 16
  s1 : 2 ≤ t.sg.length
  s2 : t.sg.length ≤ 32
  k1 : 1 ≤ t.sl
  k2 : t.sl ≤ 16
  n1 : 0 ≤ t.nw
  n2 : t.nw ≤ 1099511627776
  seg : ∀ i, i < t.sg.length → sgF t i = true
  one : cnt (stF 1 t) t.sg.length ≤ 1
  pag : ∀ i, i < t.pg.length → pgB t i = true
theorem mayB_iff {t : Tb} : mayB t = true ↔ t.May := by
  unfold mayB sizB sgsB pagB
  simp only [Bool.and_eq_true, inB_iff, allN_iff, decide_eq_true_eq]
  constructor
  · rintro ⟨⟨⟨⟨⟨h1, h2⟩, h3⟩, h4⟩, h5, h6⟩, h7⟩
    exact ⟨by omega, by omega, by omega, by omega, h3.1, h3.2, h4.1, h4.2, h5, h6, h7⟩
  · intro h
    have := h.p1; have := h.p2; have := h.s1; have := h.s2
    exact ⟨⟨⟨⟨⟨by omega, by omega⟩, h.k1, h.k2⟩, h.n1, h.n2⟩, h.seg, h.one⟩, h.pag⟩
theorem mayB_no {t : Tb} (h : ¬ t.May) : mayB t = false := by
  cases he : mayB t with
  | false => rfl
  | true => exact absurd (mayB_iff.1 he) h

/-- What a page of a table that may be has. -/
theorem Tb.May.page {t : Tb} (h : t.May) {i : Nat} (hi : i < t.pg.length) (h0 : 0 ≤ (atS t.pg i).a) :
    (atS t.pg i).a < t.sg.length ∧ 0 ≤ (atS t.pg i).b ∧ (atS t.pg i).b < t.sl ∧ 0 ≤ (atS t.pg i).c ∧ (atS t.pg i).c ≤ 4294967295 ∧ (atS t.pg i).b < (atS t.sg (atS t.pg i).a.toNat).b ∧
    ∀ j, j < t.pg.length → (atS t.pg j).a = (atS t.pg i).a → (atS t.pg j).b = (atS t.pg i).b → j = i := by
  have h1 := h.pag i hi
  unfold pgB at h1
  rw [Bool.or_eq_true] at h1
  rcases h1 with h1 | h1
  · rw [eqT_iff] at h1
    rw [h1] at h0
    exact absurd h0 (by decide)
  · unfold havB at h1
    rw [Bool.and_eq_true, Bool.and_eq_true, plB_iff, decide_eq_true_eq] at h1
    obtain ⟨⟨h2, h3⟩, h4⟩ := h1
    refine ⟨h2.2.1, h2.2.2.1, h2.2.2.2.1, h2.2.2.2.2.1, h2.2.2.2.2.2, h3, fun j hj e1 e2 => ?_⟩
    refine Classical.byContradiction fun hne => ?_
    have : takB t.pg i (atS t.pg i) = true := takB_iff.2 ⟨j, hj, by omega, e1, e2⟩
    rw [this] at h4
    cases h4
theorem Tb.May.nopage {t : Tb} (h : t.May) {i : Nat} (hi : i < t.pg.length) (h0 : (atS t.pg i).a < 0) : atS t.pg i = emT := by
  have h1 := h.pag i hi
  unfold pgB at h1
  rw [Bool.or_eq_true] at h1
  rcases h1 with h1 | h1
  · exact eqT_iff.1 h1
  · unfold havB at h1
    rw [Bool.and_eq_true, Bool.and_eq_true, plB_iff] at h1
    omega
/-- To be a table that may be: what is to be shown of its pages. -/
theorem pgB_mk {t : Tb} {i : Nat} (h : atS t.pg i = emT ∨ (0 ≤ (atS t.pg i).a ∧ (atS t.pg i).a < t.sg.length ∧ 0 ≤ (atS t.pg i).b ∧ (atS t.pg i).b < t.sl ∧ 0 ≤ (atS t.pg i).c ∧ (atS t.pg i).c ≤ 4294967295 ∧ (atS t.pg i).b < (atS t.sg (atS t.pg i).a.toNat).b ∧
    ∀ j, j < t.pg.length → (atS t.pg j).a = (atS t.pg i).a → (atS t.pg j).b = (atS t.pg i).b → j = i)) : pgB t i = true := by
  unfold pgB
  rw [Bool.or_eq_true]
  rcases h with h | ⟨h1, h2, h3, h4, h5, h6, h7, h8⟩
  · exact .inl (eqT_iff.2 h)
  · refine .inr ?_
    unfold havB
    have hn : takB t.pg i (atS t.pg i) = false := by
      cases he : takB t.pg i (atS t.pg i) with
      | false => rfl
      | true =>
        obtain ⟨j, hj, hne, e1, e2⟩ := takB_iff.1 he
        exact absurd (h8 j hj e1 e2) (by omega)
    rw [hn, (plB_iff).2 ⟨h1, h2, h3, h4, h5, h6⟩, decide_eq_true h7]
    rfl
/-- A segment of a table that may be. -/
theorem Tb.May.segs {t : Tb} (h : t.May) {i : Nat} (hi : i < t.sg.length) : atS t.sg i = noT ∨ ((atS t.sg i).a = 1 ∧ 1 ≤ (atS t.sg i).b ∧ (atS t.sg i).b ≤ t.sl - 1 ∧ 0 ≤ (atS t.sg i).c ∧ (atS t.sg i).c ≤ t.nw) ∨ ((atS t.sg i).a = 2 ∧ (atS t.sg i).b = t.sl ∧ 0 ≤ (atS t.sg i).c ∧ (atS t.sg i).c ≤ t.nw) :=
  segB_iff.1 (h.seg i hi)
theorem Tb.May.freeSeg {t : Tb} (h : t.May) {i : Nat} (hi : i < t.sg.length) (h0 : (atS t.sg i).a = 0) : atS t.sg i = noT := by
  rcases h.segs hi with h1 | h1 | h1
  · exact h1
  · omega
  · omega
/-- Nothing is live in a free segment. -/
theorem Tb.May.freeLive {t : Tb} (h : t.May) {i : Nat} (hi : i < t.sg.length) (h0 : (atS t.sg i).a = 0) : cnt (lvF i t) t.pg.length = 0 := by
  rw [cnt_none]
  intro j hj
  refine decide_eq_false fun e => ?_
  have h1 := h.page hj (by omega)
  rw [e] at h1
  have h2 := h.freeSeg hi h0
  simp only [Int.toNat_natCast] at h1
  rw [h2] at h1
  have : noT.b = 0 := rfl
  omega

theorem atS_set {l : List Tr} {i j : Nat} {x : Tr} (hi : i < l.length) : atS (l.set i x) j = if j = i then x else atS l j := by
  unfold atS
  rw [List.getD_eq_getElem?_getD, List.getD_eq_getElem?_getD, List.getElem?_set]
  by_cases h : j = i
  · subst h; simp [hi]
  · rw [if_neg (fun e => h e.symm), if_neg h]
theorem atS_get {l : List Tr} {i : Nat} (hi : i < l.length) : l[i]? = some (atS l i) := by
  unfold atS
  rw [List.getD_eq_getElem?_getD, List.getElem?_eq_getElem hi]
  rfl
theorem atS_map {f : Nat → Tr} {n i : Nat} (hi : i < n) : atS ((List.range n).map f) i = f i := by
  unfold atS
  rw [List.getD_eq_getElem?_getD, List.getElem?_map, List.getElem?_range hi]
  rfl
theorem atS_ext {l k : List Tr} (hl : l.length = k.length) (h : ∀ i, i < l.length → atS l i = atS k i) : l = k := by
  apply List.ext_getElem? 
  intro i
  by_cases hi : i < l.length
  · rw [atS_get hi, atS_get (by omega), h i hi]
  · rw [List.getElem?_eq_none (by omega), List.getElem?_eq_none (by omega)]
end Go.Proofs.Ytpkjafadhnecfaa
