/-
  Plain mathematics on pages: records, sizes, the bytes of a page and what they tell.
-/
import Derived.Test.YtgeodpflaebbgaaPrs
import Derived.Test.YtgeodpflaebbgaaMath
namespace Go.Proofs.Ytgeodpflaebbgaa
open Go Go.RowKit

/-- A record: its key, its value. -/
abbrev Rec := Int × List UInt8
def usedL : List Rec → Nat
  | [] => 0
  | x :: l => (4 + x.2.length) + usedL l
/-- A page: ID, LSN, records. -/
structure Pg where
  id : Int
  lsn : Int
  l : List Rec
structure Good (x : Pg) : Prop where
  id0 : 0 ≤ x.id
  id1 : x.id ≤ 65535
  lsn0 : 0 ≤ x.lsn
  lsn1 : x.lsn ≤ 4294967295
  srt : Srt x.l
  key : ∀ r ∈ x.l, 0 ≤ r.1 ∧ r.1 ≤ 65535
  val : ∀ r ∈ x.l, r.2.length ≤ 32
  used : usedL x.l ≤ 240
theorem usedL_append (a b : List Rec) : usedL (a ++ b) = usedL a + usedL b := by
  induction a with
  | nil => simp [usedL]
  | cons x l ih => simp only [List.cons_append, usedL, ih]; omega
theorem usedL_len (l : List Rec) : l.length * 4 ≤ usedL l := by
  induction l with
  | nil => simp
  | cons x l ih => simp only [List.length_cons, usedL]; omega
theorem Good.count {x : Pg} (h : Good x) : x.l.length ≤ 60 := by
  have := usedL_len x.l
  have := h.used
  omega

/-- A record's bytes. -/
def recB (r : Rec) : List UInt8 := le 2 r.1.toNat ++ (UInt8.ofNat r.2.length :: r.2)
def recsB : List Rec → List UInt8
  | [] => []
  | r :: l => recB r ++ recsB l
theorem recsB_append (a b : List Rec) : recsB (a ++ b) = recsB a ++ recsB b := by
  induction a with
  | nil => rfl
  | cons x l ih => simp [recsB, ih]
theorem recB_len (r : Rec) : (recB r).length = 3 + r.2.length := by
  simp only [recB, List.length_append, le_length, List.length_cons]; omega
theorem recsB_len (l : List Rec) : (recsB l).length + l.length = usedL l := by
  induction l with
  | nil => rfl
  | cons x l ih => simp only [recsB, usedL, List.length_append, List.length_cons, recB_len]; omega
/-- The bytes at a page's beginning. -/
def headB (x : Pg) : List UInt8 := ((le 1 176 ++ le 2 x.id.toNat) ++ le 4 x.lsn.toNat) ++ le 1 x.l.length
def bodyB (x : Pg) : List UInt8 := headB x ++ recsB x.l
theorem headB_len (x : Pg) : (headB x).length = 8 := by simp only [headB, List.length_append, le_length]
theorem bodyB_len {x : Pg} (h : Good x) : (bodyB x).length ≤ 248 := by
  have := recsB_len x.l
  have := h.used
  simp only [bodyB, List.length_append, headB_len]
  omega
def fillB (n : Nat) : List UInt8 := List.replicate n 0
/-- A page's bytes. -/
def enc (x : Pg) : List UInt8 := bodyB x ++ fillB (248 - (bodyB x).length)
theorem enc_len {x : Pg} (h : Good x) : (enc x).length = 248 := by
  have := bodyB_len h
  simp only [enc, fillB, List.length_append, List.length_replicate]
  omega

/-- What count records' bytes tell: the records, and what is left. -/
def readN : Nat → Int → List UInt8 → Option (List Rec × List UInt8)
  | 0, _, xs => some ([], xs)
  | n + 1, last, xs =>
    if xs.length < 3 ∨ xs.length < 3 + (xs.getD 2 0).toNat ∨ (unle (xs.take 2) : Int) ≤ last ∨ 32 < (xs.getD 2 0).toNat then none
    else (readN n (unle (xs.take 2)) (xs.drop (3 + (xs.getD 2 0).toNat))).map (fun q => (((unle (xs.take 2) : Int), (xs.drop 3).take (xs.getD 2 0).toNat) :: q.1, q.2))
def zerosOnly (xs : List UInt8) : Bool := xs.all (fun b => b == 0)
/-- What bytes tell. -/
def dec (xs : List UInt8) : Option Pg :=
  if xs.length = 248 ∧ unle (xs.take 1) = 176 then
    match readN (unle ((xs.drop 7).take 1)) (-1) (xs.drop 8) with
    | some q => if usedL q.1 ≤ 240 ∧ zerosOnly q.2 = true then some ⟨unle ((xs.drop 1).take 2), unle ((xs.drop 3).take 4), q.1⟩ else none
    | none => none
  else none
def nonePg : Pg := ⟨0, 0, []⟩
def cont (xs : List UInt8) : Pg := (dec xs).getD nonePg

theorem readN_good {n : Nat} {last : Int} {xs : List UInt8} {q : List Rec × List UInt8} (h : readN n last xs = some q) (hl : -1 ≤ last) :
    Srt q.1 ∧ (∀ r ∈ q.1, last < r.1 ∧ r.1 ≤ 65535 ∧ r.2.length ≤ 32) := by
  induction n generalizing last xs q with
  | zero =>
    simp only [readN, Option.some.injEq] at h
    subst h
    exact ⟨List.Pairwise.nil, fun r hr => by cases hr⟩
  | succ n ih =>
    simp only [readN] at h
    split at h
    · cases h
    · rename_i hc
      simp only [not_or, Nat.not_lt, Int.not_le] at hc
      obtain ⟨h1, h2, h3, h4⟩ := hc
      obtain ⟨q', hq', rfl⟩ := Option.map_eq_some_iff.1 h
      obtain ⟨a, b⟩ := ih hq' (by omega)
      have hk := unle_lt (xs.take 2)
      have hk2 : (xs.take 2).length = 2 := by rw [List.length_take]; omega
      rw [hk2] at hk
      refine ⟨List.pairwise_cons.2 ⟨fun r hr => (b r hr).1, a⟩, fun r hr => ?_⟩
      rcases List.mem_cons.1 hr with e | e
      · subst e
        refine ⟨h3, by simp only; omega, ?_⟩
        simp only [List.length_take, List.length_drop]
        omega
      · have := b r e
        exact ⟨by omega, this.2⟩

theorem getD_append_at (a : List UInt8) (b : UInt8) (c : List UInt8) (n : Nat) (h : a.length = n) : (a ++ b :: c).getD n 0 = b := by
  subst h
  simp [List.getD_eq_getElem?_getD]
theorem readN_recs (l : List Rec) (tail : List UInt8) (last : Int) (hs : Srt l) (hk : ∀ r ∈ l, 0 ≤ r.1 ∧ r.1 ≤ 65535 ∧ r.2.length ≤ 32 ∧ last < r.1) :
    readN l.length last (recsB l ++ tail) = some (l, tail) := by
  induction l generalizing last with
  | nil => rfl
  | cons r l ih =>
    obtain ⟨h1, h2⟩ := List.pairwise_cons.1 hs
    obtain ⟨k0, k1, k2, k3⟩ := hk r (List.mem_cons_self ..)
    have hl2 := le_length 2 r.1.toNat
    have hX : recsB (r :: l) ++ tail = le 2 r.1.toNat ++ (UInt8.ofNat r.2.length :: (r.2 ++ (recsB l ++ tail))) := by simp [recsB, recB]
    rw [hX]
    have ht : (le 2 r.1.toNat ++ (UInt8.ofNat r.2.length :: (r.2 ++ (recsB l ++ tail)))).take 2 = le 2 r.1.toNat := List.take_left' hl2
    have hu : (unle (le 2 r.1.toNat) : Int) = r.1 := by rw [unle_le _ _ (by omega)]; omega
    have hg : ((le 2 r.1.toNat ++ (UInt8.ofNat r.2.length :: (r.2 ++ (recsB l ++ tail)))).getD 2 0).toNat = r.2.length := by
      rw [getD_append_at _ _ _ 2 hl2, UInt8.toNat_ofNat']
      exact Nat.mod_eq_of_lt (by omega)
    have hlen : (le 2 r.1.toNat ++ (UInt8.ofNat r.2.length :: (r.2 ++ (recsB l ++ tail)))).length = 3 + r.2.length + (recsB l ++ tail).length := by
      simp only [List.length_append, List.length_cons, hl2]; omega
    have hd : (le 2 r.1.toNat ++ (UInt8.ofNat r.2.length :: (r.2 ++ (recsB l ++ tail)))).drop 3 = r.2 ++ (recsB l ++ tail) := by
      rw [show (3 : Nat) = 2 + 1 from rfl, ← List.drop_drop, List.drop_left' hl2]; rfl
    have hd2 : (le 2 r.1.toNat ++ (UInt8.ofNat r.2.length :: (r.2 ++ (recsB l ++ tail)))).drop (3 + r.2.length) = recsB l ++ tail := by
      rw [← List.drop_drop, hd, List.drop_left' rfl]
    simp only [List.length_cons, readN]
    rw [hg, ht, hu, hlen, if_neg (by omega), hd2, hd, List.take_left' rfl, ih r.1 h2 (fun s hs => ⟨(hk s (List.mem_cons_of_mem _ hs)).1, (hk s (List.mem_cons_of_mem _ hs)).2.1, (hk s (List.mem_cons_of_mem _ hs)).2.2.1, h1 s hs⟩)]
    rfl

theorem zerosOnly_fill (n : Nat) : zerosOnly (fillB n) = true := by
  simp [zerosOnly, fillB]
theorem dec_enc {x : Pg} (h : Good x) : dec (enc x) = some x := by
  have hcnt := h.count
  have h0 := h.id0
  have h1 := h.id1
  have h2 := h.lsn0
  have h3 := h.lsn1
  have e0 : enc x = le 1 176 ++ (le 2 x.id.toNat ++ (le 4 x.lsn.toNat ++ (le 1 x.l.length ++ (recsB x.l ++ fillB (248 - (bodyB x).length))))) := by
    simp [enc, bodyB, headB]
  have hlen := enc_len h
  rw [e0] at hlen
  rw [e0]
  obtain ⟨F, hF, hz⟩ : ∃ F, fillB (248 - (bodyB x).length) = F ∧ zerosOnly F = true := ⟨_, rfl, zerosOnly_fill _⟩
  rw [hF] at hlen ⊢
  have t1 : (le 1 176 ++ (le 2 x.id.toNat ++ (le 4 x.lsn.toNat ++ (le 1 x.l.length ++ (recsB x.l ++ F))))).take 1 = le 1 176 := List.take_left' (le_length _ _)
  have d1 : (le 1 176 ++ (le 2 x.id.toNat ++ (le 4 x.lsn.toNat ++ (le 1 x.l.length ++ (recsB x.l ++ F))))).drop 1 = le 2 x.id.toNat ++ (le 4 x.lsn.toNat ++ (le 1 x.l.length ++ (recsB x.l ++ F))) := List.drop_left' (le_length _ _)
  have d3 : (le 1 176 ++ (le 2 x.id.toNat ++ (le 4 x.lsn.toNat ++ (le 1 x.l.length ++ (recsB x.l ++ F))))).drop 3 = le 4 x.lsn.toNat ++ (le 1 x.l.length ++ (recsB x.l ++ F)) := by
    rw [show (3 : Nat) = 1 + 2 from rfl, ← List.drop_drop, d1, List.drop_left' (le_length _ _)]
  have d7 : (le 1 176 ++ (le 2 x.id.toNat ++ (le 4 x.lsn.toNat ++ (le 1 x.l.length ++ (recsB x.l ++ F))))).drop 7 = le 1 x.l.length ++ (recsB x.l ++ F) := by
    rw [show (7 : Nat) = 3 + 4 from rfl, ← List.drop_drop, d3, List.drop_left' (le_length _ _)]
  have d8 : (le 1 176 ++ (le 2 x.id.toNat ++ (le 4 x.lsn.toNat ++ (le 1 x.l.length ++ (recsB x.l ++ F))))).drop 8 = recsB x.l ++ F := by
    rw [show (8 : Nat) = 7 + 1 from rfl, ← List.drop_drop, d7, List.drop_left' (le_length _ _)]
  have hr := readN_recs x.l F (-1) h.srt (fun r hr => ⟨(h.key r hr).1, (h.key r hr).2, h.val r hr, by have := (h.key r hr).1; omega⟩)
  unfold dec
  rw [d1, d3, d7, d8, t1, List.take_left' (le_length _ _), List.take_left' (le_length _ _), List.take_left' (le_length _ _), unle_le 1 176 (by omega), unle_le 1 _ (by omega), hr, if_pos ⟨hlen, rfl⟩]
  simp only
  rw [if_pos ⟨h.used, hz⟩, unle_le 2 _ (by omega), unle_le 4 _ (by omega)]
  have i1 : ((x.id.toNat : Nat) : Int) = x.id := by omega
  have i2 : ((x.lsn.toNat : Nat) : Int) = x.lsn := by omega
  rw [i1, i2]
theorem dec_good {xs : List UInt8} {x : Pg} (h : dec xs = some x) : Good x ∧ xs.length = 248 := by
  unfold dec at h
  split at h
  · rename_i hc
    split at h
    · rename_i q hq
      split at h
      · rename_i hu
        injection h with h
        subst h
        obtain ⟨a, b⟩ := readN_good hq (by omega)
        have u2 := unle_lt ((xs.drop 1).take 2)
        have u4 := unle_lt ((xs.drop 3).take 4)
        have l2 : ((xs.drop 1).take 2).length = 2 := by rw [List.length_take, List.length_drop]; omega
        have l4 : ((xs.drop 3).take 4).length = 4 := by rw [List.length_take, List.length_drop]; omega
        rw [l2] at u2
        rw [l4] at u4
        refine ⟨⟨by simp only; omega, by simp only; omega, by simp only; omega, by simp only; omega, a, fun r hr => ?_, fun r hr => (b r hr).2.2, hu.1⟩, hc.1⟩
        have := b r hr
        omega
      · cases h
    · cases h
  · cases h
theorem good_new (id : Int) (h0 : 0 ≤ id) (h1 : id ≤ 65535) : Good ⟨id, 0, []⟩ :=
  ⟨h0, h1, by simp, by simp, List.Pairwise.nil, (fun r hr => by cases hr), (fun r hr => by cases hr), by simp [usedL]⟩
theorem good_none : Good nonePg := good_new 0 (by omega) (by omega)
theorem good_cont (xs : List UInt8) : Good (cont xs) := by
  unfold cont
  cases h : dec xs with
  | none => exact good_none
  | some x => exact (dec_good h).1
theorem cont_enc {x : Pg} (h : Good x) : cont (enc x) = x := by unfold cont; rw [dec_enc h]; rfl
theorem good_stamp {x : Pg} (h : Good x) (n : Int) (h0 : 0 ≤ n) (h1 : n ≤ 4294967295) : Good ⟨x.id, n, x.l⟩ := ⟨h.id0, h.id1, h0, h1, h.srt, h.key, h.val, h.used⟩
theorem usedL_mDel (k : Int) (l : List Rec) : usedL (mDel k l) ≤ usedL l := by
  induction l with
  | nil => exact Nat.le_refl _
  | cons y l ih =>
    simp only [mDel]
    split
    · simp only [usedL]; omega
    · split
      · simp only [usedL]; omega
      · exact Nat.le_refl _
theorem good_del {x : Pg} (h : Good x) (k : Int) : Good ⟨x.id, x.lsn, mDel k x.l⟩ :=
  ⟨h.id0, h.id1, h.lsn0, h.lsn1, h.srt.del, fun r hr => h.key r (mem_mDel hr), fun r hr => h.val r (mem_mDel hr), Nat.le_trans (usedL_mDel k x.l) h.used⟩
theorem good_set {x : Pg} (h : Good x) (k : Int) (v : List UInt8) (h0 : 0 ≤ k) (h1 : k ≤ 65535) (hv : v.length ≤ 32) (hu : usedL (mSet k v x.l) ≤ 240) : Good ⟨x.id, x.lsn, mSet k v x.l⟩ :=
  ⟨h.id0, h.id1, h.lsn0, h.lsn1, h.srt.set, fun r hr => by
    rcases mem_mSet hr with e | e
    · subst e; exact ⟨h0, h1⟩
    · exact h.key r e, fun r hr => by
    rcases mem_mSet hr with e | e
    · subst e; exact hv
    · exact h.val r e, hu⟩

/-! ### A call of Put, of Stamped, in one word -/
/-- What Put makes: an error, a page. -/
def putP (x : Pg) (k : Int) (is : Bool) (v : List UInt8) : Int × Pg :=
  if k < 0 ∨ 65535 < k then (1, x)
  else if is = false then (0, ⟨x.id, x.lsn, mDel k x.l⟩)
  else if 32 < v.length then (2, x)
  else if 240 < usedL (mSet k v x.l) then (4, x)
  else (0, ⟨x.id, x.lsn, mSet k v x.l⟩)
def stampP (x : Pg) (n : Int) : Int × Pg := if n < 0 ∨ 4294967295 < n then (1, x) else (0, ⟨x.id, n, x.l⟩)
theorem good_putP {x : Pg} (h : Good x) (k : Int) (is : Bool) (v : List UInt8) : Good (putP x k is v).2 := by
  unfold putP
  split
  · exact h
  · split
    · exact good_del h k
    · split
      · exact h
      · split
        · exact h
        · exact good_set h k v (by omega) (by omega) (by omega) (by omega)
theorem good_stampP {x : Pg} (h : Good x) (n : Int) : Good (stampP x n).2 := by
  unfold stampP
  split
  · exact h
  · exact good_stamp h n (by omega) (by omega)
end Go.Proofs.Ytgeodpflaebbgaa
