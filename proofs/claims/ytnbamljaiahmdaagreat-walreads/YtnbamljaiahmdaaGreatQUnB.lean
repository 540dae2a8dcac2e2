/-
  bobbinref06.Decode.
  What is unpacked is packed again: mathematics.
  bobbinref07.Unpack: its memory.
-/
import Derived.Test.YtnbamljaiahmdaaGreatQRfD2
import Derived.Test.YtnbamljaiahmdaaGreatQRfDa
import Derived.Test.YtnbamljaiahmdaaGreatQRfDb
import Derived.Test.YtnbamljaiahmdaaGreatQRfDc
import Derived.Test.YtnbamljaiahmdaaGreatQRfDd
import Derived.Test.YtnbamljaiahmdaaGreatQU2
import Derived.Test.YtnbamljaiahmdaaGreatQDecE
import Derived.Test.YtnbamljaiahmdaaGreatQSr
import Derived.Test.YtnbamljaiahmdaaGreatQOpen
namespace Go.Proofs.YtnbamljaiahmdaaGreat
open Go Go.RowKit

theorem rdecode_ok (w : World) (A : Option Addr) (n c : Nat) (xs : List UInt8) (h : Sl w A n c xs) (hn : n ≤ 1000000) (hc : c ≤ maxLen) :
    Calls Tryz.prog 47 #[.slice A n c] w fun e w' => RAns w w' e (decode xs) ∧ Mod (fun _ => False) w w' := by
  cases xs with
  | nil => exact rdecode_nil w A n c h
  | cons b ys =>
    cases hfl : fieldsOf b.toNat with
    | none => exact rdecode_none w A n c b ys h hfl hn
    | some fl =>
      rcases only_some b ys fl with h3 | ⟨C, hC, hO, he⟩
      · exact rdecode_some3 w A n c b ys h fl hfl hn hc h3
      · match C, hC with
        | 0, _ => exact rdecode_some0 w A n c b ys h fl hfl hn hc hO he
        | 1, _ => exact rdecode_some1 w A n c b ys h fl hfl hn hc hO he
        | 2, _ => exact rdecode_some2 w A n c b ys h fl hfl hn hc hO he
end Go.Proofs.YtnbamljaiahmdaaGreat

namespace Go.Proofs.YtnbamljaiahmdaaGreat
open Go Go.RowKit

theorem take_back {xs b rest : List UInt8} (h : takeM xs = some (b, rest)) : xs = UInt8.ofNat b.length :: (b ++ rest) := by
  cases xs with
  | nil => cases h
  | cons a ys =>
    rw [takeM_cons] at h
    split at h
    · cases h
    · rename_i hl
      injection h with h
      injection h with h1 h2
      have hb : b.length = a.toNat := by rw [← h1, List.length_take]; omega
      rw [hb, ← h1, ← h2, List.take_append_drop, UInt8.ofNat_toNat]
theorem rec_back {w : World} {y : RcD} (hy : y.At w) {xs rest : List UInt8} (h : recR xs = some (y.p, rest)) : mayB y = true ∧ lenc y ++ rest = xs := by
  unfold recR at h
  split at h
  · cases h
  · rename_i b rest' ht
    split at h
    · rename_i h0
      injection h with h
      injection h with h1 h2
      subst h2
      obtain ⟨hm, he, _⟩ := dec_only hy (xs := b) (by rw [← h1, ← h0])
      refine ⟨hm, ?_⟩
      unfold lenc
      rw [he, take_back ht]
      rfl
    · cases h
theorem recs_back {w : World} {xs : List UInt8} : ∀ {j : Nat} {L : List RcD} {rest : List UInt8}, (∀ y ∈ L, y.At w) → recsJ xs j = some (L.map RcD.p, rest) → L.all mayB = true ∧ recsB L ++ rest = xs ∧ L.length = j
  | 0, L, rest, _, h => by
    injection h with h
    injection h with h1 h2
    obtain rfl : L = [] := List.map_eq_nil_iff.1 h1.symm
    exact ⟨rfl, h2.symm, rfl⟩
  | j + 1, L, rest, hL, h => by
    cases h1 : recsJ xs j with
    | none =>
      have : recsJ xs (j + 1) = none := by
        show (match recsJ xs j with | none => none | some (l, ys) => match recR ys with | none => none | some (r, zs) => some (l ++ [r], zs)) = none
        rw [h1]
      rw [this] at h
      cases h
    | some p =>
      obtain ⟨l1, y1⟩ := p
      cases h2 : recR y1 with
      | none =>
        rw [recsJ_no h1 h2 (j + 1) (by omega)] at h
        cases h
      | some q =>
        obtain ⟨r, zs⟩ := q
        rw [recsJ_yes h1 h2] at h
        injection h with h
        injection h with h3 h4
        subst h4
        obtain ⟨L1, L2, rfl, e1, e2⟩ := List.map_eq_append_iff.1 h3.symm
        obtain ⟨y, L3, rfl, e3, e4⟩ := List.map_eq_cons_iff.1 e2
        obtain rfl : L3 = [] := List.map_eq_nil_iff.1 e4
        subst e1; subst e3
        obtain ⟨a1, a2, a3⟩ := recs_back (fun x hx => hL x (List.mem_append_left _ hx)) h1
        obtain ⟨b1, b2⟩ := rec_back (hL y (by simp)) h2
        refine ⟨by simp [a1, b1], ?_, by simp [a3]⟩
        rw [← a2, ← b2]
        simp [recsB]
/-- The document's Unpack packs what it has read: that is as much as the head and the count ask. -/
theorem unpack_again {w : World} {xs : List UInt8} (h11 : 11 ≤ xs.length) (h248 : xs.length ≤ 248) {L : List RcD} (hL : ∀ y ∈ L, y.At w) {rest : List UInt8}
    (hr : recsJ (xs.drop 11) (hdN xs) = some (L.map RcD.p, rest)) (hz : rest.all (· == 0) = true) :
    unpackM xs = if packE (hdE xs) (hdS xs) (hdF xs) L = 0 then some (L.map RcD.p) else none := by
  obtain ⟨a1, a2, a3⟩ := recs_back hL hr
  have hlen : (packB (hdE xs) (hdS xs) (hdF xs) L).length ≤ 248 := by
    have := congrArg List.length a2
    rw [List.length_append, List.length_drop] at this
    unfold packB
    rw [List.length_append, headB_len]
    omega
  unfold unpackM
  rw [if_neg (by omega)]
  by_cases hh : headOk (hdE xs) (hdS xs) (hdF xs) = true
  · by_cases hn : hdN xs ≤ 60
    · rw [if_neg (by rw [hh]; simp [hn]), hr, packE_ok hh a1 (by omega)]
      simp [hz]
    · rw [if_pos (by rw [hh]; simp; omega), packE_long hh a1 (by omega)]
      rfl
  · have hh' : headOk (hdE xs) (hdS xs) (hdF xs) = false := by simpa using hh
    rw [if_pos (by rw [hh']; rfl), packE_arg hh']
    rfl
/-- It is told so at any other way, too. -/
theorem unpack_not {xs : List UInt8} (hr : recsJ (xs.drop 11) (hdN xs) = none) : unpackM xs = none := by
  unfold unpackM
  rw [hr]
  split
  · rfl
  · split <;> rfl
theorem unpack_tail {xs : List UInt8} {l : List Rc} {rest : List UInt8} (hr : recsJ (xs.drop 11) (hdN xs) = some (l, rest)) (hz : rest.all (· == 0) = false) : unpackM xs = none := by
  unfold unpackM
  rw [hr]
  split
  · rfl
  · split
    · rfl
    · simp [hz]
end Go.Proofs.YtnbamljaiahmdaaGreat

namespace Go.Proofs.YtnbamljaiahmdaaGreat
open Go Go.RowKit Go.Shelf

/-- The memory while it reads: the result, the batch, its row. -/
structure UR (w : World) (base bx : Nat) (e s f : Int) (W : World) (B : Option Addr) (m d : Nat) (L : List RcD) : Prop where
  box : BtD.In W ⟨e, s, f, B, m, d, L⟩ bx
  res : BtD.zero.In W w.heap.size
  row : OwN W base 47 14 B m d (recsC L)
  own : ∀ y ∈ L, y.o.Own W base ∧ y.v.Own W base
  old : Mod (fun _ => False) w W
  l1 : w.heap.size < bx
  l2 : bx < base
  l3 : base ≤ W.heap.size
section
variable {w W W1 : World} {base bx : Nat} {e s f : Int} {B : Option Addr} {m d : Nat} {L : List RcD}
theorem UR.len (h : UR w base bx e s f W B m d L) : L.length = m := by have := h.row.1; rw [recsC_len] at this; omega
theorem UR.keep (h : UR w base bx e s f W B m d L) (hm : Mod (fun _ => False) W W1) : UR w base bx e s f W1 B m d L := by
  refine ⟨h.box.keep hm, h.res.keep hm, h.row.mod hm (fun _ _ => id), fun y hy => ?_, h.old.trans hm (fun _ _ h => h), h.l1, h.l2, Nat.le_trans h.l3 hm.size⟩
  obtain ⟨a, b⟩ := h.own y hy
  exact ⟨OwV.mod a hm (fun _ _ => id), OwV.mod b hm (fun _ _ => id)⟩
theorem UR.ats (h : UR w base bx e s f W B m d L) : ∀ y ∈ L, y.At W := fun y hy => ⟨(h.own y hy).1.sl, (h.own y hy).2.sl⟩
theorem UR.rs (h : UR w base bx e s f W B m d L) : Rs W B m d L := h.row.recs h.ats
/-- One record more: the row has grown, the batch tells of it. -/
theorem UR.push (h : UR w base bx e s f W B m d L) {y : RcD} (hyo : y.o.Own W base) (hyv : y.v.Own W base) {B' : Option Addr} {d' : Nat}
    (hrow : OwN W1 base 47 14 B' (m + 1) d' (recsC L ++ recsC [y])) (hg : W.grownBy W1 (blkOf B)) :
    UR w base bx e s f (W1.setCell ⟨bx, 3, none⟩ (.slice B' (m + 1) d')) B' (m + 1) d' (L ++ [y]) := by
  have l1 := h.l1; have l2 := h.l2; have l3 := h.l3
  have hB : ∀ k, blkOf B = some k → base ≤ k := fun k hk => (h.row.lt k hk).1
  have hm : Mod (fun k => blkOf B = some k) W W1 := (Mod.refl _ W).grown hg (fun k e _ => e)
  have hm2 : Mod (fun k => k = bx) W1 (W1.setCell ⟨bx, 3, none⟩ (.slice B' (m + 1) d')) := (Mod.refl (fun k => k = bx) W1).setCell (p := ⟨bx, 3, none⟩) (fun _ => rfl) _
  have hown : ∀ z : VlD, z.Own W base → z.Own (W1.setCell ⟨bx, 3, none⟩ (.slice B' (m + 1) d')) base := fun z hz => by
    have h1 : z.Own W1 base := OwV.mod hz hm (fun k hk e => by
      obtain ⟨cs, hc⟩ := h.row.type_ e
      exact ne_of_type hz hc (by decide) k hk rfl)
    exact OwV.mod h1 hm2 (fun k hk e => by have := (OwV.lt h1 k hk).1; omega)
  have hbx : BtD.In W1 ⟨e, s, f, B, m, d, L⟩ bx := h.box.mod hm (fun e => by have := hB _ e; omega)
  refine ⟨hbx.set3 B' (m + 1) d' (L ++ [y]), (h.res.mod hm (fun e => by have := hB _ e; omega)).mod hm2 (by omega), ?_, fun z hz => ?_, (h.old.trans hm (fun k hk e => by have := hB _ e; omega)).trans hm2 (fun k hk e => by omega), h.l1, h.l2, Nat.le_trans (Nat.le_trans h.l3 hm.size) hm2.size⟩
  · rw [recsC_append]
    exact hrow.mod hm2 (fun k hk e => by have := (hrow.lt k hk).1; omega)
  · rcases List.mem_append.1 hz with hz | hz
    · exact ⟨hown _ (h.own z hz).1, hown _ (h.own z hz).2⟩
    · obtain rfl : z = y := by simpa using hz
      exact ⟨hown _ hyo, hown _ hyv⟩
end
/-- What Take leaves lies behind what it took. -/
theorem take_drop {xs b rest : List UInt8} {k : Nat} (h : takeM (xs.drop k) = some (b, rest)) : rest = xs.drop (k + 1 + b.length) ∧ k + 1 + b.length ≤ xs.length ∧ b = ((xs.drop k).drop 1).take b.length ∧ ((xs.drop k).getD 0 0).toNat = b.length := by
  have hb := take_back h
  have hl := congrArg List.length hb
  rw [List.length_drop, List.length_cons, List.length_append] at hl
  have h2 : b.length < 256 := by
    cases hx : xs.drop k with
    | nil => rw [hx] at h; cases h
    | cons a ys =>
      rw [hx, takeM_cons] at h
      split at h
      · cases h
      · injection h with h
        injection h with h1 h2
        have := a.toNat_lt
        rw [← h1, List.length_take]
        omega
  refine ⟨?_, by omega, ?_, ?_⟩
  · rw [show k + 1 + b.length = k + (1 + b.length) by omega, ← List.drop_drop, ← List.drop_drop, hb]
    simp
  · rw [hb]; simp
  · rw [hb]
    simp [UInt8.toNat_ofNat', Nat.mod_eq_of_lt h2]
theorem recR_take {xs rest : List UInt8} {r : Rc} (h : recR xs = some (r, rest)) : ∃ b, takeM xs = some (b, rest) ∧ decode b = (0, r) := by
  unfold recR at h
  split at h
  · cases h
  · rename_i b rest' ht
    split at h
    · rename_i h0
      injection h with h
      injection h with h1 h2
      subst h2
      exact ⟨b, ht, by rw [← h1, ← h0]⟩
    · cases h
theorem recR_of {xs b rest : List UInt8} (h : takeM xs = some (b, rest)) : recR xs = if (decode b).1 = 0 then some ((decode b).2, rest) else none := by
  unfold recR
  rw [h]
theorem recR_no {xs : List UInt8} (h : takeM xs = none) : recR xs = none := by
  unfold recR
  rw [h]
theorem takeM_no {xs : List UInt8} (h : takeM xs = none) : xs.length < 1 + (xs.getD 0 0).toNat := by
  cases xs with
  | nil => simp
  | cons a ys =>
    rw [takeM_cons] at h
    split at h
    · simp; omega
    · cases h
/-- Each record takes two bytes at least. -/
theorem recs_two {w : World} : ∀ {L : List RcD}, (∀ y ∈ L, y.At w) → L.all mayB = true → 2 * L.length ≤ (recsB L).length
  | [], _, _ => Nat.zero_le _
  | y :: L, hL, h => by
    rw [List.all_cons, Bool.and_eq_true] at h
    have ih := recs_two (fun x hx => hL x (List.mem_cons_of_mem _ hx)) h.2
    obtain ⟨ys, hy⟩ := encB_head h.1
    have : recsB (y :: L) = lenc y ++ recsB L := rfl
    rw [this, List.length_append, List.length_cons]
    unfold lenc
    rw [List.length_cons, hy, List.length_cons]
    omega
end Go.Proofs.YtnbamljaiahmdaaGreat
