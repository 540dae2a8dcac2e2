/-
  sect.Unpack.
-/
import Derived.Test.YtpkgeidenkjnfaaSUn
import Derived.Test.YtpkgeidenkjnfaaSRow
namespace Go.Proofs.Ytpkgeidenkjnfaa
open Go Go.RowKit Go.Shelf

/-- What has been read behind j records. -/
def recsJ (xs : List UInt8) : Nat → Option (List Rc × List UInt8)
  | 0 => some ([], xs)
  | j + 1 => match recsJ xs j with
    | none => none
    | some (l, ys) => match recR ys with
      | none => none
      | some (r, zs) => some (l ++ [r], zs)
theorem recsJ_no {xs ys : List UInt8} {l : List Rc} {j : Nat} (h : recsJ xs j = some (l, ys)) (hr : recR ys = none) : ∀ k, j < k → recsJ xs k = none
  | 0, hk => by omega
  | k + 1, hk => by
    rcases Nat.lt_or_ge j k with h1 | h1
    · show (match recsJ xs k with | none => none | some (l, ys) => match recR ys with | none => none | some (r, zs) => some (l ++ [r], zs)) = none
      rw [recsJ_no h hr k h1]
    · obtain rfl : j = k := by omega
      show (match recsJ xs j with | none => none | some (l, ys) => match recR ys with | none => none | some (r, zs) => some (l ++ [r], zs)) = none
      rw [h]
      show (match recR ys with | none => none | some (r, zs) => some (l ++ [r], zs)) = none
      rw [hr]
theorem recsJ_yes {xs ys zs : List UInt8} {l : List Rc} {r : Rc} {j : Nat} (h : recsJ xs j = some (l, ys)) (hr : recR ys = some (r, zs)) : recsJ xs (j + 1) = some (l ++ [r], zs) := by
  show (match recsJ xs j with | none => none | some (l, ys) => match recR ys with | none => none | some (r, zs) => some (l ++ [r], zs)) = _
  rw [h]
  show (match recR ys with | none => none | some (r, zs) => some (l ++ [r], zs)) = _
  rw [hr]
theorem takeM_len {xs b rest : List UInt8} (h : takeM xs = some (b, rest)) : rest.length < xs.length := by
  cases xs with
  | nil => cases h
  | cons a ys =>
    rw [takeM_cons] at h
    split at h
    · cases h
    · injection h with h
      injection h with _ h
      rw [← h, List.length_drop, List.length_cons]
      omega
theorem recR_len {xs rest : List UInt8} {r : Rc} (h : recR xs = some (r, rest)) : rest.length < xs.length := by
  unfold recR at h
  split at h
  · cases h
  · rename_i b rest' ht
    split at h
    · injection h with h
      injection h with _ h
      subst h
      exact takeM_len ht
    · cases h
theorem recsJ_len {xs : List UInt8} : ∀ {j : Nat} {l : List Rc} {ys : List UInt8}, recsJ xs j = some (l, ys) → ys.length ≤ xs.length
  | 0, l, ys, h => by injection h with h; injection h with _ h; rw [← h]; exact Nat.le_refl _
  | j + 1, l, ys, h => by
    cases h1 : recsJ xs j with
    | none =>
      have : recsJ xs (j + 1) = none := by
        show (match recsJ xs j with | none => none | some (l, ys) => match recR ys with | none => none | some (r, zs) => some (l ++ [r], zs)) = none
        rw [h1]
      rw [this] at h
      cases h
    | some p =>
      obtain ⟨l1, y1⟩ := p
      cases h2 : recR y1 with
      | none =>
        rw [recsJ_no h1 h2 (j + 1) (by omega)] at h
        cases h
      | some q =>
        obtain ⟨r, zs⟩ := q
        rw [recsJ_yes h1 h2] at h
        injection h with h
        injection h with _ h
        subst h
        have a := recsJ_len h1
        have b := recR_len h2
        omega

/-- What Unpack makes of bytes. -/
def unpackM (xs : List UInt8) : Option (List Rc) :=
  if xs.length < 11 ∨ 248 < xs.length then none
  else if (headOk (hdE xs) (hdS xs) (hdF xs) && decide (hdN xs ≤ 60)) = false then none
  else match recsJ (xs.drop 11) (hdN xs) with
    | none => none
    | some (l, rest) => if rest.all (· == 0) then some l else none

/-- What Unpack answers. -/
def UnAns (w w' : World) (xs : List UInt8) (e : Ending) : Option (List Rc) → Prop
  | none => e = .returned (.tuple #[.agg BtD.zero.cells, .int .i64 7])
  | some l => ∃ (B : Option Addr) (m d : Nat) (L : List RcD), e = .returned (.tuple #[.agg #[.int .i64 (hdE xs), .int .i64 (hdS xs), .int .i64 (hdF xs), .slice B m d], .int .i64 0]) ∧
      OwN w' w.heap.size 45 14 B m d (recsC L) ∧ (∀ y ∈ L, y.o.Own w' w.heap.size ∧ y.v.Own w' w.heap.size) ∧ L.map RcD.p = l

theorem OwN.rebase {w : World} {base base' : Nat} {e : TypeId} {size : Nat} {A : Option Addr} {n c : Nat} {vs : List Value} (h : OwN w base e size A n c vs) (hb : base' ≤ base) : OwN w base' e size A n c vs := by
  refine ⟨h.1, ?_⟩
  rcases h.2 with hn | ⟨g, cap, cur, hv, hbg, rest⟩
  · exact .inl hn
  · exact .inr ⟨g, cap, cur, hv, Nat.le_trans hb hbg, rest⟩
theorem OwN.type_ {w : World} {base : Nat} {e : TypeId} {size : Nat} {A : Option Addr} {n c : Nat} {vs : List Value} (h : OwN w base e size A n c vs) {k : Nat} (hk : blkOf A = some k) : ∃ cs, w.heap[k]? = some (.cells cs e (0, 0)) := by
  rcases h.2 with ⟨hv, _⟩ | ⟨g, cap, cur, hv, _, hh, _⟩
  · injection hv with hA; subst hA; simp [blkOf] at hk
  · injection hv with hA
    subst hA
    simp [blkOf] at hk
    subst hk
    exact ⟨cur, hh⟩

/-- Unpack's memory while it reads. -/
structure US (w : World) (base rg rb bx : Nat) (e s f : Int) (W : World) (B : Option Addr) (m d : Nat) (L : List RcD) (rest : List UInt8) : Prop where
  rd : Rdr W rg rb rest
  box : BtD.In W ⟨e, s, f, B, m, d, L⟩ bx
  res : BtD.zero.In W w.heap.size
  row : OwN W base 45 14 B m d (recsC L)
  own : ∀ y ∈ L, y.o.Own W base ∧ y.v.Own W base
  old : Mod (fun _ => False) w W
  l1 : w.heap.size < rb
  l2 : rb < rg
  l3 : rg < bx
  l4 : bx < base
  l5 : base ≤ W.heap.size
section
variable {w W W1 : World} {base rg rb bx : Nat} {e s f : Int} {B : Option Addr} {m d : Nat} {L : List RcD} {rest rest' : List UInt8}
theorem US.len (h : US w base rg rb bx e s f W B m d L rest) : L.length = m := by have := h.row.1; rw [recsC_len] at this; omega
/-- Blocks below base that turn, but those that matter. -/
theorem US.turn (h : US w base rg rb bx e s f W B m d L rest) (hm : Mod (fun k => k = rg) W W1) (hr : Rdr W1 rg rb rest') : US w base rg rb bx e s f W1 B m d L rest' := by
  have l1 := h.l1; have l2 := h.l2; have l3 := h.l3; have l4 := h.l4
  refine ⟨hr, h.box.mod hm (by omega), h.res.mod hm (by omega), h.row.mod hm (fun k hk e => by have := (h.row.lt k hk).1; omega), fun y hy => ?_, h.old.trans hm (fun k hk e => by omega), h.l1, h.l2, h.l3, h.l4, Nat.le_trans h.l5 hm.size⟩
  obtain ⟨a, b⟩ := h.own y hy
  exact ⟨OwV.mod a hm (fun k hk e => by have := (OwV.lt a k hk).1; omega), OwV.mod b hm (fun k hk e => by have := (OwV.lt b k hk).1; omega)⟩
theorem US.keep (h : US w base rg rb bx e s f W B m d L rest) (hm : Mod (fun _ => False) W W1) : US w base rg rb bx e s f W1 B m d L rest :=
  h.turn (hm.mono (fun _ _ h => h.elim)) (h.rd.keep hm)
/-- One record more: the row has grown, the batch tells of it. -/
theorem US.push (h : US w base rg rb bx e s f W B m d L rest) {y : RcD} (hyo : y.o.Own W base) (hyv : y.v.Own W base) {B' : Option Addr} {d' : Nat}
    (hrow : OwN W1 base 45 14 B' (m + 1) d' (recsC L ++ recsC [y])) (hg : W.grownBy W1 (blkOf B)) :
    US w base rg rb bx e s f (W1.setCell ⟨bx, 3, none⟩ (.slice B' (m + 1) d')) B' (m + 1) d' (L ++ [y]) rest := by
  have l1 := h.l1; have l2 := h.l2; have l3 := h.l3; have l4 := h.l4
  have hB : ∀ k, blkOf B = some k → base ≤ k := fun k hk => (h.row.lt k hk).1
  have hm : Mod (fun k => blkOf B = some k) W W1 := (Mod.refl _ W).grown hg (fun k e _ => e)
  have hm2 : Mod (fun k => k = bx) W1 (W1.setCell ⟨bx, 3, none⟩ (.slice B' (m + 1) d')) := (Mod.refl (fun k => k = bx) W1).setCell (p := ⟨bx, 3, none⟩) (fun _ => rfl) _
  have hown : ∀ z : VlD, z.Own W base → z.Own (W1.setCell ⟨bx, 3, none⟩ (.slice B' (m + 1) d')) base := fun z hz => by
    have h1 : z.Own W1 base := OwV.mod hz hm (fun k hk e => by
      obtain ⟨cs, hc⟩ := h.row.type_ e
      exact ne_of_type hz hc (by decide) k hk rfl)
    exact OwV.mod h1 hm2 (fun k hk e => by have := (OwV.lt h1 k hk).1; omega)
  have hbx : BtD.In W1 ⟨e, s, f, B, m, d, L⟩ bx := h.box.mod hm (fun e => by have := hB _ e; omega)
  refine ⟨(h.rd.mod hm (fun e => by have := hB _ e; omega) (fun e => by have := hB _ e; omega)).far hm2 (by omega) (by omega), hbx.set3 B' (m + 1) d' (L ++ [y]), (h.res.mod hm (fun e => by have := hB _ e; omega)).mod hm2 (by omega), ?_, fun z hz => ?_, (h.old.trans hm (fun k hk e => by have := hB _ e; omega)).trans hm2 (fun k hk e => by omega), h.l1, h.l2, h.l3, h.l4, Nat.le_trans (Nat.le_trans h.l5 hm.size) hm2.size⟩
  · rw [recsC_append]
    exact hrow.mod hm2 (fun k hk e => by have := (hrow.lt k hk).1; omega)
  · rcases List.mem_append.1 hz with hz | hz
    · exact ⟨hown _ (h.own z hz).1, hown _ (h.own z hz).2⟩
    · obtain rfl : z = y := by simpa using hz
      exact ⟨hown _ hyo, hown _ hyv⟩
end
end Go.Proofs.Ytpkgeidenkjnfaa
