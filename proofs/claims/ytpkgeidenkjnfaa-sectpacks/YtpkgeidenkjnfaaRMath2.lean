/-
  What is decoded may be, and is encoded to the same bytes; a piece of it is short. Sizes.
-/
import Derived.Test.YtpkgeidenkjnfaaRMath
namespace Go.Proofs.Ytpkgeidenkjnfaa
open Go Go.RowKit

theorem foldl_bad (fl : List Fld) (e : Int) : fl.foldl decStep (.bad e) = .bad e := by
  induction fl with
  | nil => rfl
  | cons f fl ih => rw [List.foldl_cons]; exact ih
theorem decV_bad {xs : List UInt8} {e : Int} (h : decV xs = .bad e) : e = 6 ∨ e = 7 := by
  unfold decV at h
  repeat' split at h
  all_goals first | (injection h with h; omega) | cases h
theorem decF_bad {r : Rc} {xs : List UInt8} {f : Fld} {e : Int} (h : decF r xs f = .bad e) : e = 6 ∨ e = 7 := by
  cases f with
  | num i wd =>
    have hd : decF r xs (.num i wd) = if xs.length < wd then .bad 6 else .got { r with f := upd r.f i (unle (xs.take wd)) } (xs.drop wd) := rfl
    rw [hd] at h
    split at h
    · injection h with h; omega
    · cases h
  | old =>
    cases hv : decV xs with
    | bad e' => simp only [decF, hv] at h; injection h with h; subst h; exact decV_bad hv
    | got v ys => simp only [decF, hv] at h; cases h
  | new =>
    cases hv : decV xs with
    | bad e' => simp only [decF, hv] at h; injection h with h; subst h; exact decV_bad hv
    | got v ys => simp only [decF, hv] at h; cases h
theorem foldl_err {e : Int} : ∀ {fl : List Fld} {r : Rc} {xs : List UInt8}, fl.foldl decStep (.got r xs) = .bad e → e = 6 ∨ e = 7
  | [], r, xs, h => by cases h
  | f :: fl, r, xs, h => by
    rw [List.foldl_cons] at h
    cases hd : decF r xs f with
    | bad e' =>
      have : decStep (.got r xs) f = .bad e' := hd
      rw [this, foldl_bad] at h
      injection h with h
      subst h
      exact decF_bad hd
    | got r1 zs =>
      have : decStep (.got r xs) f = .got r1 zs := hd
      rw [this] at h
      exact foldl_err h

theorem foldl_took : ∀ {fl : List Fld} (_ : ∀ f ∈ fl, f.good) (_ : Dist fl) {r r' : Rc} {xs ys : List UInt8}, fl.foldl decStep (.got r xs) = .got r' ys →
    xs = fl.flatMap (encP r') ++ ys ∧ (∀ f ∈ fl, okP r' f) ∧ Agr fl r r' ∧ ∀ n, n < (fl.flatMap (encP r')).length → fl.foldl decStep (.got r (xs.take n)) = .bad 6
  | [], _, _, r, r', xs, ys, h => by
    injection h with h1 h2
    subst h1 h2
    exact ⟨rfl, by simp, ⟨rfl, fun _ _ => rfl, fun _ => rfl, fun _ => rfl⟩, fun n hn => by simp at hn⟩
  | f :: fl, hg, hD, r, r', xs, ys, h => by
    rw [List.foldl_cons] at h
    cases hd : decF r xs f with
    | bad e =>
      have : decStep (.got r xs) f = .bad e := hd
      rw [this, foldl_bad] at h
      cases h
    | got r1 zs =>
      have e1 : decStep (.got r xs) f = .got r1 zs := hd
      rw [e1] at h
      obtain ⟨ht, ho, ha⟩ := decF_took (hg f (List.mem_cons_self ..)) hd
      obtain ⟨i1, i2, i3, i4⟩ := foldl_took (fun g hg' => hg g (List.mem_cons_of_mem _ hg')) hD.2 h
      obtain ⟨k1, k2⟩ := i3.enc hD.1
      refine ⟨?_, ?_, ?_, ?_⟩
      · rw [List.flatMap_cons, List.append_assoc, ← i1, k1]
        exact ht.app
      · intro g hg'
        rcases List.mem_cons.1 hg' with e | e
        · subst e; exact k2 ho
        · exact i2 g e
      · exact ha.trans i3
      · intro n hn
        rw [List.flatMap_cons, List.length_append, k1] at hn
        rw [List.foldl_cons]
        rcases Nat.lt_or_ge n (encP r1 f).length with hlt | hge
        · have : decStep (.got r (xs.take n)) f = .bad 6 := ht.short n hlt
          rw [this, foldl_bad]
        · have : decStep (.got r (xs.take n)) f = .got r1 (zs.take (n - (encP r1 f).length)) := ht.long n hge
          rw [this]
          exact i4 _ (by omega)

theorem fields_dist {k : Int} {fl : List Fld} (h : fieldsOf k = some fl) : Dist fl := by
  unfold fieldsOf at h
  repeat' split at h
  all_goals first | (injection h with h; subst h; simp [Dist, apart]) | cases h

theorem none_p {w : World} {v : VlD} (hv : v.At w) (h : v.p = Vl.none) : noneV v = true := by
  have hl := Sl.len hv
  obtain ⟨is, B, m, d, vs⟩ := v
  simp only at hl
  subst hl
  injection h with h1 h2
  simp only at h1 h2
  subst h1 h2
  rfl
set_option maxHeartbeats 1000000 in
theorem agr_empty {w : World} {y : RcD} (hy : y.At w) {k : Int} {fl : List Fld} (h : fieldsOf k = some fl) {k' : Int} (ha : Agr fl ⟨k', fun _ => 0, Vl.none, Vl.none⟩ y.p) : emptyB (fl.foldl zeroF y) = true := by
  have hf : ∀ i, (∀ wd, Fld.num i wd ∉ fl) → y.f i = 0 := ha.f
  have ho : Fld.old ∉ fl → noneV y.o = true := fun h => none_p hy.1 (ha.o h)
  have hv : Fld.new ∉ fl → noneV y.v = true := fun h => none_p hy.2 (ha.v h)
  have hn : noneV VlD.none = true := rfl
  unfold fieldsOf at h
  repeat' split at h
  all_goals first
    | (injection h with h; subst h
       have f1 := hf 1; have f2 := hf 2; have f3 := hf 3; have f4 := hf 4; have f5 := hf 5; have f6 := hf 6; have f7 := hf 7; have f8 := hf 8; have f9 := hf 9
       simp at f1 f2 f3 f4 f5 f6 f7 f8 f9 ho hv
       simp [emptyB, zeroF, upd, *])
    | cases h

/-- What decode says of bytes. -/
theorem decode_err {xs : List UInt8} (h : (decode xs).1 ≠ 0) : ((decode xs).1 = 6 ∨ (decode xs).1 = 7) ∧ (decode xs).2 = Rc.zero := by
  cases xs with
  | nil => exact ⟨.inl rfl, rfl⟩
  | cons b ys =>
    simp only [decode] at h ⊢
    cases hfl : fieldsOf (b.toNat : Int) with
    | none => simp
    | some fl =>
      simp only [hfl] at h ⊢
      cases hs : fl.foldl decStep (.got ⟨b.toNat, fun _ => 0, Vl.none, Vl.none⟩ ys) with
      | bad e => exact ⟨foldl_err hs, rfl⟩
      | got r rest =>
        simp only [hs] at h ⊢
        cases rest with
        | nil => simp at h
        | cons c cs => simp
theorem dec_only {w : World} {y : RcD} (hy : y.At w) {xs : List UInt8} (h : decode xs = (0, y.p)) : mayB y = true ∧ encB y = xs ∧ ∀ n, n < xs.length → (decode (xs.take n)).1 = 6 := by
  cases xs with
  | nil => injection h with h1 h2; cases h1
  | cons b ys =>
    have hdec : ∀ zs : List UInt8, decode (b :: zs) = match fieldsOf (b.toNat : Int) with
      | none => (7, Rc.zero)
      | some fl => match fl.foldl decStep (.got ⟨b.toNat, fun _ => 0, Vl.none, Vl.none⟩ zs) with
        | .bad e => (e, Rc.zero)
        | .got r [] => (0, r)
        | .got _ (_ :: _) => (7, Rc.zero) := fun _ => rfl
    rw [hdec] at h
    cases hfl : fieldsOf (b.toNat : Int) with
    | none => simp only [hfl] at h; injection h with h1 h2; cases h1
    | some fl =>
      simp only [hfl] at h
      cases hs : fl.foldl decStep (.got ⟨b.toNat, fun _ => 0, Vl.none, Vl.none⟩ ys) with
      | bad e =>
        simp only [hs] at h
        injection h with h1 h2
        have := foldl_err hs
        omega
      | got r rest =>
        cases rest with
        | cons c cs => simp only [hs] at h; injection h with h1 h2; cases h1
        | nil =>
          simp only [hs] at h
          injection h with h1 h2
          subst h2
          obtain ⟨t1, t2, t3, t4⟩ := foldl_took (fields_good hfl) (fields_dist hfl) hs
          rw [List.append_nil] at t1
          have hk : y.k = (b.toNat : Int) := t3.k
          have hfy : fieldsOf y.k = some fl := by rw [hk]; exact hfl
          refine ⟨?_, ?_, ?_⟩
          · rw [mayB_split hfy, Bool.and_eq_true]
            exact ⟨List.all_eq_true.2 (fun f hf => (okF_p hy f).2 (t2 f hf)), agr_empty hy hfl t3⟩
          · unfold encB
            rw [hfy]
            show UInt8.ofNat y.k.toNat :: fl.flatMap (encF y) = _
            rw [show encF y = encP y.p from funext (encF_p y), ← t1, hk, Int.toNat_natCast, UInt8.ofNat_toNat]
          · intro n hn
            cases n with
            | zero => rfl
            | succ m =>
              rw [List.take_succ_cons, hdec]
              simp only [hfl]
              rw [t4 m (by rw [← t1]; simpa using hn)]
end Go.Proofs.Ytpkgeidenkjnfaa
