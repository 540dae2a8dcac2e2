/-
  Plain mathematics of records and their bytes: what was encoded is decoded to the same; what is decoded is encoded to the same bytes; a piece of it is short.
-/
import Derived.Test.YtpkgeidenkjnfaaDecR3
import Derived.Test.YtpkgeidenkjnfaaEncR2
namespace Go.Proofs.Ytpkgeidenkjnfaa
open Go Go.RowKit

def encVP (v : Vl) : List UInt8 := if v.is then UInt8.ofNat v.b.length :: v.b else [255]
def encP (r : Rc) : Fld → List UInt8
  | .num i wd => le wd (r.f i).toNat
  | .old => encVP r.o
  | .new => encVP r.v
def okVP (v : Vl) : Prop := (v.is = false ∧ v.b = []) ∨ (v.is = true ∧ v.b.length ≤ 32)
def okP (r : Rc) : Fld → Prop
  | .num i wd => 0 ≤ r.f i ∧ r.f i < (256 : Int) ^ wd
  | .old => okVP r.o
  | .new => okVP r.v
theorem encF_p (x : RcD) (f : Fld) : encF x f = encP x.p f := by cases f <;> rfl
theorem okV_p {w : World} {v : VlD} (hv : v.At w) : okV v = true ↔ okVP v.p := by
  have hl := Sl.len hv
  obtain ⟨is, B, m, d, vs⟩ := v
  simp only at hl
  subst hl
  unfold okV noneV okVP VlD.p
  cases is
  · simp
  · simp; omega
theorem okF_p {w : World} {x : RcD} (hx : x.At w) (f : Fld) : okF x f = true ↔ okP x.p f := by
  cases f with
  | num i wd => unfold okF okN okP RcD.p; simp
  | old => exact okV_p hx.1
  | new => exact okV_p hx.2

/-- A field of one record in another. -/
def setP (s r : Rc) : Fld → Rc
  | .num i _ => { r with f := upd r.f i (s.f i) }
  | .old => { r with o := s.o }
  | .new => { r with v := s.v }

theorem byte255 {n : Nat} (h : n ≤ 32) : UInt8.ofNat n ≠ 255 ∧ (UInt8.ofNat n).toNat = n := by
  have e : (UInt8.ofNat n).toNat = n := by rw [UInt8.toNat_ofNat']; exact Nat.mod_eq_of_lt (by omega)
  refine ⟨fun h' => ?_, e⟩
  have : (UInt8.ofNat n).toNat = (255 : UInt8).toNat := by rw [h']
  rw [e] at this
  have h2 : (255 : UInt8).toNat = 255 := rfl
  omega
theorem decV_enc {v : Vl} (h : okVP v) (xs : List UInt8) : decV (encVP v ++ xs) = .got v xs := by
  obtain ⟨is, b⟩ := v
  rcases h with ⟨h1, h2⟩ | ⟨h1, h2⟩
  · simp only at h1 h2
    subst h1 h2
    simp [encVP, decV, Vl.none]
  · simp only at h1 h2
    subst h1
    obtain ⟨e1, e2⟩ := byte255 h2
    have hd : ∀ (c : UInt8) (ys : List UInt8), decV (c :: ys) = if c = 255 then .got Vl.none ys else if 32 < c.toNat then .bad 7 else if ys.length < c.toNat then .bad 6 else .got ⟨true, ys.take c.toNat⟩ (ys.drop c.toNat) := fun _ _ => rfl
    show decV (UInt8.ofNat b.length :: (b ++ xs)) = _
    rw [hd, if_neg e1, e2, if_neg (by omega), if_neg (by rw [List.length_append]; omega), List.take_left' rfl, List.drop_left' rfl]
theorem decStep_enc {s : Rc} {f : Fld} (h : okP s f) (r : Rc) (xs : List UInt8) : decStep (.got r (encP s f ++ xs)) f = .got (setP s r f) xs := by
  cases f with
  | num i wd =>
    have hl : (le wd (s.f i).toNat).length = wd := le_length _ _
    have hd : decF r (le wd (s.f i).toNat ++ xs) (.num i wd) = if (le wd (s.f i).toNat ++ xs).length < wd then .bad 6 else .got { r with f := upd r.f i (unle ((le wd (s.f i).toNat ++ xs).take wd)) } ((le wd (s.f i).toNat ++ xs).drop wd) := rfl
    show decF r (le wd (s.f i).toNat ++ xs) (.num i wd) = _
    rw [hd, if_neg (by rw [List.length_append, hl]; omega), List.take_left' hl, List.drop_left' hl, unle_le]
    · unfold setP
      have : ((s.f i).toNat : Int) = s.f i := Int.toNat_of_nonneg h.1
      rw [this]
    · have h1 := h.1
      have h2 := h.2
      have e : ((256 : Int) ^ wd) = ((256 ^ wd : Nat) : Int) := by rw [Int.natCast_pow]; rfl
      rw [e] at h2
      generalize (256 : Nat) ^ wd = q at *
      omega
  | old =>
    show decF r (encVP s.o ++ xs) .old = _
    simp only [decF, decV_enc h xs, setP]
  | new =>
    show decF r (encVP s.v ++ xs) .new = _
    simp only [decF, decV_enc h xs, setP]
theorem foldl_enc {s : Rc} : ∀ {fl : List Fld} (_ : ∀ f ∈ fl, okP s f) (r : Rc) (xs : List UInt8), fl.foldl decStep (.got r (fl.flatMap (encP s) ++ xs)) = .got (fl.foldl (setP s) r) xs
  | [], _, r, xs => rfl
  | f :: fl, h, r, xs => by
    rw [List.flatMap_cons, List.append_assoc, List.foldl_cons, decStep_enc (h f (List.mem_cons_self ..)), List.foldl_cons]
    exact foldl_enc (fun g hg => h g (List.mem_cons_of_mem _ hg)) _ _

/-- A record that was read is the same as another one. -/
structure Req (r : Rc) (x : RcD) : Prop where
  k : r.k = x.k
  f : ∀ i, 1 ≤ i → i ≤ 9 → r.f i = x.f i
  o : r.o = x.o.p
  v : r.v = x.v.p

theorem noneV_p {w : World} {v : VlD} (hv : v.At w) (h : noneV v = true) : v.p = Vl.none := by
  have hl := Sl.len hv
  obtain ⟨is, B, m, d, vs⟩ := v
  simp only at hl
  subst hl
  unfold noneV at h
  simp at h
  simp [VlD.p, Vl.none, h.1, h.2]
theorem ten {P : Nat → Prop} (h1 : P 1) (h2 : P 2) (h3 : P 3) (h4 : P 4) (h5 : P 5) (h6 : P 6) (h7 : P 7) (h8 : P 8) (h9 : P 9) : ∀ i, 1 ≤ i → i ≤ 9 → P i := by
  intro i a b
  match i, a, b with
  | 1, _, _ => exact h1
  | 2, _, _ => exact h2
  | 3, _, _ => exact h3
  | 4, _, _ => exact h4
  | 5, _, _ => exact h5
  | 6, _, _ => exact h6
  | 7, _, _ => exact h7
  | 8, _, _ => exact h8
  | 9, _, _ => exact h9
theorem kind_byte {k : Int} {fl : List Fld} (h : fieldsOf k = some fl) : (((UInt8.ofNat k.toNat).toNat : Nat) : Int) = k := by
  have := fields_kind h
  rw [UInt8.toNat_ofNat', Nat.mod_eq_of_lt (by omega)]
  omega

set_option maxHeartbeats 1000000 in
theorem set_req {w : World} {x : RcD} (hx : x.At w) {fl : List Fld} (h : fieldsOf x.k = some fl) (he : emptyB (fl.foldl zeroF x) = true) : Req (fl.foldl (setP x.p) ⟨x.k, fun _ => 0, Vl.none, Vl.none⟩) x := by
  have ho := noneV_p hx.1
  have hv := noneV_p hx.2
  unfold fieldsOf at h
  repeat' split at h
  all_goals first
    | (injection h with h; subst h
       simp [emptyB, zeroF, upd] at he
       refine ⟨by simp [setP], ten ?_ ?_ ?_ ?_ ?_ ?_ ?_ ?_ ?_, ?_, ?_⟩ <;> simp [setP, upd, RcD.p, he, ho, hv])
    | cases h

theorem dec_enc {w : World} {x : RcD} (hx : x.At w) (h : mayB x = true) : ∃ r, decode (encB x) = (0, r) ∧ Req r x := by
  obtain ⟨fl, hfl, hok, he⟩ := mayB_kind h
  refine ⟨_, ?_, set_req hx hfl he⟩
  have e1 : encB x = UInt8.ofNat x.k.toNat :: (fl.flatMap (encP x.p) ++ []) := by
    unfold encB
    rw [hfl, List.append_nil]
    show UInt8.ofNat x.k.toNat :: fl.flatMap (encF x) = _
    rw [show encF x = encP x.p from funext (encF_p x)]
  rw [e1]
  have hk := kind_byte hfl
  have e2 : decode (UInt8.ofNat x.k.toNat :: (fl.flatMap (encP x.p) ++ [])) = (0, fl.foldl (setP x.p) ⟨x.k, fun _ => 0, Vl.none, Vl.none⟩) := by
    simp only [decode, hk, hfl, foldl_enc (fun f hf => (okF_p hx f).1 (hok f hf))]
  exact e2

/-- Is a field apart from others? -/
def apart : Fld → List Fld → Prop
  | .num i _, l => ∀ wd, Fld.num i wd ∉ l
  | .old, l => Fld.old ∉ l
  | .new, l => Fld.new ∉ l
def Dist : List Fld → Prop
  | [] => True
  | f :: l => apart f l ∧ Dist l
/-- Two records agree but at some fields. -/
structure Agr (S : List Fld) (r r' : Rc) : Prop where
  k : r'.k = r.k
  f : ∀ i, (∀ wd, Fld.num i wd ∉ S) → r'.f i = r.f i
  o : Fld.old ∉ S → r'.o = r.o
  v : Fld.new ∉ S → r'.v = r.v
theorem Agr.trans {S T : List Fld} {a b c : Rc} (h : Agr S a b) (k : Agr T b c) : Agr (S ++ T) a c :=
  ⟨k.k.trans h.k, fun i hi => (k.f i (fun wd hm => hi wd (List.mem_append_right _ hm))).trans (h.f i (fun wd hm => hi wd (List.mem_append_left _ hm))),
    fun hi => (k.o (fun hm => hi (List.mem_append_right _ hm))).trans (h.o (fun hm => hi (List.mem_append_left _ hm))),
    fun hi => (k.v (fun hm => hi (List.mem_append_right _ hm))).trans (h.v (fun hm => hi (List.mem_append_left _ hm)))⟩
theorem Agr.enc {S : List Fld} {r r' : Rc} (h : Agr S r r') {f : Fld} (hf : apart f S) : encP r' f = encP r f ∧ (okP r f → okP r' f) := by
  cases f with
  | num i wd => have := h.f i hf; constructor <;> simp only [encP, okP, this]; exact id
  | old => have := h.o hf; constructor <;> simp only [encP, okP, this]; exact id
  | new => have := h.v hf; constructor <;> simp only [encP, okP, this]; exact id

/-- What a value's reading takes: how many bytes, which they are, and what fewer of them, or more, would do. -/
structure Took {α : Type} (d : List UInt8 → Rdn α) (xs : List UInt8) (a : α) (ys E : List UInt8) : Prop where
  app : xs = E ++ ys
  short : ∀ n, n < E.length → d (xs.take n) = .bad 6
  long : ∀ n, E.length ≤ n → d (xs.take n) = .got a (ys.take (n - E.length))
theorem decV_took {xs ys : List UInt8} {v : Vl} (h : decV xs = .got v ys) : Took decV xs v ys (encVP v) ∧ okVP v := by
  cases xs with
  | nil => cases h
  | cons b zs =>
    have hd : ∀ (c : UInt8) (ys : List UInt8), decV (c :: ys) = if c = 255 then .got Vl.none ys else if 32 < c.toNat then .bad 7 else if ys.length < c.toNat then .bad 6 else .got ⟨true, ys.take c.toNat⟩ (ys.drop c.toNat) := fun _ _ => rfl
    rw [hd] at h
    split at h
    · rename_i hb
      subst hb
      injection h with h1 h2
      subst h1 h2
      refine ⟨⟨rfl, fun n hn => ?_, fun n hn => ?_⟩, .inl ⟨rfl, rfl⟩⟩
      · have : n = 0 := by simp [encVP, Vl.none] at hn; omega
        subst this
        rfl
      · obtain ⟨m, rfl⟩ : ∃ m, n = m + 1 := ⟨n - 1, by simp [encVP, Vl.none] at hn; omega⟩
        rw [List.take_succ_cons, hd, if_pos rfl]
        simp [encVP, Vl.none]
    · rename_i hb
      split at h
      · cases h
      · rename_i h32
        split at h
        · cases h
        · rename_i hl
          injection h with h1 h2
          subst h1 h2
          have hlen : (zs.take b.toNat).length = b.toNat := by rw [List.length_take]; omega
          have he : encVP ⟨true, zs.take b.toNat⟩ = b :: zs.take b.toNat := by
            show UInt8.ofNat (zs.take b.toNat).length :: _ = _
            rw [hlen]
            simp
          rw [he]
          refine ⟨⟨by simp, fun n hn => ?_, fun n hn => ?_⟩, .inr ⟨rfl, by simp only; omega⟩⟩
          · cases n with
            | zero => rfl
            | succ m =>
              rw [List.length_cons, hlen] at hn
              rw [List.take_succ_cons, hd, if_neg hb, if_neg h32, if_pos (by rw [List.length_take]; omega)]
          · rw [List.length_cons, hlen] at hn
            obtain ⟨m, rfl⟩ : ∃ m, n = m + 1 := ⟨n - 1, by omega⟩
            rw [List.take_succ_cons, hd, if_neg hb, if_neg h32, if_neg (by rw [List.length_take]; omega), List.length_cons, hlen, List.take_take, Nat.min_eq_left (by omega), List.drop_take]
            congr 2
            omega
theorem decF_took {r r' : Rc} {xs ys : List UInt8} {f : Fld} (hg : f.good) (h : decF r xs f = .got r' ys) : Took (fun zs => decF r zs f) xs r' ys (encP r' f) ∧ okP r' f ∧ Agr [f] r r' := by
  cases f with
  | num i wd =>
    have hd : ∀ zs : List UInt8, decF r zs (.num i wd) = if zs.length < wd then .bad 6 else .got { r with f := upd r.f i (unle (zs.take wd)) } (zs.drop wd) := fun _ => rfl
    rw [hd] at h
    split at h
    · cases h
    · rename_i hl
      injection h with h1 h2
      subst h1 h2
      have hlen : (xs.take wd).length = wd := by rw [List.length_take]; omega
      have hlt := unle_lt (xs.take wd)
      rw [hlen] at hlt
      have hle : ∀ (l : List UInt8), le l.length (unle l) = l := by
        intro l
        induction l with
        | nil => rfl
        | cons a l ih =>
          have := a.toNat_lt
          show UInt8.ofNat (a.toNat + 256 * unle l) :: le l.length ((a.toNat + 256 * unle l) / 256) = _
          rw [show (a.toNat + 256 * unle l) / 256 = unle l by omega, ih]
          congr 1
          apply UInt8.toNat_inj.1
          rw [UInt8.toNat_ofNat']
          omega
      have he : encP { r with f := upd r.f i (unle (xs.take wd)) } (.num i wd) = xs.take wd := by
        show le wd (upd r.f i (unle (xs.take wd)) i).toNat = _
        have : upd r.f i (unle (xs.take wd)) i = (unle (xs.take wd) : Int) := by simp [upd]
        rw [this, Int.toNat_natCast]
        have := hle (xs.take wd)
        rw [hlen] at this
        exact this
      rw [he]
      refine ⟨⟨by simp, fun n hn => ?_, fun n hn => ?_⟩, ⟨?_, ?_⟩, rfl, fun j hj => ?_, fun _ => rfl, fun _ => rfl⟩
      · rw [hlen] at hn
        show decF r (xs.take n) _ = _
        rw [hd, if_pos (by rw [List.length_take]; omega)]
      · rw [hlen] at hn
        show decF r (xs.take n) _ = _
        rw [hd, if_neg (by rw [List.length_take]; omega), hlen, List.take_take, Nat.min_eq_left (by omega), List.drop_take]
      · show 0 ≤ upd r.f i _ i
        simp [upd]
      · show upd r.f i _ i < _
        have : upd r.f i (unle (xs.take wd)) i = (unle (xs.take wd) : Int) := by simp [upd]
        rw [this]
        have e : ((256 : Int) ^ wd) = ((256 ^ wd : Nat) : Int) := by rw [Int.natCast_pow]; rfl
        rw [e]
        generalize (256 : Nat) ^ wd = q at *
        omega
      · have : j ≠ i := by rintro rfl; exact hj wd (by simp)
        show upd r.f i _ j = _
        simp [upd, this]
  | old =>
    have hd : ∀ zs : List UInt8, decF r zs .old = match decV zs with | .bad e => .bad e | .got v ys => .got { r with o := v } ys := fun _ => rfl
    rw [hd] at h
    cases hv : decV xs with
    | bad e => rw [hv] at h; cases h
    | got v zs =>
      rw [hv] at h
      injection h with h1 h2
      subst h1 h2
      obtain ⟨ht, ho⟩ := decV_took hv
      refine ⟨⟨ht.app, fun n hn => ?_, fun n hn => ?_⟩, ho, rfl, fun _ _ => rfl, fun hn => absurd (by simp) hn, fun _ => rfl⟩
      · show decF r (xs.take n) _ = _
        rw [hd, ht.short n hn]
      · show decF r (xs.take n) _ = _
        rw [hd, ht.long n hn]
        rfl
  | new =>
    have hd : ∀ zs : List UInt8, decF r zs .new = match decV zs with | .bad e => .bad e | .got v ys => .got { r with v := v } ys := fun _ => rfl
    rw [hd] at h
    cases hv : decV xs with
    | bad e => rw [hv] at h; cases h
    | got v zs =>
      rw [hv] at h
      injection h with h1 h2
      subst h1 h2
      obtain ⟨ht, ho⟩ := decV_took hv
      refine ⟨⟨ht.app, fun n hn => ?_, fun n hn => ?_⟩, ho, rfl, fun _ _ => rfl, fun _ => rfl, fun hn => absurd (by simp) hn⟩
      · show decF r (xs.take n) _ = _
        rw [hd, ht.short n hn]
      · show decF r (xs.take n) _ = _
        rw [hd, ht.long n hn]
        rfl
end Go.Proofs.Ytpkgeidenkjnfaa
