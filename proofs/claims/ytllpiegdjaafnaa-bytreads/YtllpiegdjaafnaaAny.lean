/-
  Put and Lay, and the document's answer for them, in all their cases at once.
-/
import Derived.Test.YtllpiegdjaafnaaOps
namespace Go.Proofs.Ytllpiegdjaafnaa
open Go Go.RowKit

theorem pw_eq (k : Nat) : pw k = (256 : Int) ^ k := by unfold pw; rw [Int.natCast_pow]; rfl

def putB (n k : Int) : Bool := widthOk k && decide (0 ≤ n) && decide (n < pw k.toNat)
def putBytes (n k : Int) : List UInt8 := if putB n k then le k.toNat n.toNat else []
def putErr (n k : Int) : Int := if putB n k then 0 else 1
theorem putB_yes {n k : Int} (h : putB n k = true) : widthOk k = true ∧ 0 ≤ n ∧ n < pw k.toNat := by
  simpa [putB, and_assoc] using h
theorem putB_no {n k : Int} (h : ¬ putB n k = true) : widthOk k = false ∨ n < 0 ∨ pw k.toNat ≤ n := by
  simp only [putB, Bool.and_eq_true, decide_eq_true_eq] at h
  by_cases hk : widthOk k = false
  · exact .inl hk
  · have : widthOk k = true := by simpa using hk
    rw [this] at h
    simp only [true_and] at h
    omega
theorem putBytes_len (n k : Int) : (putBytes n k).length ≤ 4 := by
  unfold putBytes
  split
  · rename_i h
    rw [le_length]
    rcases widthOk_cases (putB_yes h).1 with rfl | rfl | rfl <;> decide
  · simp

def layBytes (m : Nat) (xs : List UInt8) : List UInt8 := if m ≤ 255 then UInt8.ofNat m :: xs else []
def layErr (m : Nat) : Int := if m ≤ 255 then 0 else 2

theorem put_any (w : World) (base g : Nat) (A : Option Addr) (m c : Nat) (xs : List UInt8) (h : Wr w base g A m c xs) (hb : m ≤ 900000) (n k : Int) :
    Calls Try.prog 13 #[.pointer (some ⟨g, 0, none⟩), .int .i64 n, .int .i64 k] w fun e w' => e = .returned (.int .i64 (putErr n k)) ∧
      ∃ A' c', Wr w' base g A' (m + (putBytes n k).length) c' (xs ++ putBytes n k) ∧ Mod (WF g A) w w' ∧ Hence w A A' := by
  by_cases hp : putB n k = true
  · obtain ⟨h1, h2, h3⟩ := putB_yes hp
    refine (put_ok w base g A m c xs h hb n k h1 h2 (by rw [← pw_eq]; exact h3)).mono ?_
    rintro e w' ⟨rfl, A', c', hw, hm, hh⟩
    refine ⟨by simp [putErr, hp], A', c', ?_, hm, hh⟩
    simp only [putBytes, hp, if_true, le_length]
    exact hw
  · refine (put_no w g n k ?_).mono ?_
    · rcases putB_no hp with h | h | h
      · exact .inl h
      · exact .inr (.inl h)
      · exact .inr (.inr (by rw [← pw_eq]; exact h))
    · rintro e w' ⟨rfl, rfl⟩
      refine ⟨by simp [putErr, hp], A, c, ?_, Mod.refl _ _, .inl rfl⟩
      simpa [putBytes, hp] using h

theorem lay_any (w : World) (base g : Nat) (A : Option Addr) (n c : Nat) (xs : List UInt8) (h : Wr w base g A n c xs) (hb : n ≤ 900000)
    (B : Option Addr) (m d : Nat) (ys : List UInt8) (hs : Sl w B m d ys) (hsep : ∀ k, blkOf B = some k → 0 < m → ¬ WF g A k) :
    Calls Try.prog 11 #[.pointer (some ⟨g, 0, none⟩), .slice B m d] w fun e w' => e = .returned (.int .i64 (layErr m)) ∧
      ∃ A' c', Wr w' base g A' (n + (layBytes m ys).length) c' (xs ++ layBytes m ys) ∧ Mod (WF g A) w w' ∧ Hence w A A' := by
  by_cases hm : m ≤ 255
  · refine (lay_ok w base g A n c xs h hb B m d ys hs hm hsep).mono ?_
    rintro e w' ⟨rfl, A', c', hw, hmo, hh⟩
    refine ⟨by simp [layErr, hm], A', c', ?_, hmo, hh⟩
    simp only [layBytes, hm, if_true, List.length_cons, hs.len]
    exact hw
  · refine (lay_long w g B m d (by omega)).mono ?_
    rintro e w' ⟨rfl, rfl⟩
    refine ⟨by simp [layErr, hm], A, c, ?_, Mod.refl _ _, .inl rfl⟩
    simpa [layBytes, hm] using h

theorem refPut_any (w : World) (n k : Int) :
    Calls Try.prog 14 #[.int .i64 n, .int .i64 k] w fun e w' => ∃ A c, e = .returned (.tuple #[.slice A (putBytes n k).length c, .int .i64 (putErr n k)]) ∧
      FreshR w w' A (putBytes n k).length c (putBytes n k) := by
  by_cases hp : putB n k = true
  · obtain ⟨h1, h2, h3⟩ := putB_yes hp
    refine (refPut_ok w n k h1 h2 h3).mono ?_
    rintro e w' ⟨A, c, rfl, hf⟩
    refine ⟨A, c, by simp [putErr, putBytes, hp, le_length], ?_⟩
    simp only [putBytes, hp, if_true, le_length]
    exact hf
  · refine (refPut_no w n k (putB_no hp)).mono ?_
    rintro e w' ⟨rfl, rfl⟩
    refine ⟨none, 0, by simp [putErr, putBytes, hp], ?_⟩
    simp only [putBytes, hp]
    exact ⟨OwV.nil _ _ _, Mod.refl _ _⟩

theorem refLay_any (w : World) (B : Option Addr) (m d : Nat) (ys : List UInt8) (hs : Sl w B m d ys) :
    Calls Try.prog 12 #[.slice B m d] w fun e w' => ∃ A c, e = .returned (.tuple #[.slice A (layBytes m ys).length c, .int .i64 (layErr m)]) ∧
      FreshR w w' A (layBytes m ys).length c (layBytes m ys) := by
  by_cases hm : m ≤ 255
  · refine (refLay_ok w B m d ys hs hm).mono ?_
    rintro e w' ⟨A, c, rfl, hf⟩
    refine ⟨A, c, by simp [layErr, layBytes, hm, hs.len], ?_⟩
    simp only [layBytes, hm, if_true, List.length_cons, hs.len]
    exact hf
  · refine (refLay_long w B m d (by omega)).mono ?_
    rintro e w' ⟨rfl, rfl⟩
    refine ⟨none, 0, by simp [layErr, layBytes, hm], ?_⟩
    simp only [layBytes, hm]
    exact ⟨OwV.nil _ _ _, Mod.refl _ _⟩

/-- What a call appends. -/
def OpD.bytes (x : OpD) : List UInt8 := if x.lay then layBytes x.m x.xs else putBytes x.n x.width
theorem OpD.bytes_len {x : OpD} (h : x.xs.length = x.m) : x.bytes.length ≤ 256 := by
  unfold OpD.bytes layBytes
  split
  · split
    · simp; omega
    · simp
  · have := putBytes_len x.n x.width; omega
/-- What calls append. -/
def opsBytes (l : List OpD) : List UInt8 := l.flatMap OpD.bytes
theorem opsBytes_snoc (l : List OpD) (j : Nat) (h : j < l.length) : opsBytes (l.take (j + 1)) = opsBytes (l.take j) ++ l[j].bytes := by
  unfold opsBytes
  rw [List.take_succ_eq_append_getElem h, List.flatMap_append, List.flatMap_cons, List.flatMap_nil, List.append_nil]
theorem opsBytes_len (l : List OpD) (h : ∀ x ∈ l, x.xs.length = x.m) : (opsBytes l).length ≤ 256 * l.length := by
  induction l with
  | nil => simp [opsBytes]
  | cons x l ih =>
    have h1 := OpD.bytes_len (h x (by simp))
    have h2 := ih (fun y hy => h y (by simp [hy]))
    simp only [opsBytes, List.flatMap_cons, List.length_append, List.length_cons] at *
    omega
end Go.Proofs.Ytllpiegdjaafnaa
