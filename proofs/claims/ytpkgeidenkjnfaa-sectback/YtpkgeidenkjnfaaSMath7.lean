/-
  What was packed is unpacked to the same.
-/
import Derived.Test.YtpkgeidenkjnfaaSUn2
import Derived.Test.YtpkgeidenkjnfaaSFits
namespace Go.Proofs.Ytpkgeidenkjnfaa
open Go Go.RowKit

theorem hd_bytes {e s f : Int} {n : Nat} (h : headOk e s f = true) (hn : n ≤ 255) (ys : List UInt8) :
    hdE (headB e s f n ++ ys) = e ∧ hdS (headB e s f n ++ ys) = s ∧ hdF (headB e s f n ++ ys) = f ∧ hdN (headB e s f n ++ ys) = n ∧ (headB e s f n ++ ys).drop 11 = ys := by
  obtain ⟨e0, e1, s0, s1, f0, f1⟩ := headOk_bd h
  have l1 := le_length 2 e.toNat
  have l2 := le_length 4 s.toNat
  have l3 := le_length 4 f.toNat
  have l4 := le_length 1 n
  have u1 := unle_le 2 e.toNat (by omega)
  have u2 := unle_le 4 s.toNat (by omega)
  have u3 := unle_le 4 f.toNat (by omega)
  have u4 := unle_le 1 n (by omega)
  have hh : headB e s f n ++ ys = le 2 e.toNat ++ (le 4 s.toNat ++ (le 4 f.toNat ++ (le 1 n ++ ys))) := by simp [headB]
  rw [hh]
  generalize le 2 e.toNat = a at *
  generalize le 4 s.toNat = b at *
  generalize le 4 f.toNat = c at *
  generalize le 1 n = d at *
  have d2 : (a ++ (b ++ (c ++ (d ++ ys)))).drop 2 = b ++ (c ++ (d ++ ys)) := List.drop_left' l1
  have d6 : (a ++ (b ++ (c ++ (d ++ ys)))).drop 6 = c ++ (d ++ ys) := by
    rw [show (6 : Nat) = 2 + 4 from rfl, ← List.drop_drop, d2]
    exact List.drop_left' l2
  have d10 : (a ++ (b ++ (c ++ (d ++ ys)))).drop 10 = d ++ ys := by
    rw [show (10 : Nat) = 6 + 4 from rfl, ← List.drop_drop, d6]
    exact List.drop_left' l3
  have d11 : (a ++ (b ++ (c ++ (d ++ ys)))).drop 11 = ys := by
    rw [show (11 : Nat) = 10 + 1 from rfl, ← List.drop_drop, d10]
    exact List.drop_left' l4
  refine ⟨?_, ?_, ?_, ?_, d11⟩
  · unfold hdE
    rw [List.take_left' l1, u1]
    omega
  · unfold hdS
    rw [d2, List.take_left' l2, u2]
    omega
  · unfold hdF
    rw [d6, List.take_left' l3, u3]
    omega
  · unfold hdN
    rw [d10, List.take_left' l4, u4]

def dec2 (x : RcD) : Rc := (decode (encB x)).2
theorem recR_lenc {w : World} {x : RcD} (hx : x.At w) (h : mayB x = true) (rest : List UInt8) : recR (lenc x ++ rest) = some (dec2 x, rest) := by
  have hl := (encB_size hx h).2
  obtain ⟨r, hr, _⟩ := dec_enc hx h
  have hb : (UInt8.ofNat (encB x).length).toNat = (encB x).length := by
    rw [UInt8.toNat_ofNat']
    exact Nat.mod_eq_of_lt (by omega)
  have ht : takeM (lenc x ++ rest) = some (encB x, rest) := by
    show takeM (UInt8.ofNat (encB x).length :: (encB x ++ rest)) = _
    rw [takeM_cons, hb, if_neg (by rw [List.length_append]; omega), List.take_left' rfl, List.drop_left' rfl]
  unfold recR
  rw [ht]
  show (if (decode (encB x)).1 = 0 then some ((decode (encB x)).2, rest) else none) = _
  rw [if_pos (by rw [hr])]
  rfl
theorem recsJ_recs {w : World} {l : List RcD} (hx : ∀ x ∈ l, x.At w) (h : l.all mayB = true) (zs : List UInt8) : ∀ j, j ≤ l.length → recsJ (recsB l ++ zs) j = some ((l.take j).map dec2, recsB (l.drop j) ++ zs)
  | 0, _ => by simp [recsJ]
  | j + 1, hj => by
    have ih := recsJ_recs hx h zs j (by omega)
    have hd : l.drop j = l[j]'(by omega) :: l.drop (j + 1) := List.drop_eq_getElem_cons (by omega)
    have hm : l[j]'(by omega) ∈ l := List.getElem_mem _
    have hr : recR (recsB (l.drop j) ++ zs) = some (dec2 (l[j]'(by omega)), recsB (l.drop (j + 1)) ++ zs) := by
      rw [hd]
      show recR ((lenc _ ++ recsB (l.drop (j + 1))) ++ zs) = _
      rw [List.append_assoc]
      exact recR_lenc (hx _ hm) (List.all_eq_true.1 h _ hm) _
    rw [recsJ_yes ih hr, List.take_succ_eq_append_getElem (by omega), List.map_append]
    rfl

/-- What was packed is unpacked. -/
theorem unpack_pack {w : World} {e s f : Int} {l : List RcD} (hx : ∀ x ∈ l, x.At w) (h : packE e s f l = 0) (z : Nat) (hz : (packB e s f l).length + z ≤ 248) :
    unpackM (packB e s f l ++ List.replicate z 0) = some (l.map dec2) ∧ hdE (packB e s f l ++ List.replicate z 0) = e ∧ hdS (packB e s f l ++ List.replicate z 0) = s ∧ hdF (packB e s f l ++ List.replicate z 0) = f := by
  obtain ⟨h1, h2, h3, h4⟩ := packE_zero h
  have hpl : (packB e s f l).length = 11 + (recsB l).length := by unfold packB; rw [List.length_append, headB_len]
  have hp : packB e s f l ++ List.replicate z 0 = headB e s f l.length ++ (recsB l ++ List.replicate z 0) := by unfold packB; rw [List.append_assoc]
  have hlen : (packB e s f l ++ List.replicate z (0 : UInt8)).length = (packB e s f l).length + z := by rw [List.length_append, List.length_replicate]
  obtain ⟨a1, a2, a3, a4, a5⟩ := hd_bytes h1 (by omega : l.length ≤ 255) (recsB l ++ List.replicate z 0)
  refine ⟨?_, by rw [hp]; exact a1, by rw [hp]; exact a2, by rw [hp]; exact a3⟩
  unfold unpackM
  rw [if_neg (by rw [hlen]; omega), hp, a1, a2, a3, a4, a5, h1, decide_eq_true (by omega : l.length ≤ 60), if_neg (by simp), recsJ_recs hx h2 _ l.length (Nat.le_refl _), List.take_length, List.drop_length]
  show (if (recsB [] ++ List.replicate z 0).all (· == 0) then some (l.map dec2) else none) = _
  rw [if_pos (by simp [recsB])]
end Go.Proofs.Ytpkgeidenkjnfaa
