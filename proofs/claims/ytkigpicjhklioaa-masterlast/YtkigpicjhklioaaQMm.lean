/-
  Mathematics of masters' sectors; a device that is at rest; two masters compared; bobbinlaw09.one and awake.
-/
import Derived.Test.YtkigpicjhklioaaQMr
import Derived.Laws.StructEq
namespace Go.Proofs.Ytkigpicjhklioaa
open Go Go.RowKit

theorem take4 (a b c d z : List UInt8) (ha : a.length = 4) (hb : b.length = 4) (hc : c.length = 4) (hd : d.length = 4) :
    (((a ++ b ++ c ++ d ++ z).drop 0).take 4 = a ∧ ((a ++ b ++ c ++ d ++ z).drop 4).take 4 = b) ∧ (((a ++ b ++ c ++ d ++ z).drop 8).take 4 = c ∧ ((a ++ b ++ c ++ d ++ z).drop 12).take 4 = d) := by
  match a, b, c, d, ha, hb, hc, hd with
  | [a0, a1, a2, a3], [b0, b1, b2, b3], [c0, c1, c2, c3], [d0, d1, d2, d3], _, _, _, _ => exact ⟨⟨rfl, rfl⟩, rfl, rfl⟩

theorem roomOf_sec (m : Ms) : roomOf (secM m) = payl m ++ zeros 232 := by
  have h := sec_mid m.no (payl m) (by rw [payl_len]; omega)
  rw [payl_len] at h
  exact h
/-- A sector tells the master whose it is. -/
theorem msOf_sec (m : Ms) (h : m.May) : msOf (roomOf (secM m)) = m := by
  rw [roomOf_sec]
  have ht := take4 (le 4 m.no.toNat) (le 4 m.ep.toNat) (le 4 m.st.toNat) (le 4 m.ck.toNat) (zeros 232) (le_length 4 _) (le_length 4 _) (le_length 4 _) (le_length 4 _)
  obtain ⟨⟨t0, t1⟩, t2, t3⟩ := ht
  have e0 : numAt (payl m ++ zeros 232) 0 = m.no := by unfold numAt payl; rw [t0]; exact unle_le4 _ (by have := h.n1; omega) h.n2
  have e1 : numAt (payl m ++ zeros 232) 4 = m.ep := by unfold numAt payl; rw [t1]; exact unle_le4 _ (by have := h.e1; omega) (by have := h.e2; omega)
  have e2 : numAt (payl m ++ zeros 232) 8 = m.st := by unfold numAt payl; rw [t2]; exact unle_le4 _ h.s1 (by have := h.s2; omega)
  have e3 : numAt (payl m ++ zeros 232) 12 = m.ck := by unfold numAt payl; rw [t3]; exact unle_le4 _ h.c1 h.c2
  unfold msOf
  rw [e0, e1, e2, e3]
theorem toldB_sec (m : Ms) (h : m.May) (i : Int) : toldB (secM m) i = decide (m.no % 2 = i) := by
  have e1 : (secM m).take 4 = (secM m).drop 252 := by
    unfold secM
    rw [sec_take, sec_drop _ _ (by rw [payl_len]; omega)]
  unfold toldB
  rw [decide_eq_true e1, msOf_sec m h, (mayM_iff m).2 h, eqB_self]
  simp
theorem toldM_sec (m : Ms) (h : m.May) (i : Int) (hi : m.no % 2 = i) : toldM (secM m) i = m := by
  unfold toldM
  rw [toldB_sec m h, decide_eq_true hi, if_pos rfl, msOf_sec m h]
/-- What tells a master is its sector. -/
theorem told_is {xs : List UInt8} {i : Int} (h : toldB xs i = true) : (toldM xs i).May ∧ (toldM xs i).no % 2 = i ∧ xs = secM (toldM xs i) ∧ xs.take 4 = xs.drop 252 := by
  have hm : toldM xs i = msOf (roomOf xs) := by unfold toldM; rw [if_pos h]
  rw [hm]
  unfold toldB at h
  simp only [Bool.and_eq_true, decide_eq_true_eq] at h
  refine ⟨(mayM_iff _).1 h.2.1, h.2.2.1, ?_, h.1⟩
  have := h.2.2.2
  unfold eqB at this
  exact of_decide_eq_true this
theorem told_no {xs : List UInt8} {i : Int} (h : toldB xs i = false) : toldM xs i = ⟨0, 0, 0, 0⟩ := by unfold toldM; rw [h]; rfl
theorem toldB_zero (i : Int) : toldB (fill 0) i = false := by
  cases hb : toldB (fill 0) i with
  | false => rfl
  | true =>
    exfalso
    have ht := told_is hb
    have hm : toldM (fill 0) i = msOf (roomOf (fill 0)) := by unfold toldM; rw [if_pos hb]
    have h1 := ht.1.n1
    rw [hm] at h1
    have h0 : numAt (roomOf (fill 0)) 0 = 0 := by decide +kernel
    have : (msOf (roomOf (fill 0))).no = 0 := h0
    omega

/-- What is read of two sectors, if one tells nothing. -/
theorem lastOf_none (a b : List UInt8) (ha : toldB a 0 = false) (hb : toldB b 1 = false) : lastOf a b 2 = ⟨0, 0, 0, 0⟩ := by
  show upM (upM _ a 0) b 1 = _
  unfold upM
  rw [ha, hb]
  simp
theorem lastOf_left (a b : List UInt8) (ha : toldB a 0 = true) (hb : toldB b 1 = false) : lastOf a b 2 = toldM a 0 := by
  show upM (upM _ a 0) b 1 = _
  have h1 := (told_is ha).1.n1
  have hlt : (⟨0, 0, 0, 0⟩ : Ms).no < (toldM a 0).no := by show (0 : Int) < _; omega
  unfold upM
  rw [ha, hb, if_neg (by simp), if_pos ⟨rfl, hlt⟩]
theorem lastOf_right (a b : List UInt8) (ha : toldB a 0 = false) (hb : toldB b 1 = true) : lastOf a b 2 = toldM b 1 := by
  show upM (upM _ a 0) b 1 = _
  have h1 := (told_is hb).1.n1
  have hlt : (⟨0, 0, 0, 0⟩ : Ms).no < (toldM b 1).no := by show (0 : Int) < _; omega
  have e : upM ⟨0, 0, 0, 0⟩ a 0 = ⟨0, 0, 0, 0⟩ := by unfold upM; rw [ha, if_neg (by simp)]
  rw [e]
  unfold upM
  rw [hb, if_pos ⟨rfl, hlt⟩]
theorem lastOf_both (a b : List UInt8) (ha : toldB a 0 = true) (hb : toldB b 1 = true) : lastOf a b 2 = if (toldM a 0).no < (toldM b 1).no then toldM b 1 else toldM a 0 := by
  show upM (upM _ a 0) b 1 = _
  have h1 := (told_is ha).1.n1
  have hlt : (⟨0, 0, 0, 0⟩ : Ms).no < (toldM a 0).no := by show (0 : Int) < _; omega
  have e : upM ⟨0, 0, 0, 0⟩ a 0 = toldM a 0 := by unfold upM; rw [ha, if_pos ⟨rfl, hlt⟩]
  rw [e]
  unfold upM
  rw [hb]
  simp

/-! ### A device at rest -/
section
variable {D : List (List UInt8)} {m : Ms}
theorem fresh_reach (h : 2 ≤ D.length) (i : Int) (h0 : 0 ≤ i) (h2 : i < 2) : (Dk.fresh D).reach i = 0 := by
  unfold Dk.reach Dk.fresh
  rw [if_neg (by simp), if_pos ⟨h0, by show i < (D.length : Int); omega⟩]
theorem mod2 (n : Int) : 0 ≤ n % 2 ∧ n % 2 < 2 := ⟨Int.emod_nonneg _ (by omega), Int.emod_lt_of_pos _ (by omega)⟩
theorem fresh_wr (h : 2 ≤ D.length) (hm : m.May) : wrE (Dk.fresh D) m = 0 ∧ wrD (Dk.fresh D) m = Dk.fresh (D.set (m.no % 2).toNat (secM m)) := by
  have hr := fresh_reach (D := D) h (m.no % 2) (mod2 _).1 (mod2 _).2
  have hy : mayM m = true ∧ 2 ≤ (Dk.fresh D).dur.length := ⟨(mayM_iff m).2 hm, h⟩
  have hs : (Dk.fresh D).stepE = 0 := rfl
  have hw : (Dk.fresh D).writeE (m.no % 2) 256 = 0 := by unfold Dk.writeE; rw [if_pos hr, if_pos rfl, hs]
  have hwd : (Dk.fresh D).write (m.no % 2) (secM m) = ⟨D, [((m.no % 2).toNat, secM m)], false, 0, false⟩ := by
    unfold Dk.write
    rw [if_pos ⟨hr, secM_len m⟩, if_pos hs]
    rfl
  unfold wrE wrD
  rw [if_pos hy, if_pos hy, if_pos hw, if_pos hw, hwd]
  exact ⟨rfl, rfl⟩
theorem fresh_read (h : 2 ≤ D.length) (i : Int) (h0 : 0 ≤ i) (h2 : i < 2) : (Dk.fresh D).read i = D.getD i.toNat [] := by
  unfold Dk.read
  rw [if_pos (fresh_reach h i h0 h2)]
  rfl
end

/-! ### Two masters compared -/
def eqMs (m k : Ms) : Bool := decide (m.no = k.no) && (decide (m.ep = k.ep) && (decide (m.st = k.st) && decide (m.ck = k.ck)))
theorem eqMs_yes (m : Ms) : eqMs m m = true := by simp [eqMs]
theorem eqMs_no {m k : Ms} (h : m ≠ k) : eqMs m k = false := by
  cases he : eqMs m k with
  | false => rfl
  | true =>
    exfalso
    apply h
    simp only [eqMs, Bool.and_eq_true, decide_eq_true_eq] at he
    obtain ⟨h0, h1, h2, h3⟩ := he
    cases m; cases k
    simp only at h0 h1 h2 h3
    subst h0; subst h1; subst h2; subst h3
    rfl
set_option maxRecDepth 100000 in
theorem eq_ms (m k : Ms) (w : World) :
    (Op.equalIn 10000 23 (.agg #[.int .i64 m.no, .int .i64 m.ep, .int .i64 m.st, .int .i64 m.ck]) (.agg #[.int .i64 k.no, .int .i64 k.ep, .int .i64 k.st, .int .i64 k.ck])).run Try.prog w = .ok (eqMs m k) w := by
  have q : ∀ (a b : Int) (w : World), (Op.equalIn 9999 3 (.int .i64 a) (.int .i64 b)).run Try.prog w = .ok (a == b) w := fun a b w => run_equalIn_int w 9998 _ _ _ _ _ Try.underlying3
  have e := run_equalIn_struct (P := Try.prog) w 9999 23 #[.int .i64 m.no, .int .i64 m.ep, .int .i64 m.st, .int .i64 m.ck] #[.int .i64 k.no, .int .i64 k.ep, .int .i64 k.st, .int .i64 k.ck] (by kernel_rfl) (by kernel_rfl)
  refine e.trans ?_
  clear e
  simp only [Program.fieldsOf, Try.underlying23]
  simp [go_sem]
  unfold eqMs
  by_cases h0 : m.no = k.no
  · by_cases h1 : m.ep = k.ep
    · by_cases h2 : m.st = k.st
      · by_cases h3 : m.ck = k.ck
        · rw [if_pos h0, if_pos h1, if_pos h2, if_pos h3, decide_eq_true h0, decide_eq_true h1, decide_eq_true h2, decide_eq_true h3]; rfl
        · rw [if_pos h0, if_pos h1, if_pos h2, if_neg h3, decide_eq_true h0, decide_eq_true h1, decide_eq_true h2, decide_eq_false h3]; rfl
      · rw [if_pos h0, if_pos h1, if_neg h2, decide_eq_true h0, decide_eq_true h1, decide_eq_false h2]; rfl
    · rw [if_pos h0, if_neg h1, decide_eq_true h0, decide_eq_false h1]; rfl
  · rw [if_neg h0, decide_eq_false h0]; rfl

set_option maxRecDepth 100000 in
theorem one_ok (w : World) (n : Int) :
    Calls Try.prog 23 #[.int .i64 n] w fun e w' => e = .returned (.agg #[.int .i64 n, .int .i64 1, .int .i64 2, .int .i64 3]) ∧ Mod (fun _ => False) w w' := by
  go_enter Try.func23, Try.ntmps23
  go_wp2
  refine bodyPost_ret (v := .agg #[.int .i64 n, .int .i64 1, .int .i64 2, .int .i64 3]) (by simp [results, Try.results23, go_sem]) rfl ?_
  exact ⟨rfl, (Mod.refl _ w).alloc _⟩
end Go.Proofs.Ytkigpicjhklioaa
