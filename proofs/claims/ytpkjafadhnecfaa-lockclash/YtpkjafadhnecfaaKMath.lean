/-
  Mathematics of locks: the four modes of a number, who clashes, what is held.
-/
import Derived.Test.YtpkjafadhnecfaaTMath
import Derived.Laws.BitsAllLaws
namespace Go.Proofs.Ytpkjafadhnecfaa
open Go

/-! ### The four modes of a number -/
def m4 (a : Int) : Nat := (a % 16).toNat
theorem m4_lt (a : Int) : m4 a < 16 := by unfold m4; omega
theorem m4_nat (n : Nat) (h : n < 16) : m4 (n : Int) = n := by unfold m4; omega
def ex4 (a b : Nat) : Bool := (a.testBit 1 && (b.testBit 0 || b.testBit 1)) || (a.testBit 2 && b.testBit 3)
def cl4 (a b : Nat) : Bool := ex4 a b || ex4 b a
def exB (a b : Int) : Bool := ex4 (m4 a) (m4 b)
def clB (a b : Int) : Bool := cl4 (m4 a) (m4 b)
theorem clB_comm (a b : Int) : clB a b = clB b a := Bool.or_comm _ _

theorem and15 (c : Nat) (h : c < 16) : 15 &&& c = c := by
  have := (by decide +kernel : ∀ c : Fin 16, 15 &&& c.val = c.val) ⟨c, h⟩
  exact this
theorem i64_and_nat (a : Int) (c : Nat) (hc : c < 16) : bits .and .i64 a (c : Int) = ((m4 a &&& c : Nat) : Int) := by
  have hc2 : (BitVec.ofInt 64 (c : Int)).toNat = c := by
    rw [BitVec.ofInt_natCast, BitVec.toNat_ofNat]; exact Nat.mod_eq_of_lt (by omega)
  have key : (BitVec.ofInt 64 a &&& BitVec.ofInt 64 (c : Int)).toNat = m4 a &&& c := by
    rw [BitVec.toNat_and, BitVec.toNat_ofInt, hc2]
    conv => lhs; rw [← and15 c hc, ← Nat.and_assoc]
    have e : (a % ((2 ^ 64 : Nat) : Int)).toNat &&& 15 = (a % ((2 ^ 64 : Nat) : Int)).toNat % 2 ^ 4 := Nat.and_two_pow_sub_one_eq_mod _ 4
    rw [e]
    have e2 : (a % ((2 ^ 64 : Nat) : Int)).toNat % 2 ^ 4 = m4 a := by unfold m4; omega
    rw [e2]
  show IntKind.i64.wrap ((BitVec.ofInt 64 a &&& BitVec.ofInt 64 (c : Int)).toNat : Nat) = _
  rw [key, IntKind.wrap_i64]
  have : m4 a &&& c ≤ c := Nat.and_le_right
  omega
theorem m4_or (a b : Int) : m4 (bits .or .i64 a b) = m4 a ||| m4 b := by
  have h : bits .or .i64 a b = IntKind.i64.wrap (((a % ((2 ^ 64 : Nat) : Int)).toNat ||| (b % ((2 ^ 64 : Nat) : Int)).toNat : Nat) : Int) := by
    show IntKind.i64.wrap ((BitVec.ofInt 64 a ||| BitVec.ofInt 64 b).toNat : Nat) = _
    rw [BitVec.toNat_or, BitVec.toNat_ofInt, BitVec.toNat_ofInt]
  rw [h, IntKind.wrap_i64]
  have e : ∀ N : Nat, m4 (((N : Int) + 9223372036854775808) % 18446744073709551616 - 9223372036854775808) = N % 2 ^ 4 := by intro N; unfold m4; omega
  rw [e, Nat.or_mod_two_pow]
  have ea : (a % ((2 ^ 64 : Nat) : Int)).toNat % 2 ^ 4 = m4 a := by unfold m4; omega
  have eb : (b % ((2 ^ 64 : Nat) : Int)).toNat % 2 ^ 4 = m4 b := by unfold m4; omega
  rw [ea, eb]
theorem i64_or_nat (a b : Nat) (ha : a < 16) (hb : b < 16) : bits .or .i64 (a : Int) (b : Int) = ((a ||| b : Nat) : Int) := by
  have hx : a ||| b < 2 ^ 4 := Nat.or_lt_two_pow (by omega) (by omega)
  have h1 : ∀ n : Nat, n < 16 → (BitVec.ofInt 64 (n : Int)).toNat = n := fun n hn => by
    rw [BitVec.ofInt_natCast, BitVec.toNat_ofNat]; exact Nat.mod_eq_of_lt (by omega)
  show IntKind.i64.wrap ((BitVec.ofInt 64 (a : Int) ||| BitVec.ofInt 64 (b : Int)).toNat : Nat) = _
  rw [BitVec.toNat_or, h1 a ha, h1 b hb, IntKind.wrap_i64]
  omega
theorem or_lt16 {a b : Nat} (ha : a < 16) (hb : b < 16) : a ||| b < 16 := Nat.or_lt_two_pow (n := 4) ha hb

/-! The tests of the program's text. -/
theorem tst1 (a : Int) : (bits .and .i64 a 1 != 0) = (m4 a).testBit 0 := by
  rw [show (1 : Int) = ((1 : Nat) : Int) from rfl, i64_and_nat a 1 (by decide)]
  exact (by decide +kernel : ∀ m : Fin 16, ((((m.val &&& 1 : Nat) : Int)) != 0) = m.val.testBit 0) ⟨m4 a, m4_lt a⟩
theorem tst2 (a : Int) : (bits .and .i64 a 2 != 0) = (m4 a).testBit 1 := by
  rw [show (2 : Int) = ((2 : Nat) : Int) from rfl, i64_and_nat a 2 (by decide)]
  exact (by decide +kernel : ∀ m : Fin 16, ((((m.val &&& 2 : Nat) : Int)) != 0) = m.val.testBit 1) ⟨m4 a, m4_lt a⟩
theorem tst3 (a : Int) : (bits .and .i64 a 3 != 0) = ((m4 a).testBit 0 || (m4 a).testBit 1) := by
  rw [show (3 : Int) = ((3 : Nat) : Int) from rfl, i64_and_nat a 3 (by decide)]
  exact (by decide +kernel : ∀ m : Fin 16, ((((m.val &&& 3 : Nat) : Int)) != 0) = (m.val.testBit 0 || m.val.testBit 1)) ⟨m4 a, m4_lt a⟩
theorem tst4 (a : Int) : (bits .and .i64 a 4 != 0) = (m4 a).testBit 2 := by
  rw [show (4 : Int) = ((4 : Nat) : Int) from rfl, i64_and_nat a 4 (by decide)]
  exact (by decide +kernel : ∀ m : Fin 16, ((((m.val &&& 4 : Nat) : Int)) != 0) = m.val.testBit 2) ⟨m4 a, m4_lt a⟩
theorem tst8 (a : Int) : (bits .and .i64 a 8 != 0) = (m4 a).testBit 3 := by
  rw [show (8 : Int) = ((8 : Nat) : Int) from rfl, i64_and_nat a 8 (by decide)]
  exact (by decide +kernel : ∀ m : Fin 16, ((((m.val &&& 8 : Nat) : Int)) != 0) = m.val.testBit 3) ⟨m4 a, m4_lt a⟩
theorem and_15 (a : Int) : bits .and .i64 a 15 = ((m4 a : Nat) : Int) := by
  rw [show (15 : Int) = ((15 : Nat) : Int) from rfl, i64_and_nat a 15 (by decide)]
  have := (by decide +kernel : ∀ m : Fin 16, (m.val &&& 15) = m.val) ⟨m4 a, m4_lt a⟩
  rw [show m4 a &&& 15 = m4 a from this]

/-! Clashes of sums. -/
theorem tb_or (a b i : Nat) : (a ||| b).testBit i = (a.testBit i || b.testBit i) := Nat.testBit_or a b i
theorem cl4_or (a b c : Nat) : cl4 (a ||| b) c = (cl4 a c || cl4 b c) := by
  unfold cl4 ex4
  simp only [tb_or]
  generalize a.testBit 0 = a0; generalize a.testBit 1 = a1; generalize a.testBit 2 = a2; generalize a.testBit 3 = a3
  generalize b.testBit 0 = b0; generalize b.testBit 1 = b1; generalize b.testBit 2 = b2; generalize b.testBit 3 = b3
  generalize c.testBit 0 = c0; generalize c.testBit 1 = c1; generalize c.testBit 2 = c2; generalize c.testBit 3 = c3
  cases c0 <;> cases c1 <;> cases c2 <;> cases c3 <;> simp <;> (cases a0 <;> cases a1 <;> cases a2 <;> cases a3 <;> simp) <;> (cases b0 <;> cases b1 <;> simp)
theorem cl4_zero (c : Nat) : cl4 0 c = false := by unfold cl4 ex4; simp
theorem cl4_zero' (c : Nat) : cl4 c 0 = false := by unfold cl4 ex4; simp
theorem cl4_comm (a b : Nat) : cl4 a b = cl4 b a := Bool.or_comm _ _
theorem cl4_pos {a b : Nat} (h : cl4 a b = true) : a ≠ 0 := by rintro rfl; rw [cl4_zero] at h; cases h

/-! ### What is held -/
/-- The modes of some locks together. -/
def orm : List Tr → Nat
  | [] => 0
  | h :: l => m4 h.c ||| orm l
theorem orm_lt : ∀ l, orm l < 16
  | [] => by decide
  | h :: l => or_lt16 (m4_lt _) (orm_lt l)
theorem orm_append : ∀ a b, orm (a ++ b) = orm a ||| orm b
  | [], b => by simp [orm]
  | h :: a, b => by rw [List.cons_append, orm, orm, orm_append a b, Nat.or_assoc]
theorem orm_one (h : Tr) : orm [h] = m4 h.c := by simp [orm]
theorem orm_bit (i : Nat) : ∀ l, (orm l).testBit i = l.any (fun h => (m4 h.c).testBit i)
  | [] => by simp [orm]
  | h :: l => by rw [orm, tb_or, orm_bit i l, List.any_cons]
theorem orm_ext {a b : List Tr} (h : ∀ x, x ∈ a ↔ x ∈ b) : orm a = orm b := by
  apply Nat.eq_of_testBit_eq
  intro i
  rw [orm_bit, orm_bit, Bool.eq_iff_iff, List.any_eq_true, List.any_eq_true]
  exact ⟨fun ⟨x, hx, e⟩ => ⟨x, (h x).1 hx, e⟩, fun ⟨x, hx, e⟩ => ⟨x, (h x).2 hx, e⟩⟩
theorem cl4_orm (c : Nat) : ∀ l, cl4 (orm l) c = l.any (fun h => cl4 (m4 h.c) c)
  | [] => cl4_zero c
  | h :: l => by rw [orm, cl4_or, cl4_orm c l, List.any_cons]
def owF (tx res : Int) (h : Tr) : Bool := decide (h.a = tx) && decide (h.b = res)
def blF (tx res mode : Int) (h : Tr) : Bool := !decide (h.a = tx) && (decide (h.b = res) && clB h.c mode)
def drF (tx : Int) (h : Tr) : Bool := !decide (h.a = tx)
theorem owF_iff {tx res : Int} {h : Tr} : owF tx res h = true ↔ h.a = tx ∧ h.b = res := by simp [owF]
theorem blF_iff {tx res mode : Int} {h : Tr} : blF tx res mode h = true ↔ h.a ≠ tx ∧ h.b = res ∧ clB h.c mode = true := by simp [blF]
theorem drF_iff {tx : Int} {h : Tr} : drF tx h = true ↔ h.a ≠ tx := by simp [drF]
/-- The modes that tx holds on res. -/
def hld (l : List Tr) (tx res : Int) : Nat := orm (l.filter (owF tx res))
theorem hld_lt (l : List Tr) (tx res : Int) : hld l tx res < 16 := orm_lt _
/-- A number below 16 by its four bits. -/
theorem by_bits (n : Nat) (h : n < 16) : n = (if n.testBit 0 then 1 else 0) + (if n.testBit 1 then 2 else 0) + (if n.testBit 2 then 4 else 0) + (if n.testBit 3 then 8 else 0) :=
  (by decide +kernel : ∀ m : Fin 16, m.val = (if m.val.testBit 0 then 1 else 0) + (if m.val.testBit 1 then 2 else 0) + (if m.val.testBit 2 then 4 else 0) + (if m.val.testBit 3 then 8 else 0)) ⟨n, h⟩

/-! ### What is granted -/
def gr (own : Tr → Bool) (g : Tr) : List Tr → List Tr
  | [] => [g]
  | x :: l => if own x then g :: l.filter (fun y => !own y) else x :: gr own g l
theorem gr_none {own : Tr → Bool} {g : Tr} : ∀ {l : List Tr}, l.any own = false → gr own g l = l ++ [g]
  | [], _ => rfl
  | x :: l, h => by
    rw [List.any_cons, Bool.or_eq_false_iff] at h
    rw [gr, h.1, gr_none h.2]
    rfl
theorem gr_append {own : Tr → Bool} {g : Tr} : ∀ {l : List Tr} (m : List Tr), l.any own = true → gr own g (l ++ m) = gr own g l ++ m.filter (fun y => !own y)
  | [], _, h => by simp at h
  | x :: l, m, h => by
    rw [List.cons_append, gr, gr]
    cases hx : own x with
    | true => simp
    | false =>
      rw [List.any_cons, hx, Bool.false_or] at h
      simp [gr_append m h]
theorem filter_none {own : Tr → Bool} {l : List Tr} (h : l.any own = false) : l.filter (fun y => !own y) = l := by
  rw [List.filter_eq_self]
  intro a ha
  cases hx : own a with
  | false => rfl
  | true => have : l.any own = true := List.any_eq_true.2 ⟨a, ha, hx⟩
            rw [h] at this; cases this
theorem gr_insert {own : Tr → Bool} {g : Tr} : ∀ l : List Tr, (l.filter (fun y => !own y)).take (l.findIdx own) ++ g :: (l.filter (fun y => !own y)).drop (l.findIdx own) = gr own g l
  | [] => rfl
  | x :: l => by
    rw [List.findIdx_cons, gr]
    cases hx : own x with
    | true => simp [hx]
    | false => simp [hx, gr_insert l]
theorem gr_len (own : Tr → Bool) (g : Tr) (l : List Tr) : (gr own g l).length ≤ l.length + 1 := by
  rw [← gr_insert]
  have := List.length_filter_le (fun y => !own y) l
  simp only [List.length_append, List.length_cons, List.length_take, List.length_drop]
  omega
theorem mem_gr {own : Tr → Bool} {g : Tr} {l : List Tr} {x : Tr} : x ∈ gr own g l ↔ x = g ∨ (x ∈ l ∧ own x = false) := by
  rw [← gr_insert, List.mem_append, List.mem_cons]
  have h : x ∈ (l.filter fun y => !own y) ↔ x ∈ l ∧ own x = false := by simp
  rw [← h]
  conv => rhs; rw [← List.take_append_drop (l.findIdx own) (l.filter fun y => !own y), List.mem_append]
  constructor
  · rintro (h | h | h)
    · exact .inr (.inl h)
    · exact .inl h
    · exact .inr (.inr h)
  · rintro (h | h | h)
    · exact .inr (.inl h)
    · exact .inl h
    · exact .inr (.inr h)
end Go.Proofs.Ytpkjafadhnecfaa
