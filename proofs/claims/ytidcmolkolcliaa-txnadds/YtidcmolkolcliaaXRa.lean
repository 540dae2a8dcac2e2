/-
  The reference: what its calls answer.
-/
import Derived.Test.YtidcmolkolcliaaX10
namespace Go.Proofs.Ytidcmolkolcliaa
open Go Go.RowKit

def RnAns (b0 : Nat) (w w' : World) (E : Int) (T : Tp) (e : Ending) : Prop :=
  ∃ y : TxD, e = .returned (.tuple #[.agg #[.int .i64 y.id, .int .i64 y.st, .int .i64 y.f, .int .i64 y.l, .slice y.A y.n y.c, .slice y.B y.m y.d], .int .i64 E]) ∧ Kp b0 w' y ∧ y.p = (if E = 0 then T else noT) ∧ Mod (fun _ => False) w w'
def RuAns (b0 : Nat) (w w' : World) (E : Int) (T : Tp) (C : Cp) (e : Ending) : Prop :=
  ∃ (y : TxD) (c : ChD), e = .returned (.tuple #[.agg #[.int .i64 y.id, .int .i64 y.st, .int .i64 y.f, .int .i64 y.l, .slice y.A y.n y.c, .slice y.B y.m y.d], .agg #[.int .i64 c.lsn, .int .i64 c.page, .int .i64 c.key, .bool c.o.is, .slice c.o.B c.o.m c.o.d, .bool c.v.is, .slice c.v.B c.v.m c.v.d], .int .i64 E]) ∧ Kp b0 w' y ∧ c.At w' ∧ y.p = (if E = 0 then T else noT) ∧ c.p = (if E = 0 then C else noC) ∧ Mod (fun _ => False) w w'
def RsAns (b0 : Nat) (w w' : World) (E : Int) (k : Int) (T : Tp) (e : Ending) : Prop :=
  ∃ y : TxD, e = .returned (.tuple #[.agg #[.int .i64 y.id, .int .i64 y.st, .int .i64 y.f, .int .i64 y.l, .slice y.A y.n y.c, .slice y.B y.m y.d], .int .i64 (if E = 0 then k else 0), .int .i64 E]) ∧ Kp b0 w' y ∧ y.p = (if E = 0 then T else noT) ∧ Mod (fun _ => False) w w'
theorem NwAns.rn {b0 : Nat} {w w' : World} {E : Int} {T : Tp} {e : Ending} (h : NwAns w w' E T e) : RnAns b0 w w' E T e := by
  obtain ⟨y, h1, h2, h3, h4⟩ := h
  exact ⟨y, h1, h2.kp, h3, h4⟩
theorem UnAns.ru {b0 : Nat} {w w' : World} {E : Int} {T : Tp} {C : Cp} {e : Ending} (h : UnAns w w' E T C e) : RuAns b0 w w' E T C e := by
  obtain ⟨y, c, h1, h2, h3, h4, h5, h6⟩ := h
  exact ⟨y, c, h1, h2 b0, h3, h4, h5, h6⟩
theorem SvAns.rs {b0 : Nat} {w w' : World} {E k : Int} {T : Tp} {e : Ending} (h : SvAns w w' E k T e) : RsAns b0 w w' E k T e := by
  obtain ⟨y, h1, h2, h3, h4⟩ := h
  exact ⟨y, h1, h2.kp, h3, h4⟩
theorem TxD.zero_kp (b0 : Nat) (w : World) : Kp b0 w TxD.zero := (TxD.zero_own w 0).kp
/-- Its changes are told anew. -/
theorem Kp.withL {b0 : Nat} {w : World} {x : TxD} (h : Kp b0 w x) {A : Option Addr} {n c : Nat} {L : List ChD} (hL : Cs w A n c L) (f l : Int) : Kp b0 w ⟨x.id, x.st, f, l, A, n, c, L, x.B, x.m, x.d, x.S⟩ :=
  ⟨⟨hL, h.at_.S⟩, h.s⟩
theorem Kp.withS {b0 : Nat} {w : World} {x : TxD} (h : x.At w) {base : Nat} {A : Option Addr} {n c : Nat} {S : List Int} (hS : OwI w base A n c S) : Kp b0 w ⟨x.id, x.st, x.f, x.l, x.A, x.n, x.c, x.L, A, n, c, S⟩ := by
  refine ⟨⟨h.L, OwI.il hS⟩, fun k hk _ => .inr ?_⟩
  obtain ⟨_, cur, hc, _⟩ := OwV.block hS hk
  exact ⟨_, _, hc⟩
/-! ### With the error known -/
theorem RnAns.at (c : Int) {b0 : Nat} {w w' : World} {E : Int} {T : Tp} {e : Ending} (h : RnAns b0 w w' E T e) (hE : E = c) :
    ∃ y : TxD, e = .returned (.tuple #[.agg #[.int .i64 y.id, .int .i64 y.st, .int .i64 y.f, .int .i64 y.l, .slice y.A y.n y.c, .slice y.B y.m y.d], .int .i64 c]) ∧ Kp b0 w' y ∧ y.p = (if c = 0 then T else noT) ∧ Mod (fun _ => False) w w' := by
  subst hE; exact h
theorem RuAns.at (c : Int) {b0 : Nat} {w w' : World} {E : Int} {T : Tp} {C : Cp} {e : Ending} (h : RuAns b0 w w' E T C e) (hE : E = c) :
    ∃ (y : TxD) (d : ChD), e = .returned (.tuple #[.agg #[.int .i64 y.id, .int .i64 y.st, .int .i64 y.f, .int .i64 y.l, .slice y.A y.n y.c, .slice y.B y.m y.d], .agg #[.int .i64 d.lsn, .int .i64 d.page, .int .i64 d.key, .bool d.o.is, .slice d.o.B d.o.m d.o.d, .bool d.v.is, .slice d.v.B d.v.m d.v.d], .int .i64 c]) ∧ Kp b0 w' y ∧ d.At w' ∧ y.p = (if c = 0 then T else noT) ∧ d.p = (if c = 0 then C else noC) ∧ Mod (fun _ => False) w w' := by
  subst hE; exact h
theorem RsAns.at (c i : Int) {b0 : Nat} {w w' : World} {E k : Int} {T : Tp} {e : Ending} (h : RsAns b0 w w' E k T e) (hE : E = c) (hk : (if c = 0 then k else 0) = i) :
    ∃ y : TxD, e = .returned (.tuple #[.agg #[.int .i64 y.id, .int .i64 y.st, .int .i64 y.f, .int .i64 y.l, .slice y.A y.n y.c, .slice y.B y.m y.d], .int .i64 i, .int .i64 c]) ∧ Kp b0 w' y ∧ y.p = (if c = 0 then T else noT) ∧ Mod (fun _ => False) w w' := by
  subst hE; subst hk; exact h
theorem AbAns.at (c i : Int) {w w' : World} {E I : Int} {e : Ending} (h : AbAns w w' E I e) (hE : E = c) (hI : (if c = 0 then I else 0) = i) :
    e = .returned (.tuple #[.int .i64 i, .int .i64 c]) ∧ Mod (fun _ => False) w w' := by
  subst hE; subst hI; exact h
theorem Xs.one {w : World} {x : TxD} {g : Nat} (h : x.In w g) (ha : x.At w) : Xs w (some ⟨g, 0, none⟩) 1 1 [x] := by
  refine ⟨rfl, Nat.le_refl _, fun _ => ⟨g, 0, rfl, fun i y hy => ?_⟩, fun y hy => by simp at hy; rw [hy]; exact ha⟩
  have hi : i = 0 := by have := (List.getElem?_eq_some_iff.1 hy).1; simp at this; omega
  subst hi
  have e : x = y := by simpa using hy
  subst e
  exact .of fun j u hu => by rw [Nat.zero_mul, Nat.zero_add, h.cell]; exact hu
end Go.Proofs.Ytidcmolkolcliaa
