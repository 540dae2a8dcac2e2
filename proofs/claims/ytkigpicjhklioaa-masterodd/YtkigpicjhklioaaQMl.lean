/-
  Masters on a device at rest: every call in one form. bobbinlaw09.awake.
-/
import Derived.Test.YtkigpicjhklioaaQMm
namespace Go.Proofs.Ytkigpicjhklioaa
open Go Go.RowKit

theorem OwN.type_ {w : World} {base : Nat} {e : TypeId} {size : Nat} {A : Option Addr} {n c : Nat} {vs : List Value} (h : OwN w base e size A n c vs) {k : Nat} (hk : blkOf A = some k) : ∃ cs, w.heap[k]? = some (.cells cs e (0, 0)) := by
  rcases h.2 with ⟨hv, _⟩ | ⟨g, cap, cur, hv, _, hh, _⟩
  · injection hv with hA; subst hA; simp [blkOf] at hk
  · injection hv with hA
    subst hA
    simp [blkOf] at hk
    subst hk
    exact ⟨cur, hh⟩
/-- A block of another type is none of a device's own. -/
theorem Dev.notM {w0 w : World} {x : DV} {d : Dk} (h : Dev w0 w x d) {k : Nat} {cs : Array Value} {t : TypeId} {fr : Nat × Nat} (hk : w.heap[k]? = some (.cells cs t fr))
    (h1 : t ≠ 61) (h2 : t ≠ 52) (h3 : t ≠ 67) : ¬ x.M k := by
  have key : ∀ {cs' : Array Value} {t' : TypeId} {fr' : Nat × Nat}, w.heap[k]? = some (.cells cs' t' fr') → t = t' := by
    intro cs' t' fr' e
    rw [hk] at e
    injection e with e
    injection e with _ e
  rintro (e | e | e | e)
  · exact h1 (key (e ▸ h.at_.obj))
  · obtain ⟨_, cur, hg, _⟩ := h.at_.dur.block rfl
    exact h2 (key (e ▸ hg))
  · obtain ⟨_, cur, hg, _⟩ := h.at_.now.block rfl
    exact h2 (key (e ▸ hg))
  · obtain ⟨cs, hg⟩ := h.at_.pend.type_ e
    exact h3 (key hg)

/-- A master in a box of the law's own. -/
def InB (W : World) (b : Nat) (m : Ms) : Prop := W.heap[b]? = some (.cells #[.int .i64 m.no, .int .i64 m.ep, .int .i64 m.st, .int .i64 m.ck] 23 (0, 0))
section
variable {w0 w w' : World} {x : DV} {d : Dk} {b : Nat} {m : Ms}
theorem InB.bm (h : InB w b m) : Bm w b m := Bm.of h
theorem InB.lt (h : InB w b m) : b < w.heap.size := (Array.getElem?_eq_some_iff.1 h).1
theorem InB.keep (h : InB w b m) (hm : Mod (fun _ => False) w w') : InB w' b m := (hm.block b h.lt id).trans h
theorem InB.dev (h : InB w b m) (hd : Dev w0 w x d) (hm : Mod x.M w w') : InB w' b m := (hm.block b h.lt (hd.notM h (by decide) (by decide) (by decide))).trans h
theorem InB.new (w : World) (m : Ms) : InB (w.alloc (.cells #[.int .i64 m.no, .int .i64 m.ep, .int .i64 m.st, .int .i64 m.ck] 23)) w.heap.size m := heap_alloc_new w _
theorem InB.frozen (h : InB w b m) (j : Nat) : w.frozen? ⟨b, j, none⟩ = false := frozen_of_block h j
end

/-- A box of four cells is no sector. -/
theorem Sct.At.small4 {w : World} {M : Nat → Prop} {s : Sct} {t : TypeId} {B : Nat} {cs : Array Value} (h : s.At w M) (hB : w.heap[B]? = some (.cells cs t (0, 0))) (hc : cs.size = 4) : blkOf s.A ≠ some B := by
  intro e
  obtain ⟨b, o, hA, hcell⟩ := h.1.2.2 (by omega)
  rw [hA] at e
  injection e with e
  have := hcell 255 (by omega)
  rw [show b = B from e, cell_of_row _ _ _ _ _ _ hB, Array.getElem?_eq_none (by omega)] at this
  cases this
/-- A store into such a box leaves the device. -/
theorem Dev.storeM {w0 w w' : World} {x : DV} {d : Dk} {b : Nat} {m : Ms} (h : Dev w0 w x d) (hB : InB w b m) (hw : w0.heap.size ≤ b) (hm : Mod (fun k => k = b) w w') : Dev w0 w' x d :=
  ⟨h.at_.mod hm (fun k e => by rw [e]; exact h.notM hB (by decide) (by decide) (by decide)) (fun s hs => ⟨hs.1.mod hm (fun k hk _ e => hs.small4 hB rfl (by rw [hk, e])), hs.2⟩), h.dk, h.old.trans hm (fun k hk e => by omega)⟩
theorem InB.set {W : World} {b : Nat} {m : Ms} (h : InB W b m) (k : Ms) :
    InB ((((W.setCell ⟨b, 0, none⟩ (.int .i64 k.no)).setCell ⟨b, 1, none⟩ (.int .i64 k.ep)).setCell ⟨b, 2, none⟩ (.int .i64 k.st)).setCell ⟨b, 3, none⟩ (.int .i64 k.ck)) b k ∧
    Mod (fun i => i = b) W ((((W.setCell ⟨b, 0, none⟩ (.int .i64 k.no)).setCell ⟨b, 1, none⟩ (.int .i64 k.ep)).setCell ⟨b, 2, none⟩ (.int .i64 k.st)).setCell ⟨b, 3, none⟩ (.int .i64 k.ck)) := by
  refine ⟨?_, ((((Mod.refl (fun i => i = b) W).one 0 _).one 1 _).one 2 _).one 3 _⟩
  have e1 := heap_set h (i := 0) (u := .int .i64 k.no)
  have e2 := heap_set e1 (i := 1) (u := .int .i64 k.ep)
  have e3 := heap_set e2 (i := 2) (u := .int .i64 k.st)
  have e4 := heap_set e3 (i := 3) (u := .int .i64 k.ck)
  unfold InB
  rw [e4]
  rfl

/-- What is read of two sectors. -/
def rdM (D : List (List UInt8)) : Ms := lastOf (D.getD 0 []) (D.getD 1 []) 2
def rdE (D : List (List UInt8)) : Int := if (rdM D).no = 0 then 3 else 0

section
variable (w0 w : World) (x : DV) (D : List (List UInt8))
theorem lm_new (h : Mod (fun _ => False) w0 w) (n : Int) (h1 : 1 ≤ n) (hn : n ≤ 4096) :
    Calls Try.prog 10 #[.int .i64 n] w fun e w' => ∃ x, e = .returned (.tuple #[.pointer (some ⟨x.p, 0, none⟩), .int .i64 0]) ∧ Dev w0 w' x (Dk.fresh (List.replicate n.toNat (fill 0))) ∧ Mod (fun _ => False) w w' := by
  refine (new_ok w n h1 hn).mono ?_
  rintro e w' ⟨x, rfl, hM⟩
  exact ⟨x, rfl, Dev.made h hM, hM.2.2.2⟩
theorem lm_write (h : Dev w0 w x (Dk.fresh D)) (h2 : 2 ≤ D.length) (m : Ms) (hm : m.May) :
    Calls Try.prog 11 #[.pointer (some ⟨x.p, 0, none⟩), .agg #[.int .i64 m.no, .int .i64 m.ep, .int .i64 m.st, .int .i64 m.ck]] w fun e w' => e = .returned (.int .i64 0) ∧ ∃ x', x'.p = x.p ∧ Dev w0 w' x' (Dk.fresh (D.set (m.no % 2).toNat (secM m))) ∧ Mod x.M w w' := by
  have hc := mwrite_ok w0 w x _ h (Nat.zero_le _) m
  rw [(fresh_wr h2 hm).1, (fresh_wr h2 hm).2] at hc
  exact hc
theorem lm_read (h : Dev w0 w x (Dk.fresh D)) (h2 : 2 ≤ D.length) :
    Calls Try.prog 20 #[.pointer (some ⟨x.p, 0, none⟩)] w fun e w' => e = .returned (.tuple #[.agg #[.int .i64 (rdM D).no, .int .i64 (rdM D).ep, .int .i64 (rdM D).st, .int .i64 (rdM D).ck], .int .i64 (rdE D)]) ∧ Mod (fun _ => False) w w' := by
  have hc := mread_ok w0 w x _ h h2 rfl
  rw [fresh_read h2 0 (by omega) (by omega), fresh_read h2 1 (by omega) (by omega)] at hc
  exact hc
end

theorem rdM_new : rdM [fill 0, fill 0] = ⟨0, 0, 0, 0⟩ := lastOf_none _ _ (toldB_zero 0) (toldB_zero 1)

def one1 : Ms := ⟨1, 1, 2, 3⟩
def one2 : Ms := ⟨2, 1, 2, 3⟩
theorem one1_may : one1.May := by constructor <;> decide
theorem one2_may : one2.May := by constructor <;> decide
theorem rdM_two : rdM [secM one2, secM one1] = one2 := by
  show lastOf (secM one2) (secM one1) 2 = one2
  have ha : toldB (secM one2) 0 = true := by rw [toldB_sec _ one2_may]; decide
  have hb : toldB (secM one1) 1 = true := by rw [toldB_sec _ one1_may]; decide
  rw [lastOf_both _ _ ha hb, toldM_sec _ one2_may 0 (by decide), toldM_sec _ one1_may 1 (by decide), if_neg (by decide)]

set_option maxRecDepth 100000 in
set_option maxHeartbeats 1600000 in
theorem awake_ok (w : World) : Calls Try.prog 9 #[] w fun e w' => e = .returned (.bool true) ∧ Mod (fun _ => False) w w' := by
  have hnew := Lib.hid (lm_new w w (Mod.refl _ w) 2 (by omega) (by omega))
  go_enter Try.func9, Try.ntmps9
  go_wp2_with fail
  refine hnew.out.mono ?_
  rintro e w1 ⟨x1, rfl, hd1, hm1⟩
  replace hd1 : Dev w w1 x1 (Dk.fresh [fill 0, fill 0]) := hd1
  have Hr1 := Lib.hid (lm_read w w1 x1 _ hd1 (by decide))
  have Hd1 := Lib.hid hd1
  clear hd1 hm1 hnew
  rw [show rdE [fill 0, fill 0] = 3 by unfold rdE; rw [rdM_new]; rfl, rdM_new] at Hr1
  go_wp2_with fail
  refine Hr1.out.mono ?_
  rintro e w2 ⟨rfl, hm2⟩
  have Hd2 : Hid (Dev w (w2.alloc (.cells #[.int .i64 0, .int .i64 0, .int .i64 0, .int .i64 0] 23)) x1 (Dk.fresh [fill 0, fill 0])) := Hd1.out.keep (hm2.alloc _)
  clear hm2 Hr1 Hd1
  go_wp2_with fail
  refine (one_ok _ 1).mono ?_
  rintro e w4 ⟨rfl, hm4⟩
  have hd4 := Hd2.out.keep hm4
  have Hw4 := Lib.hid (lm_write w w4 x1 _ hd4 (by decide) one1 one1_may)
  clear hm4 hd4 Hd2
  go_wp2_with fail
  refine Hw4.out.mono ?_
  rintro e w5 ⟨rfl, x5, hx5, hd5, hm5⟩
  replace hd5 : Dev w w5 x5 (Dk.fresh [fill 0, secM one1]) := hd5
  have Hd5 := Lib.hid hd5
  clear hm5 hd5 Hw4
  rw [← hx5]
  clear hx5
  go_wp2_with fail
  refine (one_ok _ 2).mono ?_
  rintro e w6 ⟨rfl, hm6⟩
  have hd6 := Hd5.out.keep hm6
  have Hw6 := Lib.hid (lm_write w w6 x5 _ hd6 (by decide) one2 one2_may)
  clear hm6 hd6 Hd5
  go_wp2_with fail
  refine Hw6.out.mono ?_
  rintro e w7 ⟨rfl, x7, hx7, hd7, hm7⟩
  replace hd7 : Dev w w7 x7 (Dk.fresh [secM one2, secM one1]) := hd7
  have Hr7 := Lib.hid (lm_read w w7 x7 _ hd7 (by decide))
  rw [show rdE [secM one2, secM one1] = 0 by unfold rdE; rw [rdM_two]; rfl, rdM_two] at Hr7
  have Hd7 := Lib.hid hd7.old
  clear hm7 hd7 Hw6
  rw [← hx7]
  clear hx7
  go_wp2_with fail
  refine Hr7.out.mono ?_
  rintro e w8 ⟨rfl, hm8⟩
  have hm9 : Mod (fun _ => False) w (w8.alloc (.cells #[.int .i64 one2.no, .int .i64 one2.ep, .int .i64 one2.st, .int .i64 one2.ck] 23)) := (Hd7.out.trans hm8 (fun _ _ h => h)).alloc _
  have hb9 : InB (w8.alloc (.cells #[.int .i64 one2.no, .int .i64 one2.ep, .int .i64 one2.st, .int .i64 one2.ck] 23)) w8.heap.size one2 := heap_alloc_new _ _
  have Hb9 := Lib.hid hb9
  have Hm9 := Lib.hid hm9
  clear hb9 hm9 hm8 Hd7 Hr7
  go_wp2_with fail
  generalize w8.alloc (.cells #[.int .i64 one2.no, .int .i64 one2.ep, .int .i64 one2.st, .int .i64 one2.ck] 23) = w9 at *
  generalize w8.heap.size = g at *
  have Hc : Hid (∀ W, Mod (fun _ => False) w9 W → Bm W g one2) := fun W hW => (Hb9.out.keep hW).bm
  have Hd : Hid (Mod (fun _ => False) w9 w9.drew) := (Mod.refl _ w9).drew
  have hec : ∀ w, (Op.equalIn 10000 23 (.agg #[.int .i64 one2.no, .int .i64 one2.ep, .int .i64 one2.st, .int .i64 one2.ck]) (.agg #[.int .i64 2, .int .i64 1, .int .i64 2, .int .i64 3])).run Try.prog w = .ok true w := fun w => (eq_ms one2 one2 w).trans (by rw [eqMs_yes])
  obtain ⟨b0, b1, b2, b3⟩ := Hc.out w9 (Mod.refl _ _)
  have Hone : Hid (∀ W, Mod (fun _ => False) w9 W → Calls Try.prog 23 #[.int .i64 2] W fun e w' => e = .returned (.agg #[.int .i64 2, .int .i64 1, .int .i64 2, .int .i64 3]) ∧ Mod (fun _ => False) w9 w') := fun W hW => (one_ok W 2).mono (fun _ _ h => ⟨h.1, hW.trans h.2 (fun _ _ h => h)⟩)
  clear Hb9
  go_region_held3 (fun W => W.cell? ⟨g, 0, none⟩ = some (.int .i64 one2.no) ∧ W.cell? ⟨g, 1, none⟩ = some (.int .i64 one2.ep) ∧ W.cell? ⟨g, 2, none⟩ = some (.int .i64 one2.st) ∧ W.cell? ⟨g, 3, none⟩ = some (.int .i64 one2.ck)) (first | exact ⟨b0, b1, b2, b3⟩ | exact ⟨(Hc.out _ hm10).b0, (Hc.out _ hm10).b1, (Hc.out _ hm10).b2, (Hc.out _ hm10).b3⟩) ((go_at_call 23; refine (Hone.out _ Hd.out).mono ?_; rintro e w10 ⟨rfl, hm10⟩))
  have HM : Hid (Mod (fun _ => False) w w10) := Hm9.out.trans hm10 (fun _ _ h => h)
  clear hm10 Hone Hc b0 b1 b2 b3
  go_wp2
  go_ret
  exact ⟨rfl, HM.out⟩
end Go.Proofs.Ytkigpicjhklioaa
