/-
  The contracts of master.contained, in one form, and of master.Write.
-/
import Derived.Test.YtkigpicjhklioaaQMc
import Derived.Test.YtkigpicjhklioaaQE
namespace Go.Proofs.Ytkigpicjhklioaa
open Go Go.RowKit

theorem contained_ok (w : World) (A : Option Addr) (c : Nat) (xs : List UInt8) (i : Int) (h : Sl w A 256 c xs) :
    Calls Try.prog 39 #[.slice A 256 c, .int .i64 i] w fun e w' => e = .returned (.tuple #[.agg #[.int .i64 (toldM xs i).no, .int .i64 (toldM xs i).ep, .int .i64 (toldM xs i).st, .int .i64 (toldM xs i).ck], .bool (toldB xs i)]) ∧ Mod (fun _ => False) w w' := by
  by_cases he : xs.take 4 = xs.drop 252
  · have hb : toldB xs i = (mayM (msOf (roomOf xs)) && (decide ((msOf (roomOf xs)).no % 2 = i) && eqB xs (secM (msOf (roomOf xs))))) := by
      rw [toldB, decide_eq_true he, Bool.true_and]
    refine (contained_open w A c xs i h he _ rfl _ hb).mono ?_
    rintro e w' ⟨rfl, hm⟩
    refine ⟨?_, hm⟩
    unfold toldM
    cases toldB xs i <;> rfl
  · have hb : toldB xs i = false := by rw [toldB, decide_eq_false he, Bool.false_and]
    refine (contained_torn w A c xs i h he).mono ?_
    rintro e w' ⟨rfl, hm⟩
    refine ⟨?_, hm⟩
    rw [toldM, hb]
    rfl

/-- What Write answers, and what it leaves. -/
def wrE (d : Dk) (m : Ms) : Int := if mayM m = true ∧ 2 ≤ d.dur.length then (if d.writeE (m.no % 2) 256 = 0 then (d.write (m.no % 2) (secM m)).syncE else d.writeE (m.no % 2) 256) else 1
def wrD (d : Dk) (m : Ms) : Dk := if mayM m = true ∧ 2 ≤ d.dur.length then (if d.writeE (m.no % 2) 256 = 0 then (d.write (m.no % 2) (secM m)).sync else d.write (m.no % 2) (secM m)) else d

/-- The four cells of a master in a box. -/
structure Bm (W : World) (b : Nat) (m : Ms) : Prop where
  b0 : W.cell? ⟨b, 0, none⟩ = some (.int .i64 m.no)
  b1 : W.cell? ⟨b, 1, none⟩ = some (.int .i64 m.ep)
  b2 : W.cell? ⟨b, 2, none⟩ = some (.int .i64 m.st)
  b3 : W.cell? ⟨b, 3, none⟩ = some (.int .i64 m.ck)
theorem Bm.of {W : World} {b : Nat} {m : Ms} {t : TypeId} {f : Nat × Nat} (hb : W.heap[b]? = some (.cells #[.int .i64 m.no, .int .i64 m.ep, .int .i64 m.st, .int .i64 m.ck] t f)) : Bm W b m := by
  refine ⟨?_, ?_, ?_, ?_⟩
  all_goals rw [cell_of_row _ _ _ _ _ _ hb]; rfl

theorem Dk.write_len (d : Dk) (i : Int) (ys : List UInt8) : (d.write i ys).pend.length ≤ d.pend.length + 1 := by
  unfold Dk.write Dk.stepD
  split
  · split
    · simp
    · split
      · split <;> simp
      · simp
  · omega

set_option maxRecDepth 100000 in
set_option maxHeartbeats 1600000 in
theorem mwrite_no (w0 w : World) (x : DV) (d : Dk) (h : Dev w0 w x d) (m : Ms) (hn : ¬ (mayM m = true ∧ 2 ≤ d.dur.length)) :
    Calls Try.prog 11 #[.pointer (some ⟨x.p, 0, none⟩), .agg #[.int .i64 m.no, .int .i64 m.ep, .int .i64 m.st, .int .i64 m.ck]] w fun e w' => e = .returned (.int .i64 1) ∧ Mod (fun _ => False) w w' := by
  have Hmay := Lib.hid (fun W => may_ok W m)
  have Hlen : Hid (∀ W, Mod (fun _ => False) w W → Calls Try.prog 26 #[.pointer (some ⟨x.p, 0, none⟩)] W fun e w' => e = .returned (.int .i64 d.dur.length) ∧ w' = W) := fun W hW => dev_len w0 W x d (h.keep hW)
  have hM1 : Mod (fun _ => False) w (w.alloc (.cells #[.int .i64 m.no, .int .i64 m.ep, .int .i64 m.st, .int .i64 m.ck] 23)) := (Mod.refl _ w).alloc _
  have HM1 := Lib.hid hM1
  have hl : mayM m = true → (d.dur.length : Int) < 2 := fun hm => by
    have : ¬ 2 ≤ d.dur.length := fun h2 => hn ⟨hm, h2⟩
    omega
  clear hM1 h hn
  generalize (d.dur.length : Int) = n at *
  generalize mayM m = y at *
  go_enter Try.func11, Try.ntmps11
  go_wp2_with fail
  refine (Hmay.out _).mono ?_
  rintro e w2 ⟨rfl, hm2⟩
  have HM2 : Hid (Mod (fun _ => False) w w2) := HM1.out.trans hm2 (fun _ _ h => h)
  clear hm2 Hmay
  rcases y with _ | _
  · clear hl
    go_wp2
    go_ret
    exact ⟨rfl, HM2.out⟩
  · have hl2 := hl rfl
    clear hl
    go_wp2_with fail
    refine (Hlen.out w2 HM2.out).mono ?_
    rintro e w3 ⟨rfl, rfl⟩
    clear Hlen
    go_wp2
    go_ret
    exact ⟨rfl, HM2.out⟩

set_option maxRecDepth 100000 in
set_option maxHeartbeats 1600000 in
theorem mwrite_yes (w0 w : World) (x : DV) (d : Dk) (h : Dev w0 w x d) (hW : d.pend.length ≤ 900) (m : Ms) (hm : m.May) (h2 : 2 ≤ d.dur.length) (E : Int) (D : Dk) (hE : E = if d.writeE (m.no % 2) 256 = 0 then (d.write (m.no % 2) (secM m)).syncE else d.writeE (m.no % 2) 256)
    (hD : D = if d.writeE (m.no % 2) 256 = 0 then (d.write (m.no % 2) (secM m)).sync else d.write (m.no % 2) (secM m)) :
    Calls Try.prog 11 #[.pointer (some ⟨x.p, 0, none⟩), .agg #[.int .i64 m.no, .int .i64 m.ep, .int .i64 m.st, .int .i64 m.ck]] w fun e w' => e = .returned (.int .i64 E) ∧ ∃ x', x'.p = x.p ∧ Dev w0 w' x' D ∧ Mod x.M w w' := by
  have Hmay := Lib.hid (fun W => may_ok W m)
  have hyes : mayM m = true := (mayM_iff m).2 hm
  rw [hyes] at Hmay
  have Hlen : Hid (∀ W, Mod (fun _ => False) w W → Calls Try.prog 26 #[.pointer (some ⟨x.p, 0, none⟩)] W fun e w' => e = .returned (.int .i64 d.dur.length) ∧ w' = W) := fun W hW => dev_len w0 W x d (h.keep hW)
  have hl : ¬ (d.dur.length : Int) < 2 := by omega
  have hM1 : Mod (fun _ => False) w (w.alloc (.cells #[.int .i64 m.no, .int .i64 m.ep, .int .i64 m.st, .int .i64 m.ck] 23)) := (Mod.refl _ w).alloc _
  have hb1 := heap_alloc_new w (.cells #[.int .i64 m.no, .int .i64 m.ep, .int .i64 m.st, .int .i64 m.ck] 23)
  have Hdev : Hid (∀ W, Mod (fun _ => False) w W → Dev w0 W x d) := fun W hW => h.keep hW
  have Hap : Hid (∀ k, w.heap.size ≤ k → ¬ x.M k) := fun k hk => h.apart hk
  generalize hw1 : w.alloc (.cells #[.int .i64 m.no, .int .i64 m.ep, .int .i64 m.st, .int .i64 m.ck] 23) = w1 at *
  generalize hb : w.heap.size = b at *
  have hbl := (Array.getElem?_eq_some_iff.1 hb1).1
  have Hc : Hid (∀ W, Mod x.M w1 W → Bm W b m) := fun W hW => Bm.of ((hW.block b hbl (Hap.out b (Nat.le_refl _))).trans hb1)
  have Hcn : Hid (∀ W, Mod (fun _ => False) w1 W → Bm W b m) := fun W hW => Bm.of ((hW.block b hbl id).trans hb1)
  have HM1 := Lib.hid hM1
  have Hw1 := Lib.hid hw1
  have Hb := Lib.hid hb
  have Hbl := Lib.hid hbl
  have Hh2 := Lib.hid h2
  have HW := Lib.hid hW
  have Hm := Lib.hid hm
  have HE := Lib.hid hE
  have HD := Lib.hid hD
  clear hM1 hb1 hw1 hb hbl h2 hW hm hE hD h hyes
  generalize (d.dur.length : Int) = n at *
  go_enter Try.func11, Try.ntmps11
  go_wp2_with fail
  rw [Hw1.out, Hb.out]
  refine (Hmay.out w1).mono ?_
  rintro e w2 ⟨rfl, hm2⟩
  have HM2 : Hid (Mod (fun _ => False) w1 w2) := hm2
  clear hm2 Hmay
  go_wp2_with fail
  refine (Hlen.out w2 (HM1.out.trans HM2.out (fun _ _ h => h))).mono ?_
  rintro e w3 ⟨rfl, rfl⟩
  clear Hlen
  obtain ⟨b0, b1, b2, b3⟩ := Hcn.out w3 HM2.out
  have HMw : Hid (Mod (fun _ => False) w w3) := HM1.out.trans HM2.out (fun _ _ h => h)
  have HMd : Hid (Mod (fun _ => False) w3 w3.drew) := (Mod.refl _ w3).drew
  have Hat : Hid (∀ W, Mod (fun _ => False) w3 W → Calls Try.prog 27 #[.agg #[.int .i64 m.no, .int .i64 m.ep, .int .i64 m.st, .int .i64 m.ck]] W fun e w' => e = .returned (.int .i64 (m.no % 2)) ∧ Mod (fun _ => False) w3 w') := fun W hW => (at_ok W m (by have := Hm.out.n1; omega)).mono (fun _ _ h => ⟨h.1, hW.trans h.2 (fun _ _ h => h)⟩)
  have Hse : Hid (∀ W, Mod (fun _ => False) w3 W → Calls Try.prog 28 #[.agg #[.int .i64 m.no, .int .i64 m.ep, .int .i64 m.st, .int .i64 m.ck]] W fun e w' => ∃ g, e = .returned (.slice (some ⟨g, 0, none⟩) 256 256) ∧ Mod (fun _ => False) w3 w' ∧ Sl w' (some ⟨g, 0, none⟩) 256 256 (secM m) ∧ b ≤ g) := by
    intro W hW
    refine (sealed_ok W m Hm.out).mono ?_
    rintro e w' ⟨g, rfl, hs⟩
    refine ⟨g, rfl, hW.trans hs.2.2 (fun _ _ h => h), hs.sl (secM_len m), ?_⟩
    have h1 := hs.1
    have h2 := (HMw.out.trans hW (fun _ _ h => h)).size
    rw [Hb.out] at h2
    omega
  have Hwr : Hid (∀ W g, Mod (fun _ => False) w3 W → Sl W (some ⟨g, 0, none⟩) 256 256 (secM m) → b ≤ g → Calls Try.prog 19 #[.pointer (some ⟨x.p, 0, none⟩), .int .i64 (m.no % 2), .slice (some ⟨g, 0, none⟩) 256 256] W fun e w' => e = .returned (.int .i64 (d.writeE (m.no % 2) 256)) ∧ ∃ x', x'.p = x.p ∧ Dev w0 w' x' (d.write (m.no % 2) (secM m)) ∧ Mod x.M w3 w' ∧ (∀ k, x'.M k → x.M k ∨ b ≤ k)) := by
    intro W g hW hS hg
    have hM := HMw.out.trans hW (fun _ _ h => h)
    refine (dev_write w0 W x d (Hdev.out W hM) (m.no % 2) _ _ _ _ hS (fun k hk => by injection hk with hk; subst hk; exact Hap.out _ hg) (by have := HW.out; omega)).mono ?_
    rintro e w' ⟨rfl, x', h1, h2, h3, h4, h5⟩
    have hsz := hM.size
    rw [Hb.out] at hsz
    exact ⟨rfl, x', h1, h2, (hW.mono (fun _ _ h => h.elim)).trans h3 (fun _ _ h => h), fun k hk => (h5 k hk).imp id (fun h => Nat.le_trans hsz h)⟩
  have Hcw : Hid (∀ W, Mod (fun _ => False) w3 W → Bm W b m) := fun W hW => Hcn.out W (HM2.out.trans hW (fun _ _ h => h))
  have Hcx : Hid (∀ W, Mod x.M w3 W → Bm W b m) := fun W hW => Hc.out W ((HM2.out.mono (fun _ _ h => h.elim)).trans hW (fun _ _ h => h))
  clear Hc Hcn
  generalize hr : m.no % 2 = r at *
  generalize hE1 : d.writeE r 256 = E1 at *
  clear hr
  go_wp2_with fail
  go_region_held3 (fun W => W.cell? ⟨b, 0, none⟩ = some (.int .i64 m.no) ∧ W.cell? ⟨b, 1, none⟩ = some (.int .i64 m.ep) ∧ W.cell? ⟨b, 2, none⟩ = some (.int .i64 m.st) ∧ W.cell? ⟨b, 3, none⟩ = some (.int .i64 m.ck)) (first | exact ⟨b0, b1, b2, b3⟩ | exact ⟨(Hcw.out _ hm6).b0, (Hcw.out _ hm6).b1, (Hcw.out _ hm6).b2, (Hcw.out _ hm6).b3⟩ | exact ⟨(Hcw.out _ hm7).b0, (Hcw.out _ hm7).b1, (Hcw.out _ hm7).b2, (Hcw.out _ hm7).b3⟩ | exact ⟨(Hcx.out _ hm8).b0, (Hcx.out _ hm8).b1, (Hcx.out _ hm8).b2, (Hcx.out _ hm8).b3⟩) (first | (go_at_call 27; refine (Hat.out _ HMd.out).mono ?_; rintro e w6 ⟨rfl, hm6⟩) | (go_at_call 28; refine (Hse.out _ hm6).mono ?_; rintro e w7 ⟨g7, rfl, hm7, hs7, hg7⟩) | (go_at_call 19; refine (Hwr.out _ _ hm7 hs7 hg7).mono ?_; rintro e w8 ⟨rfl, x8, hx8, hd8, hm8, hM8⟩))
  have HM8 : Hid (Mod x.M w w8) := (HMw.out.mono (fun _ _ h => h.elim)).trans hm8 (fun _ _ h => h)
  have Hd8 := Lib.hid hd8
  have Hx8 := Lib.hid hx8
  have HM8k := Lib.hid hM8
  clear hm8 hd8 hM8 hs7 hg7 hm7 hm6 Hat Hse Hwr Hcw Hcx b0 b1 b2 b3
  by_cases h0 : E1 = 0
  · have hne : (E1 != 0) = false := by rw [bne_eq_false_iff_eq]; exact h0
    rw [if_pos h0] at HE HD
    have hsy := dev_sync w0 w8 x8 _ Hd8.out (by have h1 := d.write_len r (secM m); have h2 := HW.out; omega)
    have Hsy := Lib.hid hsy
    clear hsy
    have H0 := Lib.hid h0
    clear h0 hx8
    go_wp2_with fail
    rw [← Hx8.out]
    refine Hsy.out.mono ?_
    rintro e w9 ⟨rfl, x9, hx9, hd9, hm9⟩
    have Hx9 := Lib.hid hx9
    clear hx9 Hsy
    go_wp2
    go_ret
    refine ⟨by rw [← HE.out]; rfl, x9, Hx9.out.trans Hx8.out, by rw [HD.out]; exact hd9, HM8.out.trans hm9 (fun k hk hM => ?_)⟩
    rcases HM8k.out k hM with h | h
    · exact h
    · have := Hb.out; omega
  · have hne : (E1 != 0) = true := by rw [bne_iff_ne]; exact h0
    rw [if_neg h0] at HE HD
    have H0 := Lib.hid h0
    clear h0 hx8
    go_wp2
    go_ret
    exact ⟨by rw [HE.out]; rfl, x8, Hx8.out, by rw [HD.out]; exact Hd8.out, HM8.out⟩

theorem mwrite_ok (w0 w : World) (x : DV) (d : Dk) (h : Dev w0 w x d) (hW : d.pend.length ≤ 900) (m : Ms) :
    Calls Try.prog 11 #[.pointer (some ⟨x.p, 0, none⟩), .agg #[.int .i64 m.no, .int .i64 m.ep, .int .i64 m.st, .int .i64 m.ck]] w fun e w' => e = .returned (.int .i64 (wrE d m)) ∧ ∃ x', x'.p = x.p ∧ Dev w0 w' x' (wrD d m) ∧ Mod x.M w w' := by
  by_cases hy : mayM m = true ∧ 2 ≤ d.dur.length
  · exact mwrite_yes w0 w x d h hW m ((mayM_iff m).1 hy.1) hy.2 _ _ (by rw [wrE, if_pos hy]) (by rw [wrD, if_pos hy])
  · refine (mwrite_no w0 w x d h m hy).mono ?_
    rintro e w' ⟨rfl, hm⟩
    rw [wrE, wrD, if_neg hy, if_neg hy]
    exact ⟨rfl, x, rfl, h.keep hm, hm.mono (fun _ _ h => h.elim)⟩

theorem nil_len (w : World) : Calls Try.prog 26 #[.pointer none] w fun e w' => e = .returned (.int .i64 0) ∧ w' = w := by
  go_enter Try.func26, Try.ntmps26
  go_wp2
  go_ret
  exact ⟨rfl, rfl⟩
theorem nil_waits (w : World) : Calls Try.prog 14 #[.pointer none] w fun e w' => e = .returned (.int .i64 0) ∧ w' = w := by
  go_enter Try.func14, Try.ntmps14
  go_wp2
  go_ret
  exact ⟨rfl, rfl⟩

set_option maxRecDepth 100000 in
set_option maxHeartbeats 1600000 in
theorem mwrite_nil (w : World) (m : Ms) :
    Calls Try.prog 11 #[.pointer none, .agg #[.int .i64 m.no, .int .i64 m.ep, .int .i64 m.st, .int .i64 m.ck]] w fun e w' => e = .returned (.int .i64 1) ∧ Mod (fun _ => False) w w' := by
  have Hmay := Lib.hid (fun W => may_ok W m)
  have hM1 : Mod (fun _ => False) w (w.alloc (.cells #[.int .i64 m.no, .int .i64 m.ep, .int .i64 m.st, .int .i64 m.ck] 23)) := (Mod.refl _ w).alloc _
  have HM1 := Lib.hid hM1
  clear hM1
  generalize mayM m = y at *
  go_enter Try.func11, Try.ntmps11
  go_wp2_with fail
  refine (Hmay.out _).mono ?_
  rintro e w2 ⟨rfl, hm2⟩
  have HM2 : Hid (Mod (fun _ => False) w w2) := HM1.out.trans hm2 (fun _ _ h => h)
  clear hm2 Hmay
  rcases y with _ | _
  · go_wp2
    go_ret
    exact ⟨rfl, HM2.out⟩
  · go_wp2_with fail
    refine (nil_len w2).mono ?_
    rintro e w3 ⟨rfl, rfl⟩
    go_wp2
    go_ret
    exact ⟨rfl, HM2.out⟩
end Go.Proofs.Ytkigpicjhklioaa
