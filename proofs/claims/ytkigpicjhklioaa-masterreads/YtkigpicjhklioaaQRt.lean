/-
  The contracts of bobbinref09.Told and Read.
-/
import Derived.Test.YtkigpicjhklioaaQRs
import Derived.Test.YtkigpicjhklioaaQMr
namespace Go.Proofs.Ytkigpicjhklioaa
open Go Go.RowKit

/-- What the document says of a sector: the master, if it says one; it may be told and yet not be its sector. -/
def rtB (xs : List UInt8) (i : Int) : Bool := decide (xs.take 4 = xs.drop 252) && (mayM (msOf (roomOf xs)) && decide ((msOf (roomOf xs)).no % 2 = i))
def rtM (xs : List UInt8) (i : Int) : Ms := if rtB xs i then msOf (roomOf xs) else ⟨0, 0, 0, 0⟩
theorem toldB_rt (xs : List UInt8) (i : Int) : toldB xs i = (rtB xs i && eqB (secM (msOf (roomOf xs))) xs) := by
  have e : eqB xs (secM (msOf (roomOf xs))) = eqB (secM (msOf (roomOf xs))) xs := by
    unfold eqB
    exact decide_eq_decide.2 ⟨Eq.symm, Eq.symm⟩
  unfold toldB rtB
  rw [e]
  simp only [Bool.and_assoc]
theorem toldM_rt (xs : List UInt8) (i : Int) (h : toldB xs i = true) : toldM xs i = rtM xs i := by
  have h2 := toldB_rt xs i
  rw [h] at h2
  have h3 : rtB xs i = true := by
    cases hb : rtB xs i with
    | true => rfl
    | false => rw [hb] at h2; simp at h2
  unfold toldM rtM
  rw [if_pos h, if_pos h3]

set_option maxRecDepth 100000 in
set_option maxHeartbeats 1600000 in
theorem refTold_torn (w : World) (A : Option Addr) (c : Nat) (xs : List UInt8) (i : Int) (h : Sl w A 256 c xs) (hc : c ≤ maxLen) (hne : openErr 256 xs ≠ 0) :
    Calls Try.prog 40 #[.slice A 256 c, .int .i64 i] w fun e w' => e = .returned (.tuple #[.agg #[.int .i64 0, .int .i64 0, .int .i64 0, .int .i64 0], .bool false]) ∧ Mod (fun _ => False) w w' := by
  have h1 := h.alloc (.cells #[.int .i64 0, .int .i64 0, .int .i64 0, .int .i64 0] 23)
  have ht := Lib.hid (refOpen_any _ A 256 c xs h1 hc)
  have HZ1 := Lib.hid (heap_alloc_new w (.cells #[.int .i64 0, .int .i64 0, .int .i64 0, .int .i64 0] 23))
  have HM1 : Hid (Mod (fun _ => False) w (w.alloc (.cells #[.int .i64 0, .int .i64 0, .int .i64 0, .int .i64 0] 23))) := (Mod.refl _ w).alloc _
  clear h1 h hc
  go_enter Try.func40, Try.ntmps40
  go_wp2_with fail
  refine ht.out.mono ?_
  rintro e w2 ⟨A2, k2, c2, rfl, _, _, hG⟩
  have hz2 := (hG.2.block w.heap.size (by simp only [World.size_alloc]; omega) id).trans HZ1.out
  obtain ⟨z0, z1, z2, z3, f0, f1, f2, f3, -, -, -, -⟩ := Bx9.of (m := ⟨0, 0, 0, 0⟩) hz2 hz2
  have HM2 : Hid (Mod (fun _ => False) w w2) := HM1.out.trans hG.2 (fun _ _ h => h)
  have hne' : (openErr 256 xs != 0) = true := by rw [bne_iff_ne]; exact hne
  clear hz2 hG HZ1 HM1 ht hne
  generalize openErr 256 xs = E at *
  generalize openStamp 256 xs = S at *
  generalize hz : w.heap.size = z at *
  have Hz := Lib.hid hz
  clear hz
  go_wp2
  refine bodyPost_ret (v := .tuple #[.agg #[.int .i64 0, .int .i64 0, .int .i64 0, .int .i64 0], .bool false]) (by simp [results, Try.results40, go_sem, z0, z1, z2, z3]) rfl ?_
  exact ⟨rfl, HM2.out.set4 (Nat.le_of_eq Hz.out) _ _ _ _⟩

set_option maxRecDepth 100000 in
set_option maxHeartbeats 1600000 in
theorem refTold_open (w : World) (A : Option Addr) (c : Nat) (xs : List UInt8) (i : Int) (h : Sl w A 256 c xs) (hc : c ≤ maxLen) (he : xs.take 4 = xs.drop 252) (m : Ms) (hm : m = msOf (roomOf xs)) (b : Bool) (hb : b = (mayM m && decide (m.no % 2 = i))) :
    Calls Try.prog 40 #[.slice A 256 c, .int .i64 i] w fun e w' => e = .returned (.tuple #[.agg #[.int .i64 (if b then m.no else 0), .int .i64 (if b then m.ep else 0), .int .i64 (if b then m.st else 0), .int .i64 (if b then m.ck else 0)], .bool (b && eqB (secM m) xs)]) ∧ Mod (fun _ => False) w w' := by
  have h1 := h.alloc (.cells #[.int .i64 0, .int .i64 0, .int .i64 0, .int .i64 0] 23)
  have hob : openB 256 xs = true := by simp [openB, he]
  have ht := refOpen_any _ A 256 c xs h1 hc
  rw [show openErr 256 xs = 0 by rw [openErr, hob]; rfl, show openBytes 256 xs = roomOf xs by rw [openBytes, hob]; rfl] at ht
  have Ht := Lib.hid ht
  have HZ1 := Lib.hid (heap_alloc_new w (.cells #[.int .i64 0, .int .i64 0, .int .i64 0, .int .i64 0] 23))
  have HM1 : Hid (Mod (fun _ => False) w (w.alloc (.cells #[.int .i64 0, .int .i64 0, .int .i64 0, .int .i64 0] 23))) := (Mod.refl _ w).alloc _
  have HX := Lib.hid h
  have Hl := Lib.hid h.len
  have Hm := Lib.hid hm
  have Hmb : Hid (0 ≤ m.no) := by rw [hm]; exact (numAt_bd _ 0).1
  clear h1 h hc he hm hob ht
  generalize openStamp 256 xs = S at *
  go_enter Try.func40, Try.ntmps40
  go_wp2_with fail
  refine Ht.out.mono ?_
  rintro e w2 ⟨A2, k2, c2, rfl, _, hc2, hG⟩
  have hk2 : k2 = 248 := by rw [← hG.1.len, roomOf_len Hl.out]
  subst hk2
  have hcap := hG.1.cap
  obtain ⟨g, o, rfl, hcl⟩ := hG.1.lt (by omega)
  have HS2 := Lib.hid hG.1
  have hz2 := (hG.2.block w.heap.size (by simp only [World.size_alloc]; omega) id).trans HZ1.out
  have HZ2 := Lib.hid hz2
  have HM2 : Hid (Mod (fun _ => False) w w2) := HM1.out.trans hG.2 (fun _ _ h => h)
  have d4 : ¬ c2 = 4 := by omega
  have d8 : ¬ c2 = 8 := by omega
  have d12 : ¬ c2 = 12 := by omega
  have hci : (248 : Int) ≤ c2 := by omega
  have HC2 := Lib.hid hc2
  have HCap := Lib.hid hcap
  clear hz2 hG HZ1 HM1 Ht hcap hcl hc2
  have Hgets : Hid (∀ q j, j + 4 ≤ 248 → Sl (w2.drewN q) (some ⟨g, o + j, none⟩) (248 - j) (c2 - j) ((roomOf xs).drop j) ∧ c2 - j ≤ maxLen) := by
    intro q j hj
    have hs := (HS2.out.sub j (248 - j) (by omega)).drewN q
    rw [List.take_of_length_le (by rw [List.length_drop, roomOf_len Hl.out]; omega)] at hs
    exact ⟨hs, by have := HC2.out; omega⟩
  go_wp2_with fail
  refine (refGet_ok4 w2 _ 248 c2 _ HS2.out HC2.out (by omega)).mono ?_
  rintro e w3 ⟨A3, q3, rfl, _, rfl⟩
  go_wp2_with fail
  refine (refGet_ok4 (w2.drewN q3) _ 244 (c2 - 4) _ (Hgets.out q3 4 (by omega)).1 (Hgets.out q3 4 (by omega)).2 (by omega)).mono ?_
  rintro e w4 ⟨A4, p4, rfl, _, rfl⟩
  rw [World.drewN_drewN]
  generalize hq4 : q3 + p4 = q4 at *
  clear hq4
  go_wp2_with fail
  refine (refGet_ok4 (w2.drewN q4) _ 240 (c2 - 8) _ (Hgets.out q4 8 (by omega)).1 (Hgets.out q4 8 (by omega)).2 (by omega)).mono ?_
  rintro e w5 ⟨A5, p5, rfl, _, rfl⟩
  rw [World.drewN_drewN]
  generalize hq5 : q4 + p5 = q5 at *
  clear hq5
  go_wp2_with fail
  refine (refGet_ok4 (w2.drewN q5) _ 236 (c2 - 12) _ (Hgets.out q5 12 (by omega)).1 (Hgets.out q5 12 (by omega)).2 (by omega)).mono ?_
  rintro e w6 ⟨A6, p6, rfl, _, rfl⟩
  rw [World.drewN_drewN]
  generalize hq6 : q5 + p6 = q6 at *
  clear hq6
  have HN : Hid (m.no = (unle ((roomOf xs).take 4) : Int) ∧ m.ep = (unle (((roomOf xs).drop 4).take 4) : Int) ∧ m.st = (unle (((roomOf xs).drop 8).take 4) : Int) ∧ m.ck = (unle (((roomOf xs).drop 12).take 4) : Int)) := by
    show _ ∧ _
    rw [Hm.out]
    exact ⟨rfl, rfl, rfl, rfl⟩
  rw [← HN.out.1, ← HN.out.2.1, ← HN.out.2.2.1, ← HN.out.2.2.2]
  have hz3 : (w2.drewN q6).heap[w.heap.size]? = some (.cells #[.int .i64 0, .int .i64 0, .int .i64 0, .int .i64 0] 23 (0, 0)) := HZ2.out
  have hM3 : Mod (fun _ => False) w (w2.drewN q6) := HM2.out.drewN q6
  have HXd3 : Hid (Sl (w2.drewN q6) A 256 c xs) := HX.out.mod hM3 (fun _ _ _ => id)
  clear HZ2 HM2 Hgets HS2 d4 d8 d12 hci HC2 HCap HN
  generalize w2.drewN q6 = w3 at *
  have hz4 : (w3.alloc (.cells #[.int .i64 m.no, .int .i64 m.ep, .int .i64 m.st, .int .i64 m.ck] 23)).heap[w.heap.size]? = some (.cells #[.int .i64 0, .int .i64 0, .int .i64 0, .int .i64 0] 23 (0, 0)) := by
    rw [Below.heap_alloc _ _ _ (Array.getElem?_eq_some_iff.1 hz3).1]; exact hz3
  have hb4 := heap_alloc_new w3 (.cells #[.int .i64 m.no, .int .i64 m.ep, .int .i64 m.st, .int .i64 m.ck] 23)
  have hM4 : Mod (fun _ => False) w (w3.alloc (.cells #[.int .i64 m.no, .int .i64 m.ep, .int .i64 m.st, .int .i64 m.ck] 23)) := hM3.alloc _
  have hX4 := HXd3.out.alloc (.cells #[.int .i64 m.no, .int .i64 m.ep, .int .i64 m.st, .int .i64 m.ck] 23)
  generalize hw4 : w3.alloc (.cells #[.int .i64 m.no, .int .i64 m.ep, .int .i64 m.st, .int .i64 m.ck] 23) = w4 at *
  generalize hq : w3.heap.size = q at *
  generalize hz : w.heap.size = z at *
  have Hz := Lib.hid hz
  have HM4 := Lib.hid hM4
  have HB : Hid (∀ W, Mod (fun _ => False) w4 W → Bx9 W z q m) := by
    intro W hW
    have e1 := hW.block z (Array.getElem?_eq_some_iff.1 hz4).1 id
    have e2 := hW.block q (Array.getElem?_eq_some_iff.1 hb4).1 id
    rw [hz4] at e1
    rw [hb4] at e2
    exact Bx9.of e1 e2
  have Hw4 := Lib.hid hw4
  have Hq := Lib.hid hq
  have HXd : Hid (∀ W, Mod (fun _ => False) w4 W → Sl W A 256 c xs) := fun W hW => hX4.mod hW (fun _ _ _ => id)
  clear hz3 hM3 hz4 hb4 hM4 hz hq hw4 hX4 HXd3
  have Hmay := Lib.hid (fun W => refMay_ok W m)
  generalize hy : mayM m = y at *
  have Hy := Lib.hid hy
  clear hy
  go_wp2_with fail
  rw [Hw4.out, Hq.out]
  refine (Hmay.out w4).mono ?_
  rintro e w5 ⟨rfl, hm5⟩
  have HM_w5 : Hid (Mod (fun _ => False) w4 w5) := hm5
  clear hm5 Hmay
  obtain ⟨z0, z1, z2, z3, f0, f1, f2, f3, b0, b1, b2, b3⟩ := HB.out w5 HM_w5.out
  rcases y with _ | _
  · have HbE : Hid (b = false) := by show _ = _; rw [hb]; rfl
    clear hb
    obtain rfl : b = false := HbE.out
    go_wp2
    refine bodyPost_ret (v := .tuple #[.agg #[.int .i64 0, .int .i64 0, .int .i64 0, .int .i64 0], .bool false]) (by simp [results, Try.results40, go_sem, z0, z1, z2, z3]) rfl ?_
    exact ⟨rfl, (HM4.out.trans HM_w5.out (fun _ _ h => h)).set4 (Nat.le_of_eq Hz.out) _ _ _ _⟩
  replace hb : b = decide (m.no % 2 = i) := by rw [hb]; rfl
  have hr : m.no.tmod 2 = m.no % 2 := Int.tmod_eq_emod_of_nonneg Hmb.out
  generalize m.no % 2 = r at *
  by_cases hp : r = i
  rotate_left
  · have HbE : Hid (b = false) := by show _ = _; rw [hb, decide_eq_false hp]
    have hne : (r != i) = true := by rw [bne_iff_ne]; exact hp
    clear hb hp
    obtain rfl : b = false := HbE.out
    go_wp2
    refine bodyPost_ret (v := .tuple #[.agg #[.int .i64 0, .int .i64 0, .int .i64 0, .int .i64 0], .bool false]) (by simp [results, Try.results40, go_sem, z0, z1, z2, z3]) rfl ?_
    exact ⟨rfl, (HM4.out.trans HM_w5.out (fun _ _ h => h)).set4 (Nat.le_of_eq Hz.out) _ _ _ _⟩
  have HbE : Hid (b = true) := by show _ = _; rw [hb, decide_eq_true hp]
  have hne : (r != i) = false := by rw [bne_eq_false_iff_eq]; exact hp
  have Hse := Lib.hid (refSector_ok w5 m ((mayM_iff m).1 Hy.out))
  clear hp hb
  obtain rfl : b = true := HbE.out
  go_wp2_with fail
  refine Hse.out.mono ?_
  rintro e w6 ⟨A6, c6, rfl, hG⟩
  have HM_w6 : Hid (Mod (fun _ => False) w4 w6) := HM_w5.out.trans hG.2 (fun _ _ h => h)
  have Heq := Lib.hid (same_ok w6 A6 A 256 256 c6 c (secM m) xs hG.1 (HXd.out w6 HM_w6.out) (by omega) (by omega))
  clear hG Hse z0 z1 z2 z3 f0 f1 f2 f3 b0 b1 b2 b3
  generalize hv : eqB (secM m) xs = v at *
  have Hv := Lib.hid hv
  clear hv
  go_wp2_with fail
  refine Heq.out.mono ?_
  rintro e w7 ⟨rfl, q7, hw7⟩
  have HM_w7 : Hid (Mod (fun _ => False) w4 w7) := by show Mod _ _ _; rw [hw7]; exact HM_w6.out.drewN q7
  clear hw7 Heq
  obtain ⟨z0, z1, z2, z3, f0, f1, f2, f3, b0, b1, b2, b3⟩ := HB.out w7 HM_w7.out
  go_wp2
  refine bodyPost_ret (v := .tuple #[.agg #[.int .i64 m.no, .int .i64 m.ep, .int .i64 m.st, .int .i64 m.ck], .bool v]) (by simp [results, Try.results40, go_sem, z0, z1, z2, z3]) rfl ?_
  exact ⟨by simp; exact Hv.out.symm, (HM4.out.trans HM_w7.out (fun _ _ h => h)).set4 (Nat.le_of_eq Hz.out) _ _ _ _⟩

theorem refTold_ok (w : World) (A : Option Addr) (c : Nat) (xs : List UInt8) (i : Int) (h : Sl w A 256 c xs) (hc : c ≤ maxLen) :
    Calls Try.prog 40 #[.slice A 256 c, .int .i64 i] w fun e w' => e = .returned (.tuple #[.agg #[.int .i64 (rtM xs i).no, .int .i64 (rtM xs i).ep, .int .i64 (rtM xs i).st, .int .i64 (rtM xs i).ck], .bool (toldB xs i)]) ∧ Mod (fun _ => False) w w' := by
  by_cases he : xs.take 4 = xs.drop 252
  · have hb : rtB xs i = (mayM (msOf (roomOf xs)) && decide ((msOf (roomOf xs)).no % 2 = i)) := by
      rw [rtB, decide_eq_true he, Bool.true_and]
    refine (refTold_open w A c xs i h hc he _ rfl _ hb).mono ?_
    rintro e w' ⟨rfl, hm⟩
    refine ⟨?_, hm⟩
    rw [toldB_rt]
    unfold rtM
    cases rtB xs i <;> rfl
  · have hb : rtB xs i = false := by rw [rtB, decide_eq_false he, Bool.false_and]
    have ho : openErr 256 xs ≠ 0 := by
      have : openB 256 xs = false := by simp [openB, he]
      rw [openErr, if_pos rfl, this]
      decide
    refine (refTold_torn w A c xs i h hc ho).mono ?_
    rintro e w' ⟨rfl, hm⟩
    refine ⟨?_, hm⟩
    rw [toldB_rt, rtM, hb]
    rfl
end Go.Proofs.Ytkigpicjhklioaa
