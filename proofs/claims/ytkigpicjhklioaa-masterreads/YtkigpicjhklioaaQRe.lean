/-
  MasterReads: whatever stands in the two sectors, of it is read what the document says.
-/
import Derived.Test.YtkigpicjhklioaaQMl
import Derived.Test.YtkigpicjhklioaaQRr
namespace Go.Proofs.Ytkigpicjhklioaa
open Go Go.RowKit

/-- Two writes wait. -/
def Two9 (D : List (List UInt8)) (a b : List UInt8) : Dk := ⟨D, [(0, a), (1, b)], false, 0, false⟩
theorem two9_write (D : List (List UInt8)) (a b : List UInt8) (h : D.length = 3) (ha : a.length = 256) (hb : b.length = 256) : ((Dk.fresh D).write 0 a).write 1 b = Two9 D a b := by
  have e1 : (Dk.fresh D).write 0 a = ⟨D, [(0, a)], false, 0, false⟩ := by
    unfold Dk.write
    rw [if_pos ⟨by unfold Dk.reach Dk.fresh; rw [if_neg (by simp), if_pos (by show (0 : Int) ≤ 0 ∧ (0 : Int) < (D.length : Int); omega)], ha⟩, if_pos (show (Dk.fresh D).stepE = 0 from rfl)]
    rfl
  rw [e1]
  unfold Dk.write
  rw [if_pos ⟨by unfold Dk.reach; rw [if_neg (by simp), if_pos (by show (0 : Int) ≤ 1 ∧ (1 : Int) < (D.length : Int); omega)], hb⟩, if_pos (show (⟨D, [(0, a)], false, 0, false⟩ : Dk).stepE = 0 from rfl)]
  rfl
theorem two9_read (D : List (List UInt8)) (a b : List UInt8) (h : D.length = 3) : (Two9 D a b).read 0 = a ∧ (Two9 D a b).read 1 = b := by
  have hr : ∀ i : Int, 0 ≤ i → i < 2 → (Two9 D a b).reach i = 0 := fun i h0 h2 => by
    unfold Dk.reach Two9
    rw [if_neg (by simp), if_pos ⟨h0, by show i < (D.length : Int); omega⟩]
  have hn : (Two9 D a b).now = (D.set 0 a).set 1 b := rfl
  match D, h with
  | [x, y, z], _ =>
    constructor
    · unfold Dk.read; rw [if_pos (hr 0 (by omega) (by omega)), hn]; rfl
    · unfold Dk.read; rw [if_pos (hr 1 (by omega) (by omega)), hn]; rfl

set_option maxRecDepth 100000 in
set_option maxHeartbeats 1600000 in
theorem reads_yy (A B : Option Addr) (c d : Nat) (xs ys : List UInt8) (W : World) (hx : Sl W A 256 c xs) (hy : Sl W B 256 d ys) (hc : c ≤ maxLen) (hd : d ≤ maxLen) :
    Calls Try.prog 4 #[.slice A 256 c, .slice B 256 d] W fun e w' => e = .returned (.bool true) ∧ Below W.heap.size W w' := by
  have HX := Lib.hid hx
  have HY := Lib.hid hy
  have HC := Lib.hid hc
  have HD := Lib.hid hd
  clear hx hy hc hd
  go_enter Try.func4, Try.ntmps4
  go_wp2_with fail
  refine (awake_ok W).mono ?_
  rintro e w3 ⟨rfl, hm3⟩
  have Hm3 := Lib.hid hm3
  have Hnew := Lib.hid (lm_new w3 w3 (Mod.refl _ w3) 3 (by omega) (by omega))
  clear hm3
  go_wp2_with fail
  refine Hnew.out.mono ?_
  rintro e w4 ⟨x4, rfl, hd4, _⟩
  have Hd4 := Lib.hid hd4
  clear hd4 Hnew
  have HDl : Hid ((List.replicate (Int.toNat 3) (fill 0)).length = 3) := rfl
  generalize List.replicate (Int.toNat 3) (fill 0) = D0 at *
  obtain ⟨w5, hw5⟩ : ∃ w5, w5 = w4 := ⟨_, rfl⟩
  have hm5 : Mod (fun _ => False) w4 w5 := by rw [hw5]; exact Mod.refl _ _
  have Hd5 := Lib.hid (Hd4.out.keep hm5)
  have HM5 := Lib.hid (Hm3.out.trans Hd5.out.old (fun _ _ h => h))
  have hsA : Sl w5 A 256 c xs := HX.out.mod HM5.out (fun _ _ _ => id)
  have hltA : ∀ k, blkOf A = some k → k < w5.heap.size := fun k hk => by
    obtain ⟨b, o, rfl, hb⟩ := hsA.lt (by omega)
    have hk' : b = k := by simpa [blkOf] using hk
    omega
  have hnA : ∀ k, blkOf A = some k → ¬ x4.M k := fun k hk hM => by
    obtain ⟨b, o, rfl, hb⟩ := HX.out.lt (by omega)
    have h1 := (Hd5.out.at_.M_lt hM).1
    have h2 := Hm3.out.size
    have hk' : b = k := by simpa [blkOf] using hk
    omega
  have hsB : Sl w5 B 256 d ys := HY.out.mod HM5.out (fun _ _ _ => id)
  have hltB : ∀ k, blkOf B = some k → k < w5.heap.size := fun k hk => by
    obtain ⟨b, o, rfl, hb⟩ := hsB.lt (by omega)
    have hk' : b = k := by simpa [blkOf] using hk
    omega
  have hnB : ∀ k, blkOf B = some k → ¬ x4.M k := fun k hk hM => by
    obtain ⟨b, o, rfl, hb⟩ := HY.out.lt (by omega)
    have h1 := (Hd5.out.at_.M_lt hM).1
    have h2 := Hm3.out.size
    have hk' : b = k := by simpa [blkOf] using hk
    omega
  have HA := Lib.hid hsA
  have HB := Lib.hid hsB
  have HnA := Lib.hid hnA
  have HnB := Lib.hid hnB
  have HltB := Lib.hid hltB
  have HltA := Lib.hid hltA
  have Hw5 := Lib.hid hw5
  have HLA : Hid ((xs : List UInt8).length = 256) := HX.out.len
  have HLB : Hid ((ys : List UInt8).length = 256) := HY.out.len
  have HcA : Hid (c ≤ maxLen) := HC.out
  have HcB : Hid (d ≤ maxLen) := HD.out
  clear hm5 hsA hnA hltA hsB hnB hltB hw5 Hd4
  go_wp2_with fail
  rw [← Hw5.out]
  have Hwa := Lib.hid (dev_write w3 w5 x4 _ Hd5.out 0 _ _ _ _ HA.out HnA.out (Nat.zero_le _))
  generalize (Dk.fresh D0).writeE 0 256 = E1 at *
  refine Hwa.out.mono ?_
  rintro e w6 ⟨rfl, x6, hx6, hd6, hm6, _, hM6⟩
  have HB6 := Lib.hid (HB.out.mod hm6 (fun k hk _ => HnB.out k hk))
  have HA6 := Lib.hid (HA.out.mod hm6 (fun k hk _ => HnA.out k hk))
  have HnB6 : Hid (∀ k, blkOf B = some k → ¬ x6.M k) := fun k hk hM => by
    rcases hM6 k hM with h | h
    · exact HnB.out k hk h
    · have := HltB.out k hk; omega
  have HnA6 : Hid (∀ k, blkOf A = some k → ¬ x6.M k) := fun k hk hM => by
    rcases hM6 k hM with h | h
    · exact HnA.out k hk h
    · have := HltA.out k hk; omega
  have hwb := dev_write w3 w6 x6 _ hd6 1 _ _ _ _ HB6.out HnB6.out (by have := (Dk.fresh D0).write_len 0 xs; have h0 : (Dk.fresh D0).pend.length = 0 := rfl; omega)
  rw [two9_write D0 _ _ HDl.out HLA.out HLB.out] at hwb
  have Hwb := Lib.hid hwb
  have Hx6 := Lib.hid hx6
  generalize ((Dk.fresh D0).write 0 xs).writeE 1 256 = E2 at *
  clear hwb hx6 hd6 hm6 hM6 Hwa HA HB HnA HnB HltA HltB Hd5
  go_wp2_with fail
  rw [← Hx6.out]
  refine Hwb.out.mono ?_
  rintro e w7 ⟨rfl, x7, hx7, hd7, hm7, _, _⟩
  have HB7 := Lib.hid (HB6.out.mod hm7 (fun k hk _ => HnB6.out k hk))
  have HA7 := Lib.hid (HA6.out.mod hm7 (fun k hk _ => HnA6.out k hk))
  have hrd := mread_ok w3 w7 x7 _ hd7 (by show 2 ≤ D0.length; rw [HDl.out]; omega) rfl
  rw [(two9_read D0 _ _ HDl.out).1, (two9_read D0 _ _ HDl.out).2] at hrd
  have Hrd := Lib.hid hrd
  have Hx7 := Lib.hid hx7
  have HM7 := Lib.hid (Hm3.out.trans hd7.old (fun _ _ h => h))
  clear hrd hx7 hd7 hm7 Hwb HA6 HB6 HnA6 HnB6
  go_wp2_with fail
  rw [← Hx7.out]
  refine Hrd.out.mono ?_
  rintro e w8 ⟨rfl, hm8⟩
  have HM8 := Lib.hid (HM7.out.trans hm8 (fun _ _ h => h))
  have HA8 := Lib.hid (HA7.out.mod hm8 (fun _ _ _ => id))
  have HB8 := Lib.hid (HB7.out.mod hm8 (fun _ _ _ => id))
  clear hm8 Hrd HA7 HB7 HM7
  generalize hV : lastOf xs ys 2 = V at *
  have HV := Lib.hid hV
  clear hV
  generalize hE : (if V.no = 0 then (3 : Int) else 0) = E at *
  have HE := Lib.hid hE
  clear hE
  have hb9 : InB (w8.alloc (.cells #[.int .i64 V.no, .int .i64 V.ep, .int .i64 V.st, .int .i64 V.ck] 23)) w8.heap.size V := heap_alloc_new _ _
  have Hrr := refRead_ok (w8.alloc (.cells #[.int .i64 V.no, .int .i64 V.ep, .int .i64 V.st, .int .i64 V.ck] 23)) _ _ _ _ _ _ (HA8.out.alloc _) (HB8.out.alloc _) HcA.out HcB.out
  rw [HV.out, HE.out] at Hrr
  have Hrr' := Lib.hid Hrr
  have Hb9 := Lib.hid hb9
  have HM9 := Lib.hid (HM8.out.alloc (.cells #[.int .i64 V.no, .int .i64 V.ep, .int .i64 V.st, .int .i64 V.ck] 23))
  clear Hrr hb9 HA8 HB8 HM8
  generalize hq : w8.heap.size = q at *
  have Hq := Lib.hid hq
  clear hq
  go_wp2_with fail
  rw [Hq.out]
  refine Hrr'.out.mono ?_
  rintro e wA ⟨rfl, hmA⟩
  have hbA := Hb9.out.keep hmA
  obtain ⟨q0, q1, q2, q3⟩ := hbA.bm
  have hqlt := hbA.lt
  have HMA := Lib.hid (HM9.out.trans hmA (fun _ _ h => h))
  clear hbA hmA Hrr' Hb9 HM9
  have hec : ∀ w, (Op.equalIn 10000 23 (.agg #[.int .i64 V.no, .int .i64 V.ep, .int .i64 V.st, .int .i64 V.ck]) (.agg #[.int .i64 V.no, .int .i64 V.ep, .int .i64 V.st, .int .i64 V.ck])).run Try.prog w = .ok true w := fun w => (eq_ms V V w).trans (by rw [eqMs_yes])
  go_wp2
  go_ret
  exact ⟨rfl, (HMA.out.alloc _).below (Nat.le_refl _) (fun _ _ => id)⟩

set_option maxRecDepth 100000 in
set_option maxHeartbeats 1600000 in
theorem reads_yn (A B : Option Addr) (c m d : Nat) (xs ys : List UInt8) (W : World) (hx : Sl W A 256 c xs) (hy : Sl W B m d ys) (hc : c ≤ maxLen) (hd : d ≤ maxLen) (hmm : ¬ m = 256) :
    Calls Try.prog 4 #[.slice A 256 c, .slice B m d] W fun e w' => e = .returned (.bool true) ∧ Below W.heap.size W w' := by
  obtain ⟨Z, HZ⟩ : ∃ Z : Array Value, Hid (Z = ((fill 0).map bv).toArray) := ⟨_, rfl⟩
  have hmk : ∀ V : World, (Instr.makeSlice 32 (.int .i64 256) (.int .i64 256)).run Try.prog V = .ok (.slice (some ⟨V.heap.size, 0, none⟩) 256 256) (V.alloc (.cells Z 5)) := by
    intro V
    have := run_makeBytes 256 (by omega) V
    rw [HZ.out]
    rw [show madeCells #[Value.int .u8 0] 256 = ((fill 0).map bv).toArray by
      rw [show (fill 0).map bv = List.replicate 256 (Value.int .u8 0) from List.map_replicate]
      rw [← toList_madeCells_one]] at this
    exact this
  have HX := Lib.hid hx
  have HY := Lib.hid hy
  have HC := Lib.hid hc
  have HD := Lib.hid hd
  have hne1 : ((m : Int) != 256) = true := by rw [bne_iff_ne]; omega
  clear hx hy hc hd
  go_enter Try.func4, Try.ntmps4
  go_wp2_with fail
  refine (awake_ok W).mono ?_
  rintro e w3 ⟨rfl, hm3⟩
  have Hm3 := Lib.hid hm3
  have Hnew := Lib.hid (lm_new w3 w3 (Mod.refl _ w3) 3 (by omega) (by omega))
  clear hm3
  go_wp2_with fail
  refine Hnew.out.mono ?_
  rintro e w4 ⟨x4, rfl, hd4, _⟩
  have Hd4 := Lib.hid hd4
  clear hd4 Hnew
  have HDl : Hid ((List.replicate (Int.toNat 3) (fill 0)).length = 3) := rfl
  generalize List.replicate (Int.toNat 3) (fill 0) = D0 at *
  obtain ⟨w5, hw5⟩ : ∃ w5, w5 = (w4.alloc (.cells Z 5)) := ⟨_, rfl⟩
  have hm5 : Mod (fun _ => False) w4 w5 := by rw [hw5]; exact (Mod.refl _ _).alloc _
  have Hd5 := Lib.hid (Hd4.out.keep hm5)
  have HM5 := Lib.hid (Hm3.out.trans Hd5.out.old (fun _ _ h => h))
  have hsA : Sl w5 A 256 c xs := HX.out.mod HM5.out (fun _ _ _ => id)
  have hltA : ∀ k, blkOf A = some k → k < w5.heap.size := fun k hk => by
    obtain ⟨b, o, rfl, hb⟩ := hsA.lt (by omega)
    have hk' : b = k := by simpa [blkOf] using hk
    omega
  have hnA : ∀ k, blkOf A = some k → ¬ x4.M k := fun k hk hM => by
    obtain ⟨b, o, rfl, hb⟩ := HX.out.lt (by omega)
    have h1 := (Hd5.out.at_.M_lt hM).1
    have h2 := Hm3.out.size
    have hk' : b = k := by simpa [blkOf] using hk
    omega
  have hsB : Sl w5 (some ⟨w4.heap.size, 0, none⟩) 256 256 (fill 0) := by
    have h0 : (w4.alloc (.cells Z 5)).heap[w4.heap.size]? = some (.cells ((fill 0).map bv).toArray 5 (0, 0)) := by rw [← HZ.out]; exact heap_alloc_new _ _
    have h1 : (w4.alloc (.cells Z 5)).heap[w4.heap.size]? = some (.cells ((fill 0).map bv).toArray 5 (0, 0)) := by exact h0
    have h2 := Sl.lit (fill 0) h1
    rw [fill_len] at h2
    rw [hw5]; exact h2
  have hnB : ∀ k, blkOf (some ⟨w4.heap.size, 0, none⟩) = some k → ¬ x4.M k := fun k hk => by injection hk with hk; subst hk; exact Hd4.out.apart (by show w4.heap.size ≤ w4.heap.size; omega)
  have hltB : ∀ k, blkOf (some ⟨w4.heap.size, 0, none⟩) = some k → k < w5.heap.size := fun k hk => by injection hk with hk; subst hk; show w4.heap.size < w5.heap.size; rw [hw5]; simp only [World.size_alloc]; omega
  have HA := Lib.hid hsA
  have HB := Lib.hid hsB
  have HnA := Lib.hid hnA
  have HnB := Lib.hid hnB
  have HltB := Lib.hid hltB
  have HltA := Lib.hid hltA
  have Hw5 := Lib.hid hw5
  have HLA : Hid ((xs : List UInt8).length = 256) := HX.out.len
  have HLB : Hid (((fill 0) : List UInt8).length = 256) := (fill_len 0)
  have HcA : Hid (c ≤ maxLen) := HC.out
  have HcB : Hid (256 ≤ maxLen) := by show 256 ≤ maxLen; unfold maxLen; omega
  clear hm5 hsA hnA hltA hsB hnB hltB hw5 Hd4
  go_wp2_with fail
  rw [← Hw5.out]
  have Hwa := Lib.hid (dev_write w3 w5 x4 _ Hd5.out 0 _ _ _ _ HA.out HnA.out (Nat.zero_le _))
  generalize (Dk.fresh D0).writeE 0 256 = E1 at *
  refine Hwa.out.mono ?_
  rintro e w6 ⟨rfl, x6, hx6, hd6, hm6, _, hM6⟩
  have HB6 := Lib.hid (HB.out.mod hm6 (fun k hk _ => HnB.out k hk))
  have HA6 := Lib.hid (HA.out.mod hm6 (fun k hk _ => HnA.out k hk))
  have HnB6 : Hid (∀ k, blkOf (some ⟨w4.heap.size, 0, none⟩) = some k → ¬ x6.M k) := fun k hk hM => by
    rcases hM6 k hM with h | h
    · exact HnB.out k hk h
    · have := HltB.out k hk; omega
  have HnA6 : Hid (∀ k, blkOf A = some k → ¬ x6.M k) := fun k hk hM => by
    rcases hM6 k hM with h | h
    · exact HnA.out k hk h
    · have := HltA.out k hk; omega
  have hwb := dev_write w3 w6 x6 _ hd6 1 _ _ _ _ HB6.out HnB6.out (by have := (Dk.fresh D0).write_len 0 xs; have h0 : (Dk.fresh D0).pend.length = 0 := rfl; omega)
  rw [two9_write D0 _ _ HDl.out HLA.out HLB.out] at hwb
  have Hwb := Lib.hid hwb
  have Hx6 := Lib.hid hx6
  generalize ((Dk.fresh D0).write 0 xs).writeE 1 256 = E2 at *
  clear hwb hx6 hd6 hm6 hM6 Hwa HA HB HnA HnB HltA HltB Hd5
  go_wp2_with fail
  rw [← Hx6.out]
  refine Hwb.out.mono ?_
  rintro e w7 ⟨rfl, x7, hx7, hd7, hm7, _, _⟩
  have HB7 := Lib.hid (HB6.out.mod hm7 (fun k hk _ => HnB6.out k hk))
  have HA7 := Lib.hid (HA6.out.mod hm7 (fun k hk _ => HnA6.out k hk))
  have hrd := mread_ok w3 w7 x7 _ hd7 (by show 2 ≤ D0.length; rw [HDl.out]; omega) rfl
  rw [(two9_read D0 _ _ HDl.out).1, (two9_read D0 _ _ HDl.out).2] at hrd
  have Hrd := Lib.hid hrd
  have Hx7 := Lib.hid hx7
  have HM7 := Lib.hid (Hm3.out.trans hd7.old (fun _ _ h => h))
  clear hrd hx7 hd7 hm7 Hwb HA6 HB6 HnA6 HnB6
  go_wp2_with fail
  rw [← Hx7.out]
  refine Hrd.out.mono ?_
  rintro e w8 ⟨rfl, hm8⟩
  have HM8 := Lib.hid (HM7.out.trans hm8 (fun _ _ h => h))
  have HA8 := Lib.hid (HA7.out.mod hm8 (fun _ _ _ => id))
  have HB8 := Lib.hid (HB7.out.mod hm8 (fun _ _ _ => id))
  clear hm8 Hrd HA7 HB7 HM7
  generalize hV : lastOf xs (fill 0) 2 = V at *
  have HV := Lib.hid hV
  clear hV
  generalize hE : (if V.no = 0 then (3 : Int) else 0) = E at *
  have HE := Lib.hid hE
  clear hE
  have hb9 : InB (w8.alloc (.cells #[.int .i64 V.no, .int .i64 V.ep, .int .i64 V.st, .int .i64 V.ck] 23)) w8.heap.size V := heap_alloc_new _ _
  have Hrr := refRead_ok (w8.alloc (.cells #[.int .i64 V.no, .int .i64 V.ep, .int .i64 V.st, .int .i64 V.ck] 23)) _ _ _ _ _ _ (HA8.out.alloc _) (HB8.out.alloc _) HcA.out HcB.out
  rw [HV.out, HE.out] at Hrr
  have Hrr' := Lib.hid Hrr
  have Hb9 := Lib.hid hb9
  have HM9 := Lib.hid (HM8.out.alloc (.cells #[.int .i64 V.no, .int .i64 V.ep, .int .i64 V.st, .int .i64 V.ck] 23))
  clear Hrr hb9 HA8 HB8 HM8
  generalize hq : w8.heap.size = q at *
  have Hq := Lib.hid hq
  clear hq
  go_wp2_with fail
  rw [Hq.out]
  refine Hrr'.out.mono ?_
  rintro e wA ⟨rfl, hmA⟩
  have hbA := Hb9.out.keep hmA
  obtain ⟨q0, q1, q2, q3⟩ := hbA.bm
  have hqlt := hbA.lt
  have HMA := Lib.hid (HM9.out.trans hmA (fun _ _ h => h))
  clear hbA hmA Hrr' Hb9 HM9
  have hec : ∀ w, (Op.equalIn 10000 23 (.agg #[.int .i64 V.no, .int .i64 V.ep, .int .i64 V.st, .int .i64 V.ck]) (.agg #[.int .i64 V.no, .int .i64 V.ep, .int .i64 V.st, .int .i64 V.ck])).run Try.prog w = .ok true w := fun w => (eq_ms V V w).trans (by rw [eqMs_yes])
  go_wp2
  go_ret
  exact ⟨rfl, (HMA.out.alloc _).below (Nat.le_refl _) (fun _ _ => id)⟩

set_option maxRecDepth 100000 in
set_option maxHeartbeats 1600000 in
theorem reads_ny (A B : Option Addr) (n c d : Nat) (xs ys : List UInt8) (W : World) (hx : Sl W A n c xs) (hy : Sl W B 256 d ys) (hc : c ≤ maxLen) (hd : d ≤ maxLen) (hn : ¬ n = 256) :
    Calls Try.prog 4 #[.slice A n c, .slice B 256 d] W fun e w' => e = .returned (.bool true) ∧ Below W.heap.size W w' := by
  obtain ⟨Z, HZ⟩ : ∃ Z : Array Value, Hid (Z = ((fill 0).map bv).toArray) := ⟨_, rfl⟩
  have hmk : ∀ V : World, (Instr.makeSlice 32 (.int .i64 256) (.int .i64 256)).run Try.prog V = .ok (.slice (some ⟨V.heap.size, 0, none⟩) 256 256) (V.alloc (.cells Z 5)) := by
    intro V
    have := run_makeBytes 256 (by omega) V
    rw [HZ.out]
    rw [show madeCells #[Value.int .u8 0] 256 = ((fill 0).map bv).toArray by
      rw [show (fill 0).map bv = List.replicate 256 (Value.int .u8 0) from List.map_replicate]
      rw [← toList_madeCells_one]] at this
    exact this
  have HX := Lib.hid hx
  have HY := Lib.hid hy
  have HC := Lib.hid hc
  have HD := Lib.hid hd
  have hne0 : ((n : Int) != 256) = true := by rw [bne_iff_ne]; omega
  clear hx hy hc hd
  go_enter Try.func4, Try.ntmps4
  go_wp2_with fail
  refine (awake_ok W).mono ?_
  rintro e w3 ⟨rfl, hm3⟩
  have Hm3 := Lib.hid hm3
  have Hnew := Lib.hid (lm_new w3 w3 (Mod.refl _ w3) 3 (by omega) (by omega))
  clear hm3
  go_wp2_with fail
  refine Hnew.out.mono ?_
  rintro e w4 ⟨x4, rfl, hd4, _⟩
  have Hd4 := Lib.hid hd4
  clear hd4 Hnew
  have HDl : Hid ((List.replicate (Int.toNat 3) (fill 0)).length = 3) := rfl
  generalize List.replicate (Int.toNat 3) (fill 0) = D0 at *
  obtain ⟨w5, hw5⟩ : ∃ w5, w5 = (w4.alloc (.cells Z 5)) := ⟨_, rfl⟩
  have hm5 : Mod (fun _ => False) w4 w5 := by rw [hw5]; exact (Mod.refl _ _).alloc _
  have Hd5 := Lib.hid (Hd4.out.keep hm5)
  have HM5 := Lib.hid (Hm3.out.trans Hd5.out.old (fun _ _ h => h))
  have hsA : Sl w5 (some ⟨w4.heap.size, 0, none⟩) 256 256 (fill 0) := by
    have h1 : (w4.alloc (.cells Z 5)).heap[w4.heap.size]? = some (.cells ((fill 0).map bv).toArray 5 (0, 0)) := by rw [← HZ.out]; exact heap_alloc_new _ _
    have h2 := Sl.lit (fill 0) h1
    rw [fill_len] at h2
    rw [hw5]; exact h2
  have hnA : ∀ k, blkOf (some ⟨w4.heap.size, 0, none⟩) = some k → ¬ x4.M k := fun k hk => by injection hk with hk; subst hk; exact Hd4.out.apart (Nat.le_refl _)
  have hltA : ∀ k, blkOf (some ⟨w4.heap.size, 0, none⟩) = some k → k < w5.heap.size := fun k hk => by injection hk with hk; subst hk; show w4.heap.size < w5.heap.size; rw [hw5]; simp only [World.size_alloc]; omega
  have hsB : Sl w5 B 256 d ys := HY.out.mod HM5.out (fun _ _ _ => id)
  have hltB : ∀ k, blkOf B = some k → k < w5.heap.size := fun k hk => by
    obtain ⟨b, o, rfl, hb⟩ := hsB.lt (by omega)
    have hk' : b = k := by simpa [blkOf] using hk
    omega
  have hnB : ∀ k, blkOf B = some k → ¬ x4.M k := fun k hk hM => by
    obtain ⟨b, o, rfl, hb⟩ := HY.out.lt (by omega)
    have h1 := (Hd5.out.at_.M_lt hM).1
    have h2 := Hm3.out.size
    have hk' : b = k := by simpa [blkOf] using hk
    omega
  have HA := Lib.hid hsA
  have HB := Lib.hid hsB
  have HnA := Lib.hid hnA
  have HnB := Lib.hid hnB
  have HltB := Lib.hid hltB
  have HltA := Lib.hid hltA
  have Hw5 := Lib.hid hw5
  have HLA : Hid (((fill 0) : List UInt8).length = 256) := (fill_len 0)
  have HLB : Hid ((ys : List UInt8).length = 256) := HY.out.len
  have HcA : Hid (256 ≤ maxLen) := by show 256 ≤ maxLen; unfold maxLen; omega
  have HcB : Hid (d ≤ maxLen) := HD.out
  clear hm5 hsA hnA hltA hsB hnB hltB hw5 Hd4
  go_wp2_with fail
  rw [← Hw5.out]
  have Hwa := Lib.hid (dev_write w3 w5 x4 _ Hd5.out 0 _ _ _ _ HA.out HnA.out (Nat.zero_le _))
  generalize (Dk.fresh D0).writeE 0 256 = E1 at *
  refine Hwa.out.mono ?_
  rintro e w6 ⟨rfl, x6, hx6, hd6, hm6, _, hM6⟩
  have HB6 := Lib.hid (HB.out.mod hm6 (fun k hk _ => HnB.out k hk))
  have HA6 := Lib.hid (HA.out.mod hm6 (fun k hk _ => HnA.out k hk))
  have HnB6 : Hid (∀ k, blkOf B = some k → ¬ x6.M k) := fun k hk hM => by
    rcases hM6 k hM with h | h
    · exact HnB.out k hk h
    · have := HltB.out k hk; omega
  have HnA6 : Hid (∀ k, blkOf (some ⟨w4.heap.size, 0, none⟩) = some k → ¬ x6.M k) := fun k hk hM => by
    rcases hM6 k hM with h | h
    · exact HnA.out k hk h
    · have := HltA.out k hk; omega
  have hwb := dev_write w3 w6 x6 _ hd6 1 _ _ _ _ HB6.out HnB6.out (by have := (Dk.fresh D0).write_len 0 (fill 0); have h0 : (Dk.fresh D0).pend.length = 0 := rfl; omega)
  rw [two9_write D0 _ _ HDl.out HLA.out HLB.out] at hwb
  have Hwb := Lib.hid hwb
  have Hx6 := Lib.hid hx6
  generalize ((Dk.fresh D0).write 0 (fill 0)).writeE 1 256 = E2 at *
  clear hwb hx6 hd6 hm6 hM6 Hwa HA HB HnA HnB HltA HltB Hd5
  go_wp2_with fail
  rw [← Hx6.out]
  refine Hwb.out.mono ?_
  rintro e w7 ⟨rfl, x7, hx7, hd7, hm7, _, _⟩
  have HB7 := Lib.hid (HB6.out.mod hm7 (fun k hk _ => HnB6.out k hk))
  have HA7 := Lib.hid (HA6.out.mod hm7 (fun k hk _ => HnA6.out k hk))
  have hrd := mread_ok w3 w7 x7 _ hd7 (by show 2 ≤ D0.length; rw [HDl.out]; omega) rfl
  rw [(two9_read D0 _ _ HDl.out).1, (two9_read D0 _ _ HDl.out).2] at hrd
  have Hrd := Lib.hid hrd
  have Hx7 := Lib.hid hx7
  have HM7 := Lib.hid (Hm3.out.trans hd7.old (fun _ _ h => h))
  clear hrd hx7 hd7 hm7 Hwb HA6 HB6 HnA6 HnB6
  go_wp2_with fail
  rw [← Hx7.out]
  refine Hrd.out.mono ?_
  rintro e w8 ⟨rfl, hm8⟩
  have HM8 := Lib.hid (HM7.out.trans hm8 (fun _ _ h => h))
  have HA8 := Lib.hid (HA7.out.mod hm8 (fun _ _ _ => id))
  have HB8 := Lib.hid (HB7.out.mod hm8 (fun _ _ _ => id))
  clear hm8 Hrd HA7 HB7 HM7
  generalize hV : lastOf (fill 0) ys 2 = V at *
  have HV := Lib.hid hV
  clear hV
  generalize hE : (if V.no = 0 then (3 : Int) else 0) = E at *
  have HE := Lib.hid hE
  clear hE
  have hb9 : InB (w8.alloc (.cells #[.int .i64 V.no, .int .i64 V.ep, .int .i64 V.st, .int .i64 V.ck] 23)) w8.heap.size V := heap_alloc_new _ _
  have Hrr := refRead_ok (w8.alloc (.cells #[.int .i64 V.no, .int .i64 V.ep, .int .i64 V.st, .int .i64 V.ck] 23)) _ _ _ _ _ _ (HA8.out.alloc _) (HB8.out.alloc _) HcA.out HcB.out
  rw [HV.out, HE.out] at Hrr
  have Hrr' := Lib.hid Hrr
  have Hb9 := Lib.hid hb9
  have HM9 := Lib.hid (HM8.out.alloc (.cells #[.int .i64 V.no, .int .i64 V.ep, .int .i64 V.st, .int .i64 V.ck] 23))
  clear Hrr hb9 HA8 HB8 HM8
  generalize hq : w8.heap.size = q at *
  have Hq := Lib.hid hq
  clear hq
  go_wp2_with fail
  rw [Hq.out]
  refine Hrr'.out.mono ?_
  rintro e wA ⟨rfl, hmA⟩
  have hbA := Hb9.out.keep hmA
  obtain ⟨q0, q1, q2, q3⟩ := hbA.bm
  have hqlt := hbA.lt
  have HMA := Lib.hid (HM9.out.trans hmA (fun _ _ h => h))
  clear hbA hmA Hrr' Hb9 HM9
  have hec : ∀ w, (Op.equalIn 10000 23 (.agg #[.int .i64 V.no, .int .i64 V.ep, .int .i64 V.st, .int .i64 V.ck]) (.agg #[.int .i64 V.no, .int .i64 V.ep, .int .i64 V.st, .int .i64 V.ck])).run Try.prog w = .ok true w := fun w => (eq_ms V V w).trans (by rw [eqMs_yes])
  go_wp2
  go_ret
  exact ⟨rfl, (HMA.out.alloc _).below (Nat.le_refl _) (fun _ _ => id)⟩

set_option maxRecDepth 100000 in
set_option maxHeartbeats 1600000 in
theorem reads_nn (A B : Option Addr) (n c m d : Nat) (xs ys : List UInt8) (W : World) (hx : Sl W A n c xs) (hy : Sl W B m d ys) (hc : c ≤ maxLen) (hd : d ≤ maxLen) (hn : ¬ n = 256) (hmm : ¬ m = 256) :
    Calls Try.prog 4 #[.slice A n c, .slice B m d] W fun e w' => e = .returned (.bool true) ∧ Below W.heap.size W w' := by
  obtain ⟨Z, HZ⟩ : ∃ Z : Array Value, Hid (Z = ((fill 0).map bv).toArray) := ⟨_, rfl⟩
  have hmk : ∀ V : World, (Instr.makeSlice 32 (.int .i64 256) (.int .i64 256)).run Try.prog V = .ok (.slice (some ⟨V.heap.size, 0, none⟩) 256 256) (V.alloc (.cells Z 5)) := by
    intro V
    have := run_makeBytes 256 (by omega) V
    rw [HZ.out]
    rw [show madeCells #[Value.int .u8 0] 256 = ((fill 0).map bv).toArray by
      rw [show (fill 0).map bv = List.replicate 256 (Value.int .u8 0) from List.map_replicate]
      rw [← toList_madeCells_one]] at this
    exact this
  have HX := Lib.hid hx
  have HY := Lib.hid hy
  have HC := Lib.hid hc
  have HD := Lib.hid hd
  have hne0 : ((n : Int) != 256) = true := by rw [bne_iff_ne]; omega
  have hne1 : ((m : Int) != 256) = true := by rw [bne_iff_ne]; omega
  clear hx hy hc hd
  go_enter Try.func4, Try.ntmps4
  go_wp2_with fail
  refine (awake_ok W).mono ?_
  rintro e w3 ⟨rfl, hm3⟩
  have Hm3 := Lib.hid hm3
  have Hnew := Lib.hid (lm_new w3 w3 (Mod.refl _ w3) 3 (by omega) (by omega))
  clear hm3
  go_wp2_with fail
  refine Hnew.out.mono ?_
  rintro e w4 ⟨x4, rfl, hd4, _⟩
  have Hd4 := Lib.hid hd4
  clear hd4 Hnew
  have HDl : Hid ((List.replicate (Int.toNat 3) (fill 0)).length = 3) := rfl
  generalize List.replicate (Int.toNat 3) (fill 0) = D0 at *
  obtain ⟨w5, hw5⟩ : ∃ w5, w5 = ((w4.alloc (.cells Z 5)).alloc (.cells Z 5)) := ⟨_, rfl⟩
  have hm5 : Mod (fun _ => False) w4 w5 := by rw [hw5]; exact ((Mod.refl _ _).alloc _).alloc _
  have Hd5 := Lib.hid (Hd4.out.keep hm5)
  have HM5 := Lib.hid (Hm3.out.trans Hd5.out.old (fun _ _ h => h))
  have hsA : Sl w5 (some ⟨w4.heap.size, 0, none⟩) 256 256 (fill 0) := by
    have h1 : (w4.alloc (.cells Z 5)).heap[w4.heap.size]? = some (.cells ((fill 0).map bv).toArray 5 (0, 0)) := by rw [← HZ.out]; exact heap_alloc_new _ _
    have h2 := Sl.lit (fill 0) h1
    rw [fill_len] at h2
    rw [hw5]; exact h2.alloc _
  have hnA : ∀ k, blkOf (some ⟨w4.heap.size, 0, none⟩) = some k → ¬ x4.M k := fun k hk => by injection hk with hk; subst hk; exact Hd4.out.apart (Nat.le_refl _)
  have hltA : ∀ k, blkOf (some ⟨w4.heap.size, 0, none⟩) = some k → k < w5.heap.size := fun k hk => by injection hk with hk; subst hk; show w4.heap.size < w5.heap.size; rw [hw5]; simp only [World.size_alloc]; omega
  have hsB : Sl w5 (some ⟨w4.heap.size + 1, 0, none⟩) 256 256 (fill 0) := by
    have h0 : ((w4.alloc (.cells Z 5)).alloc (.cells Z 5)).heap[(w4.alloc (.cells Z 5)).heap.size]? = some (.cells ((fill 0).map bv).toArray 5 (0, 0)) := by rw [← HZ.out]; exact heap_alloc_new _ _
    have h1 : ((w4.alloc (.cells Z 5)).alloc (.cells Z 5)).heap[w4.heap.size + 1]? = some (.cells ((fill 0).map bv).toArray 5 (0, 0)) := by rw [World.size_alloc] at h0; exact h0
    have h2 := Sl.lit (fill 0) h1
    rw [fill_len] at h2
    rw [hw5]; exact h2
  have hnB : ∀ k, blkOf (some ⟨w4.heap.size + 1, 0, none⟩) = some k → ¬ x4.M k := fun k hk => by injection hk with hk; subst hk; exact Hd4.out.apart (by show w4.heap.size ≤ w4.heap.size + 1; omega)
  have hltB : ∀ k, blkOf (some ⟨w4.heap.size + 1, 0, none⟩) = some k → k < w5.heap.size := fun k hk => by injection hk with hk; subst hk; show w4.heap.size + 1 < w5.heap.size; rw [hw5]; simp only [World.size_alloc]; omega
  have HA := Lib.hid hsA
  have HB := Lib.hid hsB
  have HnA := Lib.hid hnA
  have HnB := Lib.hid hnB
  have HltB := Lib.hid hltB
  have HltA := Lib.hid hltA
  have Hw5 := Lib.hid hw5
  have HLA : Hid (((fill 0) : List UInt8).length = 256) := (fill_len 0)
  have HLB : Hid (((fill 0) : List UInt8).length = 256) := (fill_len 0)
  have HcA : Hid (256 ≤ maxLen) := by show 256 ≤ maxLen; unfold maxLen; omega
  have HcB : Hid (256 ≤ maxLen) := by show 256 ≤ maxLen; unfold maxLen; omega
  clear hm5 hsA hnA hltA hsB hnB hltB hw5 Hd4
  go_wp2_with fail
  rw [← Hw5.out]
  have Hwa := Lib.hid (dev_write w3 w5 x4 _ Hd5.out 0 _ _ _ _ HA.out HnA.out (Nat.zero_le _))
  generalize (Dk.fresh D0).writeE 0 256 = E1 at *
  refine Hwa.out.mono ?_
  rintro e w6 ⟨rfl, x6, hx6, hd6, hm6, _, hM6⟩
  have HB6 := Lib.hid (HB.out.mod hm6 (fun k hk _ => HnB.out k hk))
  have HA6 := Lib.hid (HA.out.mod hm6 (fun k hk _ => HnA.out k hk))
  have HnB6 : Hid (∀ k, blkOf (some ⟨w4.heap.size + 1, 0, none⟩) = some k → ¬ x6.M k) := fun k hk hM => by
    rcases hM6 k hM with h | h
    · exact HnB.out k hk h
    · have := HltB.out k hk; omega
  have HnA6 : Hid (∀ k, blkOf (some ⟨w4.heap.size, 0, none⟩) = some k → ¬ x6.M k) := fun k hk hM => by
    rcases hM6 k hM with h | h
    · exact HnA.out k hk h
    · have := HltA.out k hk; omega
  have hwb := dev_write w3 w6 x6 _ hd6 1 _ _ _ _ HB6.out HnB6.out (by have := (Dk.fresh D0).write_len 0 (fill 0); have h0 : (Dk.fresh D0).pend.length = 0 := rfl; omega)
  rw [two9_write D0 _ _ HDl.out HLA.out HLB.out] at hwb
  have Hwb := Lib.hid hwb
  have Hx6 := Lib.hid hx6
  generalize ((Dk.fresh D0).write 0 (fill 0)).writeE 1 256 = E2 at *
  clear hwb hx6 hd6 hm6 hM6 Hwa HA HB HnA HnB HltA HltB Hd5
  go_wp2_with fail
  rw [← Hx6.out]
  refine Hwb.out.mono ?_
  rintro e w7 ⟨rfl, x7, hx7, hd7, hm7, _, _⟩
  have HB7 := Lib.hid (HB6.out.mod hm7 (fun k hk _ => HnB6.out k hk))
  have HA7 := Lib.hid (HA6.out.mod hm7 (fun k hk _ => HnA6.out k hk))
  have hrd := mread_ok w3 w7 x7 _ hd7 (by show 2 ≤ D0.length; rw [HDl.out]; omega) rfl
  rw [(two9_read D0 _ _ HDl.out).1, (two9_read D0 _ _ HDl.out).2] at hrd
  have Hrd := Lib.hid hrd
  have Hx7 := Lib.hid hx7
  have HM7 := Lib.hid (Hm3.out.trans hd7.old (fun _ _ h => h))
  clear hrd hx7 hd7 hm7 Hwb HA6 HB6 HnA6 HnB6
  go_wp2_with fail
  rw [← Hx7.out]
  refine Hrd.out.mono ?_
  rintro e w8 ⟨rfl, hm8⟩
  have HM8 := Lib.hid (HM7.out.trans hm8 (fun _ _ h => h))
  have HA8 := Lib.hid (HA7.out.mod hm8 (fun _ _ _ => id))
  have HB8 := Lib.hid (HB7.out.mod hm8 (fun _ _ _ => id))
  clear hm8 Hrd HA7 HB7 HM7
  generalize hV : lastOf (fill 0) (fill 0) 2 = V at *
  have HV := Lib.hid hV
  clear hV
  generalize hE : (if V.no = 0 then (3 : Int) else 0) = E at *
  have HE := Lib.hid hE
  clear hE
  have hb9 : InB (w8.alloc (.cells #[.int .i64 V.no, .int .i64 V.ep, .int .i64 V.st, .int .i64 V.ck] 23)) w8.heap.size V := heap_alloc_new _ _
  have Hrr := refRead_ok (w8.alloc (.cells #[.int .i64 V.no, .int .i64 V.ep, .int .i64 V.st, .int .i64 V.ck] 23)) _ _ _ _ _ _ (HA8.out.alloc _) (HB8.out.alloc _) HcA.out HcB.out
  rw [HV.out, HE.out] at Hrr
  have Hrr' := Lib.hid Hrr
  have Hb9 := Lib.hid hb9
  have HM9 := Lib.hid (HM8.out.alloc (.cells #[.int .i64 V.no, .int .i64 V.ep, .int .i64 V.st, .int .i64 V.ck] 23))
  clear Hrr hb9 HA8 HB8 HM8
  generalize hq : w8.heap.size = q at *
  have Hq := Lib.hid hq
  clear hq
  go_wp2_with fail
  rw [Hq.out]
  refine Hrr'.out.mono ?_
  rintro e wA ⟨rfl, hmA⟩
  have hbA := Hb9.out.keep hmA
  obtain ⟨q0, q1, q2, q3⟩ := hbA.bm
  have hqlt := hbA.lt
  have HMA := Lib.hid (HM9.out.trans hmA (fun _ _ h => h))
  clear hbA hmA Hrr' Hb9 HM9
  have hec : ∀ w, (Op.equalIn 10000 23 (.agg #[.int .i64 V.no, .int .i64 V.ep, .int .i64 V.st, .int .i64 V.ck]) (.agg #[.int .i64 V.no, .int .i64 V.ep, .int .i64 V.st, .int .i64 V.ck])).run Try.prog w = .ok true w := fun w => (eq_ms V V w).trans (by rw [eqMs_yes])
  go_wp2
  go_ret
  exact ⟨rfl, (HMA.out.alloc _).below (Nat.le_refl _) (fun _ _ => id)⟩

theorem reads_walk (A B : Option Addr) (n c m d : Nat) (xs ys : List UInt8) (W : World) (hx : Sl W A n c xs) (hy : Sl W B m d ys) (hc : c ≤ maxLen) (hd : d ≤ maxLen) :
    Calls Try.prog 4 #[.slice A n c, .slice B m d] W fun e w' => e = .returned (.bool true) ∧ Below W.heap.size W w' := by
  by_cases hn : n = 256
  · subst hn
    by_cases hm : m = 256
    · subst hm; exact reads_yy A B c d xs ys W hx hy hc hd
    · exact reads_yn A B c m d xs ys W hx hy hc hd hm
  · by_cases hm : m = 256
    · subst hm; exact reads_ny A B n c d xs ys W hx hy hc hd hn
    · exact reads_nn A B n c m d xs ys W hx hy hc hd hn hm
end Go.Proofs.Ytkigpicjhklioaa
