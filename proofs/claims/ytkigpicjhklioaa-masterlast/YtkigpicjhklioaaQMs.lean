/-
  The contract of master.sealed.
-/
import Derived.Test.YtkigpicjhklioaaQMa
import Derived.Deep.RegionHeld3
namespace Go.Proofs.Ytkigpicjhklioaa
open Go Go.RowKit

/-- A master's numbers, as the document has them. -/
def payl (m : Ms) : List UInt8 := le 4 m.no.toNat ++ le 4 m.ep.toNat ++ le 4 m.st.toNat ++ le 4 m.ck.toNat
theorem payl_len (m : Ms) : (payl m).length = 16 := by simp [payl, le_length]
/-- A master's sector. -/
def secM (m : Ms) : List UInt8 := secOf m.no (payl m)
theorem secM_len (m : Ms) : (secM m).length = 256 := secOf_len _ _ (by rw [payl_len]; omega)

/-- One more number. -/
theorem Wr.put4 {w3 w : World} {gw : Nat} {A : Option Addr} {m c : Nat} {xs : List UInt8} (h : Wr w gw gw A m c xs) (hm : Mod (WF gw none) w3 w) (hh : Hence w3 none A) (hb : m ≤ 900000) (n : Int) (hn0 : 0 ≤ n) (hn : n ≤ 4294967295) :
    Calls Try.prog 42 #[.pointer (some ⟨gw, 0, none⟩), .int .i64 n, .int .i64 4] w fun e w' => e = .returned (.int .i64 0) ∧
      ∃ A' c', Wr w' gw gw A' (m + 4) c' (xs ++ le 4 n.toNat) ∧ Mod (WF gw none) w3 w' ∧ Hence w3 none A' := by
  refine (put_ok4 w gw gw A m c xs h hb n hn0 (by omega)).mono ?_
  rintro e w' ⟨rfl, A', c', h1, h2, h3⟩
  exact ⟨rfl, A', c', h1, hm.trans h2 hh.wf, hh.trans hm.size h3⟩

set_option maxRecDepth 100000 in
set_option maxHeartbeats 1600000 in
theorem sealed_ok (w : World) (m : Ms) (hm : m.May) :
    Calls Try.prog 28 #[.agg #[.int .i64 m.no, .int .i64 m.ep, .int .i64 m.st, .int .i64 m.ck]] w fun e w' => ∃ g, e = .returned (.slice (some ⟨g, 0, none⟩) 256 256) ∧ Sec w w' g (secM m) := by
  obtain ⟨n1, n2, e1, e2, s1, s2, k1, k2⟩ := hm
  have HB : Hid (0 ≤ m.no ∧ m.no ≤ 4294967295 ∧ 0 ≤ m.ep ∧ m.ep ≤ 4294967295 ∧ 0 ≤ m.st ∧ m.st ≤ 4294967295 ∧ 0 ≤ m.ck ∧ m.ck ≤ 4294967295) := ⟨by omega, by omega, by omega, by omega, by omega, by omega, by omega, by omega⟩
  clear n1 n2 e1 e2 s1 s2 k1 k2
  obtain ⟨w3, hw3⟩ : ∃ w3, w3 = ((w.alloc (.cells #[.int .i64 m.no, .int .i64 m.ep, .int .i64 m.st, .int .i64 m.ck] 23)).alloc (.cells #[.slice none 0 0] 80)).alloc (.cells #[.int .i64 m.no, .int .i64 m.ep, .int .i64 m.st, .int .i64 m.ck] 3) := ⟨_, rfl⟩
  have hM3 : Mod (fun _ => False) w w3 := by rw [hw3]; exact (((Mod.refl _ w).alloc _).alloc _).alloc _
  have hs3 : w3.heap.size = w.heap.size + 3 := by rw [hw3]; simp only [World.size_alloc]
  have hb0 : w3.heap[w.heap.size]? = some (.cells #[.int .i64 m.no, .int .i64 m.ep, .int .i64 m.st, .int .i64 m.ck] 23 (0, 0)) := by
    rw [hw3, Below.heap_alloc _ _ _ (by simp only [World.size_alloc]; omega), Below.heap_alloc _ _ _ (by simp only [World.size_alloc]; omega)]
    exact heap_alloc_new w _
  have hb1 : w3.heap[w.heap.size + 1]? = some (.cells #[.slice none 0 0] 80 (0, 0)) := by
    rw [hw3, Below.heap_alloc _ _ _ (by simp only [World.size_alloc]; omega)]
    have := heap_alloc_new (w.alloc (.cells #[.int .i64 m.no, .int .i64 m.ep, .int .i64 m.st, .int .i64 m.ck] 23)) (.cells #[.slice none 0 0] 80)
    simpa using this
  have hb2 : w3.heap[w.heap.size + 1 + 1]? = some (.cells #[.int .i64 m.no, .int .i64 m.ep, .int .i64 m.st, .int .i64 m.ck] 3 (0, 0)) := by
    have := heap_alloc_new ((w.alloc (.cells #[.int .i64 m.no, .int .i64 m.ep, .int .i64 m.st, .int .i64 m.ck] 23)).alloc (.cells #[.slice none 0 0] 80)) (.cells #[.int .i64 m.no, .int .i64 m.ep, .int .i64 m.st, .int .i64 m.ck] 3)
    rw [hw3]
    simpa using this
  have hW3 : Wr w3 (w.heap.size + 1) (w.heap.size + 1) none 0 0 [] := ⟨Nat.le_refl _, hb1, OwV.nil _ _ _⟩
  go_enter Try.func28, Try.ntmps28
  go_wp2_with fail
  rw [← hw3]
  have HM3 := Lib.hid hM3
  have HW3 := Lib.hid hW3
  have Hs3 := Lib.hid hs3
  generalize hz : w.heap.size = z at *
  have Hz := Lib.hid hz
  have Hc : Hid (∀ W, Mod (WF (z + 1) none) w3 W → W.cell? ⟨z, 0, none⟩ = some (.int .i64 m.no) ∧ W.cell? ⟨z + 1 + 1, 0, none⟩ = some (.int .i64 m.no) ∧ W.cell? ⟨z + 1 + 1, 1, none⟩ = some (.int .i64 m.ep) ∧ W.cell? ⟨z + 1 + 1, 2, none⟩ = some (.int .i64 m.st) ∧ W.cell? ⟨z + 1 + 1, 3, none⟩ = some (.int .i64 m.ck)) := by
    intro W hW
    have hn : ∀ k, k ≠ z + 1 → ¬ WF (z + 1) none k := by
      rintro k hk (h | h)
      · exact hk h
      · simp [blkOf] at h
    have e0 := hW.block z (by omega) (hn _ (by omega))
    have e2 := hW.block (z + 1 + 1) (by omega) (hn _ (by omega))
    rw [hb0] at e0
    rw [hb2] at e2
    refine ⟨?_, ?_, ?_, ?_, ?_⟩
    · rw [cell_of_row _ _ _ _ _ _ e0]; rfl
    all_goals rw [cell_of_row _ _ _ _ _ _ e2]; rfl
  clear hw3 hM3 hs3 hb0 hb1 hb2 hW3 hz
  obtain ⟨_, q0, q1, q2, q3⟩ := Hc.out w3 (Mod.refl _ _)
  refine wp_loop_rounds 5 ?_
  rw [rounds_succ]
  go_wp2_with fail
  refine (Wr.put4 HW3.out (Mod.refl _ _) (.inl rfl) (by omega) m.no HB.out.1 HB.out.2.1).mono ?_
  rintro e w4 ⟨rfl, A4, c4, hW4, hM4, hH4⟩
  obtain ⟨_, q0, q1, q2, q3⟩ := Hc.out w4 hM4
  have HW4 := Lib.hid hW4
  have HM4 := Lib.hid hM4
  have HH4 := Lib.hid hH4
  clear hW4 hM4 hH4 HW3
  go_wp2_with fail
  rw [rounds_succ]
  go_wp2_with fail
  refine (Wr.put4 HW4.out HM4.out HH4.out (by omega) m.ep HB.out.2.2.1 HB.out.2.2.2.1).mono ?_
  rintro e w5 ⟨rfl, A5, c5, hW5, hM5, hH5⟩
  obtain ⟨_, q0, q1, q2, q3⟩ := Hc.out w5 hM5
  have HW5 := Lib.hid hW5
  have HM5 := Lib.hid hM5
  have HH5 := Lib.hid hH5
  clear hW5 hM5 hH5 HW4 HM4 HH4
  go_wp2_with fail
  rw [rounds_succ]
  go_wp2_with fail
  refine (Wr.put4 HW5.out HM5.out HH5.out (by omega) m.st HB.out.2.2.2.2.1 HB.out.2.2.2.2.2.1).mono ?_
  rintro e w6 ⟨rfl, A6, c6, hW6, hM6, hH6⟩
  obtain ⟨_, q0, q1, q2, q3⟩ := Hc.out w6 hM6
  have HW6 := Lib.hid hW6
  have HM6 := Lib.hid hM6
  have HH6 := Lib.hid hH6
  clear hW6 hM6 hH6 HW5 HM5 HH5
  go_wp2_with fail
  rw [rounds_succ]
  go_wp2_with fail
  refine (Wr.put4 HW6.out HM6.out HH6.out (by omega) m.ck HB.out.2.2.2.2.2.2.1 HB.out.2.2.2.2.2.2.2).mono ?_
  rintro e w7 ⟨rfl, A7, c7, hW7, hM7, hH7⟩
  obtain ⟨r0, q0, q1, q2, q3⟩ := Hc.out w7 hM7
  have hW7 : Wr w7 (z + 1) (z + 1) A7 16 c7 (payl m) := by simpa [payl] using hW7
  have HW7 := Lib.hid hW7
  have HM7 := Lib.hid hM7
  clear hW7 hM7 hH7 HW6 HM6 HH6
  go_wp2_with fail
  rw [rounds_succ]
  go_wp2_with fail
  have HM7d : Hid (Mod (fun _ => False) w7 w7.drew) := (Mod.refl _ w7).drew
  have Hby : Hid (∀ W, Mod (fun _ => False) w7 W → Calls Try.prog 44 #[.pointer (some ⟨z + 1, 0, none⟩)] W fun e w' => ∃ b, e = .returned (.slice (some ⟨b, 0, none⟩) 16 16) ∧ Sl w' (some ⟨b, 0, none⟩) 16 16 (payl m) ∧ Mod (fun _ => False) w7 w') := by
    intro W hW
    refine (bytes_ok W _ _ _ _ _ _ (HW7.out.mod hW id (fun _ _ => id)) (by omega)).mono ?_
    rintro e w' ⟨rfl, hF⟩
    have hs := Sl.lit (payl m) hF.1
    rw [payl_len] at hs
    exact ⟨_, rfl, hs, hW.trans hF.2.2 (fun _ _ h => h)⟩
  have Hsl : Hid (∀ W b, Mod (fun _ => False) w7 W → Sl W (some ⟨b, 0, none⟩) 16 16 (payl m) → Calls Try.prog 43 #[.int .i64 m.no, .slice (some ⟨b, 0, none⟩) 16 16] W fun e w' => ∃ g, e = .returned (.tuple #[.slice (some ⟨g, 0, none⟩) 256 256, .int .i64 0]) ∧ Sec W w' g (secM m) ∧ Mod (fun _ => False) w7 w') := by
    intro W b hW hS
    refine (seal_ok W m.no _ 16 16 _ hS HB.out.1 HB.out.2.1 (by omega)).mono ?_
    rintro e w' ⟨g, rfl, hs⟩
    exact ⟨g, rfl, hs, hW.trans hs.2.2 (fun _ _ h => h)⟩
  have Hl : Hid (∀ W, Mod (fun _ => False) w7 W → W.cell? ⟨z, 0, none⟩ = some (.int .i64 m.no)) := fun W hW => (Hc.out W (HM7.out.trans hW (fun _ _ h => h.elim))).1
  clear Hc q0 q1 q2 q3
  go_region_held3 (fun w' => w'.cell? ⟨z, 0, none⟩ = some (.int .i64 m.no)) (first | exact r0 | exact Hl.out _ hm8 | exact Hl.out _ hm9) (first | (go_at_call 44; refine (Hby.out _ HM7d.out).mono ?_; rintro e w8 ⟨b8, rfl, hs8, hm8⟩) | (go_at_call 43; refine (Hsl.out _ _ hm8 hs8).mono ?_; rintro e w9 ⟨g9, rfl, hs9, hm9⟩))
  have hM9 : Mod (fun _ => False) w w9 := by
    refine (HM3.out.trans ((HM7.out).trans hm9 (F := WF (z + 1) none) (fun _ _ h => h.elim)) (fun k hk h => ?_))
    rcases h with h | h
    · subst h; rw [Hz.out] at hk; omega
    · simp [blkOf] at h
  have hg9 : w.heap.size ≤ g9 := by
    have h1 := hs9.1
    have h2 := hm8.size
    have h3 := HM7.out.size
    have h4 := Hs3.out
    have h5 := Hz.out
    omega
  have HG : Hid (Sec w w9 g9 (secM m)) := ⟨hg9, hs9.2.1, hM9⟩
  clear hM9 hg9 hs9 hs8 hm8 hm9 Hby Hsl Hl
  go_wp2
  go_ret
  exact ⟨g9, rfl, HG.out⟩
end Go.Proofs.Ytkigpicjhklioaa
