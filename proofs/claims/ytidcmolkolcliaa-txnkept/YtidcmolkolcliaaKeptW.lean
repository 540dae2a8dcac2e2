/-
  The law TxnKept: its walk.
-/
import Derived.Test.YtidcmolkolcliaaX16
import Derived.Test.YtidcmolkolcliaaX13
import Derived.Test.YtidcmolkolcliaaX12
import Derived.Test.YtidcmolkolcliaaX11
namespace Go.Proofs.Ytidcmolkolcliaa
open Go Go.RowKit

set_option maxRecDepth 100000 in
set_option maxHeartbeats 3200000 in
theorem kept_walk (w : World) (A : Option Addr) (n c : Nat) (l : List TxD) (hl : Xs w A n c l) (page : Int) (v : VlD) (hv : v.At w) :
    Calls Try.prog 4 #[.slice A n c, .int .i64 page, .agg #[.bool v.is, .slice v.B v.m v.d]] w fun e w' => e = .returned (.bool true) ∧ Below w.heap.size w w' := by
  have HX := Lib.hid hl
  have Hll := Lib.hid hl.len
  have hcap := hl.cap
  have HV := Lib.hid hv
  obtain ⟨w1, hw1⟩ : ∃ w1, w.alloc (.cells #[.bool v.is, .slice v.B v.m v.d] 28) = w1 := ⟨_, rfl⟩
  have HM1 : Hid (Mod (fun _ => False) w w1) := by rw [← hw1]; exact (Mod.refl _ w).alloc _
  have hi1 : w1.heap[w.heap.size]? = some (.cells #[.bool v.is, .slice v.B v.m v.d] 28 (0, 0)) := by rw [← hw1]; exact heap_alloc_new w _
  have hz1 : w.heap.size < w1.heap.size := by rw [← hw1]; simp
  have HB : Hid (∀ V, Mod (fun _ => False) w1 V → V.cell? ⟨w.heap.size, 0, none⟩ = some (.bool v.is) ∧ V.cell? ⟨w.heap.size, 1, none⟩ = some (.slice v.B v.m v.d)) := fun V hV => by
    have hi := (hV.block _ hz1 (fun h => h)).trans hi1
    exact ⟨by rw [cell_of_row _ _ _ _ _ _ hi]; rfl, by rw [cell_of_row _ _ _ _ _ _ hi]; rfl⟩
  have HAw := Lib.hid (awake_ok w1)
  have HEnd : Hid (∀ V, Mod (fun _ => False) w1 V → Below w.heap.size w V) := fun V hV => (HM1.out.trans hV (fun _ _ h => h)).below (Nat.le_refl _) (fun _ _ h => h)
  clear hl hv hi1 hz1
  by_cases k0 : (20 : Int) < (n : Int)
  · have e0 : decide ((20 : Int) < (n : Int)) = true := decide_eq_true k0
    have e0' : decide (20 < n) = true := decide_eq_true (by omega)
    clear k0
    go_enter Try.func4, Try.ntmps4
    go_wp2_with fail
    refine HAw.out.mono ?_
    rintro e w2 ⟨rfl, hm⟩
    have HM2 := Lib.hid hm
    have c := HB.out _ hm
    obtain ⟨c0, c1⟩ := c
    clear hm hw1
    go_wp2
    go_ret
    exact ⟨rfl, HEnd.out _ HM2.out⟩
  have e0 : decide ((20 : Int) < (n : Int)) = false := decide_eq_false k0
  have e0' : decide (20 < n) = false := decide_eq_false (by omega)
  have hn20 : n ≤ 20 := by omega
  clear k0
  by_cases k1 : (100 : Int) < (v.m : Int)
  · have e1 : decide ((100 : Int) < (v.m : Int)) = true := decide_eq_true k1
    have e1' : decide (100 < v.m) = true := decide_eq_true (by omega)
    clear k1
    go_enter Try.func4, Try.ntmps4
    go_wp2_with fail
    refine HAw.out.mono ?_
    rintro e w2 ⟨rfl, hm⟩
    have HM2 := Lib.hid hm
    have c := HB.out _ hm
    obtain ⟨c0, c1⟩ := c
    clear hm hw1
    go_wp2
    go_ret
    exact ⟨rfl, HEnd.out _ HM2.out⟩
  have e1 : decide ((100 : Int) < (v.m : Int)) = false := decide_eq_false k1
  have e1' : decide (100 < v.m) = false := decide_eq_false (by omega)
  have Hvm : Hid (v.m ≤ 100) := by show _ ≤ _; omega
  clear k1
  go_enter Try.func4, Try.ntmps4
  go_wp2_with fail
  refine HAw.out.mono ?_
  rintro e w2 ⟨rfl, hm⟩
  have HM2 := Lib.hid hm
  have c := HB.out _ hm
  obtain ⟨c0, c1⟩ := c
  clear hm hw1
  go_wp2_with fail
  clear e0 e1 e0' e1' c0 c1
  go_loopw [8] (fun k wr => ∃ i : Nat, k = .int .i64 i ∧ i ≤ n ∧ (∀ j x, j < i → l[j]? = some x → smallT x.p) ∧ Mod (fun _ => False) w1 wr) (fun k _ => n - (intOf k).toNat)
  case atStart => exact ⟨0, rfl, by omega, fun j _ hj => by omega, HM2.out⟩
  case round =>
    obtain ⟨i, rfl, hi, hs, hm⟩ := hrel
    have HS := Lib.hid hs
    have HM := Lib.hid hm
    clear hs hm
    by_cases hlt : i < n
    · obtain ⟨x, hx⟩ : ∃ x, l[i]? = some x := ⟨_, List.getElem?_eq_getElem (by rw [Hll.out]; exact hlt)⟩
      have hxr := HX.out.keep (HM1.out.trans HM.out (fun _ _ h => h))
      obtain ⟨b, o, hA, hcs⟩ := hxr.cells (by omega)
      obtain ⟨s0, s1, s2, s3, s4, s5⟩ := hcs i x hx
      have HL := Lib.hid (rlight_ok wr x (hxr.ats x (List.mem_of_getElem? hx)))
      have HS2 : Hid (ltB x.p = true → ∀ j y, j < i + 1 → l[j]? = some y → smallT y.p) := fun hlx j y hj hy => by
        rcases Nat.lt_or_ge j i with h | h
        · exact HS.out j y h hy
        · obtain rfl : j = i := by omega
          rw [hx] at hy
          have e := Option.some.inj hy
          rw [← e]
          exact ltB_small hlx
      have l1 : i < c := by omega
      rw [hA]
      clear hcs hA hxr hx
      generalize ltB x.p = b1 at *
      cases b1 with
      | false =>
        go_wp2_with fail
        refine HL.out.mono ?_
        rintro e w3 ⟨rfl, hm⟩
        have HM3 := Lib.hid (HM.out.trans hm (fun _ _ h => h))
        clear hm s0 s1 s2 s3 s4 s5
        go_wp2
        go_ret
        exact ⟨rfl, HEnd.out _ HM3.out⟩
      | true =>
        go_wp2_with fail
        refine HL.out.mono ?_
        rintro e w3 ⟨rfl, hm⟩
        have HM3 := Lib.hid (HM.out.trans hm (fun _ _ h => h))
        clear hm s0 s1 s2 s3 s4 s5
        go_wp2
        go_roundw
        case rel => exact ⟨i + 1, by go_num, by omega, HS2.out trivial, HM3.out⟩
        case measure => simp [intOf]; omega
    · obtain rfl : i = n := by omega
      have hsm : ∀ t ∈ l, smallT t.p := fun t ht => by
        obtain ⟨j, hj⟩ := List.mem_iff_getElem?.1 ht
        exact HS.out j t (by have := (List.getElem?_eq_some_iff.1 hj).1; rw [Hll.out] at this; exact this) hj
      have hn1 : i ≤ 1000 := by omega
      have HK1 := Lib.hid (fun V (hV : Mod (fun _ => False) w1 V) => kept_ok V A i c l (HX.out.keep (HM1.out.trans hV (fun _ _ h => h))) hn1 hsm page)
      have HK2 := Lib.hid (fun V (hV : Mod (fun _ => False) w1 V) => rkept_ok V A i c l (HX.out.keep (HM1.out.trans hV (fun _ _ h => h))) hn1 hsm page)
      have HZ1 := Lib.hid (fun V (hV : Mod (fun _ => False) w1 V) => size_ok V v (HV.out.keep (HM1.out.trans hV (fun _ _ h => h))).len (by have := Hvm.out; omega))
      have HZ2 := Lib.hid (fun V (hV : Mod (fun _ => False) w1 V) => rsize_ok V v (HV.out.keep (HM1.out.trans hV (fun _ _ h => h))).len (by have := Hvm.out; omega))
      have HD : Hid (Mod (fun _ => False) w1 wr.drew) := HM.out.trans ((Mod.refl _ wr).drew) (fun _ _ h => h)
      clear hsm hn1
      go_wp2_with fail
      refine wp_region_held (S := (fun V : World => V.cell? ⟨w.heap.size, 0, none⟩ = some (.bool v.is) ∧ V.cell? ⟨w.heap.size, 1, none⟩ = some (.slice v.B v.m v.d))) (by kernel_rfl) ?_
      have hI := (show (fun V : World => V.cell? ⟨w.heap.size, 0, none⟩ = some (.bool v.is) ∧ V.cell? ⟨w.heap.size, 1, none⟩ = some (.slice v.B v.m v.d)) _ from HB.out _ HD.out)
      refine rg_take (n := 14) (v := ?_) 0 (some 38) rfl rfl (by kernel_rfl) (by kernel_rfl) (by kernel_rfl) (fun _ _ _ h => h) (by rfl) hI ?_ ?_
      rotate_left
      · ((intro w hSw; (try dsimp only at hSw); go_simp); (try with_reducible rfl))
      try simp only [Act.put, List.setIfInBounds_toArray, List.set_cons_zero, List.set_cons_succ]
      refine rg_take (n := 13) (v := ?_) 1 (some 39) rfl rfl (by kernel_rfl) (by kernel_rfl) (by kernel_rfl) (fun _ _ _ h => h) (by rfl) hI ?_ ?_
      rotate_left
      · ((intro w hSw; (try dsimp only at hSw); go_simp); (try with_reducible rfl))
      try simp only [Act.put, List.setIfInBounds_toArray, List.set_cons_zero, List.set_cons_succ]
      refine rg_take (n := 12) (v := ?_) 3 (some 41) rfl rfl (by kernel_rfl) (by kernel_rfl) (by kernel_rfl) (fun _ _ _ h => h) (by rfl) hI ?_ ?_
      rotate_left
      · ((intro w hSw; (try dsimp only at hSw); go_simp); (try with_reducible rfl))
      try simp only [Act.put, List.setIfInBounds_toArray, List.set_cons_zero, List.set_cons_succ]
      refine rg_take (n := 11) (v := ?_) 4 (some 42) rfl rfl (by kernel_rfl) (by kernel_rfl) (by kernel_rfl) (fun _ _ _ h => h) (by rfl) hI ?_ ?_
      rotate_left
      · ((intro w hSw; (try dsimp only at hSw); go_simp); (try with_reducible rfl))
      try simp only [Act.put, List.setIfInBounds_toArray, List.set_cons_zero, List.set_cons_succ]
      refine rg_one (n := 10) 2 rfl (by kernel_rfl) (by rfl) ?_
      go_simp
      go_at_call 25
      refine (HK1.out _ HD.out).mono ?_
      rintro e v1 ⟨rfl, hm⟩
      have N1 := Lib.hid (HD.out.trans hm (fun _ _ h => h))
      clear hm
      clear hI
      have hI := (show (fun V : World => V.cell? ⟨w.heap.size, 0, none⟩ = some (.bool v.is) ∧ V.cell? ⟨w.heap.size, 1, none⟩ = some (.slice v.B v.m v.d)) _ from HB.out _ N1.out)
      refine ⟨hI, ?_⟩
      try simp only [Act.put, List.setIfInBounds_toArray, List.set_cons_zero, List.set_cons_succ]
      refine rg_one (n := 9) 5 rfl (by kernel_rfl) (by rfl) ?_
      go_simp
      go_at_call 26
      refine (HK2.out _ N1.out).mono ?_
      rintro e v2 ⟨rfl, hm⟩
      have N2 := Lib.hid (N1.out.trans hm (fun _ _ h => h))
      clear hm
      clear hI
      have hI := (show (fun V : World => V.cell? ⟨w.heap.size, 0, none⟩ = some (.bool v.is) ∧ V.cell? ⟨w.heap.size, 1, none⟩ = some (.slice v.B v.m v.d)) _ from HB.out _ N2.out)
      refine ⟨hI, ?_⟩
      try simp only [Act.put, List.setIfInBounds_toArray, List.set_cons_zero, List.set_cons_succ]
      refine rg_take (n := 8) (v := ?_) 6 (some 44) rfl rfl (by kernel_rfl) (by kernel_rfl) (by kernel_rfl) (fun _ _ _ h => h) (by rfl) hI ?_ ?_
      rotate_left
      · ((intro w hSw; (try dsimp only at hSw); go_simp); (try with_reducible rfl))
      try simp only [Act.put, List.setIfInBounds_toArray, List.set_cons_zero, List.set_cons_succ]
      refine rg_take (n := 7) (v := ?_) 7 (some 45) rfl rfl (by kernel_rfl) (by kernel_rfl) (by kernel_rfl) (fun _ _ _ h => h) (by rfl) hI ?_ ?_
      rotate_left
      · ((intro w hSw; (try dsimp only at hSw); go_simp); (try with_reducible rfl))
      try simp only [Act.put, List.setIfInBounds_toArray, List.set_cons_zero, List.set_cons_succ]
      refine rg_take (n := 6) (v := ?_) 8 (some 46) rfl rfl (by kernel_rfl) (by kernel_rfl) (by kernel_rfl) (fun _ _ _ h => h) (by rfl) hI ?_ ?_
      rotate_left
      · ((intro w hSw; (try dsimp only at hSw); go_simp); (try with_reducible rfl))
      try simp only [Act.put, List.setIfInBounds_toArray, List.set_cons_zero, List.set_cons_succ]
      refine rg_take (n := 5) (v := ?_) 10 (some 48) rfl rfl (by kernel_rfl) (by kernel_rfl) (by kernel_rfl) (fun _ _ _ h => h) (by rfl) hI ?_ ?_
      rotate_left
      · ((intro w hSw; (try dsimp only at hSw); go_simp); (try with_reducible rfl))
      try simp only [Act.put, List.setIfInBounds_toArray, List.set_cons_zero, List.set_cons_succ]
      refine rg_one (n := 4) 9 rfl (by kernel_rfl) (by rfl) ?_
      go_simp
      go_at_call 27
      refine (HZ1.out _ N2.out).mono ?_
      rintro e v3 ⟨rfl, hm⟩
      have N3 := Lib.hid (N2.out.trans hm (fun _ _ h => h))
      clear hm
      clear hI
      have hI := (show (fun V : World => V.cell? ⟨w.heap.size, 0, none⟩ = some (.bool v.is) ∧ V.cell? ⟨w.heap.size, 1, none⟩ = some (.slice v.B v.m v.d)) _ from HB.out _ N3.out)
      refine ⟨hI, ?_⟩
      try simp only [Act.put, List.setIfInBounds_toArray, List.set_cons_zero, List.set_cons_succ]
      refine rg_one (n := 3) 11 rfl (by kernel_rfl) (by rfl) ?_
      go_simp
      go_at_call 28
      refine (HZ2.out _ N3.out).mono ?_
      rintro e v4 ⟨rfl, hm⟩
      have N4 := Lib.hid (N3.out.trans hm (fun _ _ h => h))
      clear hm
      clear hI
      have hI := (show (fun V : World => V.cell? ⟨w.heap.size, 0, none⟩ = some (.bool v.is) ∧ V.cell? ⟨w.heap.size, 1, none⟩ = some (.slice v.B v.m v.d)) _ from HB.out _ N4.out)
      refine ⟨hI, ?_⟩
      try simp only [Act.put, List.setIfInBounds_toArray, List.set_cons_zero, List.set_cons_succ]
      refine rg_take (n := 2) (v := ?_) 12 (some 50) rfl rfl (by kernel_rfl) (by kernel_rfl) (by kernel_rfl) (fun _ _ _ h => h) (by rfl) hI ?_ ?_
      rotate_left
      · ((intro w hSw; (try dsimp only at hSw); go_simp); (try with_reducible rfl))
      try simp only [Act.put, List.setIfInBounds_toArray, List.set_cons_zero, List.set_cons_succ]
      refine rg_take (n := 1) (v := ?_) 13 (some 51) rfl rfl (by kernel_rfl) (by kernel_rfl) (by kernel_rfl) (fun _ _ _ h => h) (by rfl) hI ?_ ?_
      rotate_left
      · ((intro w hSw; (try dsimp only at hSw); go_simp); (try with_reducible rfl))
      try simp only [Act.put, List.setIfInBounds_toArray, List.set_cons_zero, List.set_cons_succ]
      refine rg_take (n := 0) (v := ?_) 14 (some 6) rfl rfl (by kernel_rfl) (by kernel_rfl) (by kernel_rfl) (fun _ _ _ h => h) (by rfl) hI ?_ ?_
      rotate_left
      · ((intro w hSw; (try dsimp only at hSw); go_simp); (try with_reducible rfl))
      try simp only [Act.put, List.setIfInBounds_toArray, List.set_cons_zero, List.set_cons_succ]
      refine wpAnyH_done (by kernel_rfl) ?_ _
      clear hI
      go_wp2
      go_ret
      exact ⟨rfl, HEnd.out _ N4.out⟩
end Go.Proofs.Ytidcmolkolcliaa
