/-
  PageOrder: two records of two keys may be put in any order.
-/
import Derived.Test.YtgeodpflaebbgaaRefs5
namespace Go.Proofs.Ytgeodpflaebbgaa
open Go Go.RowKit

theorem two_comm {a b : Int} {v u : List UInt8} (h : a ≠ b) : mSet b u [(a, v)] = mSet a v [(b, u)] := by
  simp only [mSet]
  by_cases h1 : a < b
  · rw [if_pos h1, if_neg (by omega), if_neg (by omega)]
  · rw [if_neg h1, if_neg h, if_pos (by omega)]
theorem two_get {a b : Int} {v u : List UInt8} (h : a ≠ b) : mGet a (mSet b u [(a, v)]) = some v := by
  simp only [mSet]
  by_cases h1 : a < b
  · rw [if_pos h1]; simp [mGet]
  · rw [if_neg h1, if_neg h]
    simp only [mGet]
    rw [if_pos (by omega)]
    simp
theorem two_len {a b : Int} {v u : List UInt8} (h : a ≠ b) : (mSet b u [(a, v)]).length = 2 := by
  simp only [mSet]
  split
  · rfl
  · rfl
theorem two_used {a b : Int} {v u : List UInt8} (h : a ≠ b) : usedL (mSet b u [(a, v)]) = 8 + v.length + u.length := by
  simp only [mSet]
  by_cases h1 : a < b
  · rw [if_pos h1]; simp only [usedL]; omega
  · rw [if_neg h1, if_neg h]; simp only [usedL]; omega
theorem put_one {i k : Int} {v : List UInt8} (h0 : 0 ≤ k) (h1 : k ≤ 65535) (hv : v.length ≤ 32) : putP ⟨i, 0, []⟩ k true v = (0, ⟨i, 0, [(k, v)]⟩) := by
  unfold putP
  rw [if_neg (by omega), if_neg (by simp), if_neg (by omega), if_neg (by simp only [mSet, usedL]; omega)]
  rfl
theorem put_two {i a b : Int} {v u : List UInt8} (h : a ≠ b) (h0 : 0 ≤ b) (h1 : b ≤ 65535) (hv : v.length ≤ 32) (hu : u.length ≤ 32) : putP ⟨i, 0, [(a, v)]⟩ b true u = (0, ⟨i, 0, mSet b u [(a, v)]⟩) := by
  unfold putP
  rw [if_neg (by omega), if_neg (by simp), if_neg (by omega), if_neg (by rw [two_used h]; omega)]

set_option maxRecDepth 100000 in
set_option maxHeartbeats 2000000 in
theorem order_walk (a b : Int) (A B : Option Addr) (n c m d : Nat) (v u : List UInt8) (w : World) (hv : Sl w A n c v) (hu : Sl w B m d u) : Calls Try.prog 6 #[.int .i64 a, .slice A n c, .int .i64 b, .slice B m d] w fun e w' => e = .returned (.bool true) ∧ Below w.heap.size w w' := by
  have hfd : ∀ (x : Bool) (B : Option Addr) (m d : Nat) (w : World), (Instr.field 34 (.agg #[.bool x, .slice B m d]) 1).run Try.prog w = .ok (.slice B m d) w := fun _ _ _ _ _ => by kernel_rfl
  have Haw := Lib.hid (awake_ok w)
  have Hv := Lib.hid hv
  have Hu := Lib.hid hu
  have hvl := hv.len
  have hul := hu.len
  clear hv hu
  by_cases h1 : 32 < n
  · skip
    go_enter Try.func6, Try.ntmps6
    go_wp2_with fail
    refine Haw.out.mono ?_
    rintro e w1 ⟨rfl, hm1⟩
    have Hm1 := Lib.hid hm1
    clear hm1
    go_wp2
    go_ret
    exact ⟨rfl, Hm1.out.below (Nat.le_refl _) (fun _ _ => id)⟩
  by_cases h2 : 32 < m
  · skip
    go_enter Try.func6, Try.ntmps6
    go_wp2_with fail
    refine Haw.out.mono ?_
    rintro e w1 ⟨rfl, hm1⟩
    have Hm1 := Lib.hid hm1
    clear hm1
    go_wp2
    go_ret
    exact ⟨rfl, Hm1.out.below (Nat.le_refl _) (fun _ _ => id)⟩
  by_cases h3 : a = b
  · have h3' : ((a == b) = true) := by simpa using h3
    go_enter Try.func6, Try.ntmps6
    go_wp2_with fail
    refine Haw.out.mono ?_
    rintro e w1 ⟨rfl, hm1⟩
    have Hm1 := Lib.hid hm1
    clear hm1
    go_wp2
    go_ret
    exact ⟨rfl, Hm1.out.below (Nat.le_refl _) (fun _ _ => id)⟩
  have h3' : ((a == b) = false) := by simpa using h3
  by_cases h4 : a < 0
  · have h4' : (decide (a < 0) = true) := by simpa using h4
    go_enter Try.func6, Try.ntmps6
    go_wp2_with fail
    refine Haw.out.mono ?_
    rintro e w1 ⟨rfl, hm1⟩
    have Hm1 := Lib.hid hm1
    clear hm1
    go_wp2
    go_ret
    exact ⟨rfl, Hm1.out.below (Nat.le_refl _) (fun _ _ => id)⟩
  have h4' : (decide (a < 0) = false) := by simpa using h4
  by_cases h5 : b < 0
  · have h5' : (decide (b < 0) = true) := by simpa using h5
    go_enter Try.func6, Try.ntmps6
    go_wp2_with fail
    refine Haw.out.mono ?_
    rintro e w1 ⟨rfl, hm1⟩
    have Hm1 := Lib.hid hm1
    clear hm1
    go_wp2
    go_ret
    exact ⟨rfl, Hm1.out.below (Nat.le_refl _) (fun _ _ => id)⟩
  have h5' : (decide (b < 0) = false) := by simpa using h5
  by_cases h6 : 65535 < a
  · have h6' : (decide (65535 < a) = true) := by simpa using h6
    go_enter Try.func6, Try.ntmps6
    go_wp2_with fail
    refine Haw.out.mono ?_
    rintro e w1 ⟨rfl, hm1⟩
    have Hm1 := Lib.hid hm1
    clear hm1
    go_wp2
    go_ret
    exact ⟨rfl, Hm1.out.below (Nat.le_refl _) (fun _ _ => id)⟩
  have h6' : (decide (65535 < a) = false) := by simpa using h6
  by_cases h7 : 65535 < b
  · have h7' : (decide (65535 < b) = true) := by simpa using h7
    go_enter Try.func6, Try.ntmps6
    go_wp2_with fail
    refine Haw.out.mono ?_
    rintro e w1 ⟨rfl, hm1⟩
    have Hm1 := Lib.hid hm1
    clear hm1
    go_wp2
    go_ret
    exact ⟨rfl, Hm1.out.below (Nat.le_refl _) (fun _ _ => id)⟩
  have h7' : (decide (65535 < b) = false) := by simpa using h7
  have hp1 := put_one (i := 1) (k := a) (v := v) (by omega) (by omega) (by omega)
  have hp2 := put_two (i := 1) (a := a) (b := b) (v := v) (u := u) h3 (by omega) (by omega) (by omega) (by omega)
  have hp3 := put_one (i := 1) (k := b) (v := u) (by omega) (by omega) (by omega)
  have hp4 := put_two (i := 1) (a := b) (b := a) (v := u) (u := v) (fun e => h3 e.symm) (by omega) (by omega) (by omega) (by omega)
  rw [← two_comm h3] at hp4
  have Hp1 := Lib.hid hp1
  have Hp2 := Lib.hid hp2
  have Hp3 := Lib.hid hp3
  have Hp4 := Lib.hid hp4
  have Hlen := Lib.hid (two_len (v := v) (u := u) h3)
  have Hget := Lib.hid (two_get (v := v) (u := u) h3)
  have Hn : Hid (n ≤ 32) := by show _ ≤ _; omega
  clear hp1 hp2 hp3 hp4
  go_enter Try.func6, Try.ntmps6
  go_wp2_with fail
  refine Haw.out.mono ?_
  rintro e w1 ⟨rfl, hm1⟩
  have Hnew := Lib.hid (lv_new w w1 hm1 1 (by omega) (by omega))
  clear hm1 Haw
  go_wp2_with fail
  refine Hnew.out.mono ?_
  rintro e w2 ⟨q0, rfl, h0, _⟩
  have hp := lv_put h0 a true (Hv.out.mod h0.old (fun _ _ _ => id))
  rw [Hp1.out] at hp
  have Hp := Lib.hid hp
  have H0 := Lib.hid h0
  clear hp h0 Hnew
  go_wp2_with fail
  refine Hp.out.mono ?_
  rintro e w3 hans
  obtain ⟨q1, rfl, hx, hm3⟩ := hans.ok rfl
  have hp := lv_put hx b true (Hu.out.mod hx.old (fun _ _ _ => id))
  rw [Hp2.out] at hp
  have Hp := Lib.hid hp
  have H0 := Lib.hid (H0.out.keep hm3)
  clear hp hx hm3 hans
  go_wp2_with fail
  refine Hp.out.mono ?_
  rintro e w4 hans
  obtain ⟨q2, rfl, hy, hm4⟩ := hans.ok rfl
  have h0 := H0.out.keep hm4
  have hp := lv_put h0 b true (Hu.out.mod h0.old (fun _ _ _ => id))
  rw [Hp3.out] at hp
  have Hp := Lib.hid hp
  have HY := Lib.hid hy
  clear hp hy hm4 hans h0 H0
  go_wp2_with fail
  refine Hp.out.mono ?_
  rintro e w5 hans
  obtain ⟨q3, rfl, hz, hm5⟩ := hans.ok rfl
  have hp := lv_put hz a true (Hv.out.mod hz.old (fun _ _ _ => id))
  rw [Hp4.out] at hp
  have Hp := Lib.hid hp
  have HY := Lib.hid (HY.out.keep hm5)
  clear hp hz hm5 hans
  go_wp2_with fail
  refine Hp.out.mono ?_
  rintro e w6 hans
  obtain ⟨q4, rfl, ht, hm6⟩ := hans.ok rfl
  have HT := Lib.hid ht
  have HY := Lib.hid (HY.out.keep hm6)
  have ha := lv_all HY.out
  rw [show (⟨1, 0, mSet b u [(a, v)]⟩ : Pg).l = mSet b u [(a, v)] from rfl, Hlen.out] at ha
  have Ha := Lib.hid ha
  clear ht hm6 hans ha Hp
  go_wp2_with fail
  refine Ha.out.mono ?_
  rintro e w7 ⟨A7, c7, L7, rfl, hk7⟩
  have HT7 := Lib.hid (HT.out.keep hk7.old)
  have HY7 := Lib.hid (HY.out.keep hk7.old)
  have ha := lv_all HT7.out
  rw [show (⟨1, 0, mSet b u [(a, v)]⟩ : Pg).l = mSet b u [(a, v)] from rfl, Hlen.out] at ha
  have Ha := Lib.hid ha
  have HK7 := Lib.hid hk7.kv
  clear ha hk7 HT HY
  go_wp2_with fail
  refine Ha.out.mono ?_
  rintro e w8 ⟨A8, c8, L8, rfl, hk8⟩
  have HY8 := Lib.hid (HY7.out.keep hk8.old)
  have Hs := Lib.hid (ksame_ok w8 A7 A8 2 c7 c8 _ (HK7.out.keep hk8.old) hk8.kv (fun r hr => by have := HY8.out.good.val r hr; omega) (by omega))
  clear hk8
  go_wp2_with fail
  refine Hs.out.mono ?_
  rintro e w9 ⟨rfl, hm9⟩
  have HY9 := Lib.hid (HY8.out.keep hm9)
  have hg := lv_get HY9.out a
  rw [show (⟨1, 0, mSet b u [(a, v)]⟩ : Pg).l = mSet b u [(a, v)] from rfl, Hget.out] at hg
  have Hg := Lib.hid hg
  clear hg hm9
  go_wp2_with fail
  refine Hg.out.mono ?_
  rintro e w10 ⟨B1, m1, d1, rfl, hs1, _, hm10⟩
  have HY10 := Lib.hid (HY9.out.keep hm10)
  have hsl1 : Sl w10 B1 m1 d1 v := hs1
  have hsm := same_ok w10 B1 A m1 n d1 c v v hsl1 (Hv.out.mod HY10.out.old (fun _ _ _ => id)) (by rw [← hsl1.len]; have := Hn.out; omega) (by have := Hn.out; omega)
  rw [eqB_self] at hsm
  have Hsm := Lib.hid hsm
  clear hs1 hsl1 hm10 hsm
  go_wp2_with fail
  refine Hsm.out.mono ?_
  rintro e w11 ⟨rfl, r, rfl⟩
  have HY11 := Lib.hid (HY10.out.keep ((Mod.refl (fun _ => False) w10).drewN r))
  generalize w10.drewN r = w11 at *
  have ha := lv_all HY11.out
  rw [show (⟨1, 0, mSet b u [(a, v)]⟩ : Pg).l = mSet b u [(a, v)] from rfl, Hlen.out] at ha
  have Ha := Lib.hid ha
  clear ha
  go_wp2_with fail
  refine Ha.out.mono ?_
  rintro e w12 ⟨A12, c12, L12, rfl, hk12⟩
  have Hm12 := Lib.hid (HY11.out.old.trans hk12.old (fun _ _ h => h))
  clear hk12
  go_wp2
  go_ret
  exact ⟨rfl, Hm12.out.below (Nat.le_refl _) (fun _ _ => id)⟩
end Go.Proofs.Ytgeodpflaebbgaa
