/-
  Package lock: the conditions that find is handed.
-/
import Derived.Test.YtpkjafadhnecfaaKBit
namespace Go.Proofs.Ytpkjafadhnecfaa
open Go Go.RowKit

/-- A number in a box. -/
def IB (w : World) (g : Nat) (n : Int) : Prop := w.cell? ⟨g, 0, none⟩ = some (.int .i64 n)
theorem IB.lt {w : World} {g : Nat} {n : Int} (h : IB w g n) : g < w.heap.size := World.block_lt_of_cell? w _ h
theorem IB.keep {w w' : World} {g : Nat} {n : Int} (h : IB w g n) (hm : Mod (fun _ => False) w w') : IB w' g n := (World.cell?_of_block (hm.block g h.lt id)).trans h
theorem IB.new (w : World) (n : Int) (t : TypeId) : IB (w.alloc (.cells #[.int .i64 n] t)) w.heap.size n := cell_one_new w _ t 0 _ rfl

set_option maxRecDepth 100000 in
theorem within_ok (w : World) (n l u : Int) :
    Calls Try.prog 29 #[.int .i64 n, .int .i64 l, .int .i64 u] w fun e w' => e = .returned (.bool (inB n l u)) ∧ w' = w := by
  unfold inB
  by_cases h : l ≤ n
  · have hd : decide (l ≤ n) = true := decide_eq_true h
    rw [hd]
    go_enter Try.func29, Try.ntmps29
    go_wp2
    go_ret
    exact ⟨rfl, rfl⟩
  · have hd : decide (l ≤ n) = false := decide_eq_false h
    rw [hd]
    go_enter Try.func29, Try.ntmps29
    go_wp2
    go_ret
    exact ⟨rfl, rfl⟩

set_option maxRecDepth 100000 in
theorem drop1_ok (w : World) (s : Tr) (tx : Int) (g : Nat) (hg : IB w g tx) :
    Calls Try.prog 35 #[.agg #[.int .i64 s.a, .int .i64 s.b, .int .i64 s.c], .pointer (some ⟨g, 0, none⟩)] w fun e w' => e = .returned (.bool (drF tx s)) ∧ Mod (fun _ => False) w w' := by
  have HM : Hid (Mod (fun _ => False) w (w.alloc (.cells #[.int .i64 s.a, .int .i64 s.b, .int .i64 s.c] 37))) := (Mod.refl _ w).alloc _
  have hlt := hg.lt
  have hne : g ≠ w.heap.size := by omega
  unfold IB at hg
  have Hv : Hid (drF tx s = (s.a != tx)) := by show _ = _; rw [Bool.eq_iff_iff, drF_iff]; simp
  rw [Hv.out]
  go_enter Try.func35, Try.ntmps35
  go_wp2
  go_ret
  exact ⟨rfl, HM.out⟩

set_option maxRecDepth 100000 in
theorem by1_ok (w : World) (s : Tr) (tx res : Int) (g k : Nat) (hg : IB w g tx) (hk : IB w k res) :
    Calls Try.prog 45 #[.agg #[.int .i64 s.a, .int .i64 s.b, .int .i64 s.c], .pointer (some ⟨g, 0, none⟩), .pointer (some ⟨k, 0, none⟩)] w fun e w' => e = .returned (.bool (owF tx res s)) ∧ Mod (fun _ => False) w w' := by
  have HM : Hid (Mod (fun _ => False) w (w.alloc (.cells #[.int .i64 s.a, .int .i64 s.b, .int .i64 s.c] 37))) := (Mod.refl _ w).alloc _
  have hlt := hg.lt
  have hne : g ≠ w.heap.size := by omega
  have hlt2 := hk.lt
  have hne2 : k ≠ w.heap.size := by omega
  unfold IB at hg hk
  have Hv : Hid (owF tx res s = ((s.a == tx) && (s.b == res))) := by show _ = _; rw [Bool.eq_iff_iff, owF_iff]; simp
  rw [Hv.out]
  by_cases h : s.a = tx
  · have hd : (s.a == tx) = true := by simpa using h
    rw [hd]
    clear h
    go_enter Try.func45, Try.ntmps45
    go_wp2
    go_ret
    exact ⟨rfl, HM.out⟩
  · have hd : (s.a == tx) = false := by simpa using h
    rw [hd]
    clear h
    go_enter Try.func45, Try.ntmps45
    go_wp2
    go_ret
    exact ⟨rfl, HM.out⟩

set_option maxRecDepth 100000 in
theorem by_ok (w : World) (tx res : Int) :
    Calls Try.prog 30 #[.int .i64 tx, .int .i64 res] w fun e w' => ∃ g k, e = .returned (.func (.func 45) #[] #[.pointer (some ⟨g, 0, none⟩), .pointer (some ⟨k, 0, none⟩)]) ∧ IB w' g tx ∧ IB w' k res ∧ Mod (fun _ => False) w w' := by
  have H1 : Hid (IB ((w.alloc (.cells #[.int .i64 tx] 3)).alloc (.cells #[.int .i64 res] 3)) w.heap.size tx) := (IB.new w tx 3).keep ((Mod.refl _ _).alloc _)
  have H2 : Hid (IB ((w.alloc (.cells #[.int .i64 tx] 3)).alloc (.cells #[.int .i64 res] 3)) (w.alloc (.cells #[.int .i64 tx] 3)).heap.size res) := IB.new _ res 3
  have HM : Hid (Mod (fun _ => False) w ((w.alloc (.cells #[.int .i64 tx] 3)).alloc (.cells #[.int .i64 res] 3))) := ((Mod.refl _ w).alloc _).alloc _
  go_enter Try.func30, Try.ntmps30
  go_wp2
  go_ret
  refine ⟨_, _, rfl, H1.out, ?_, HM.out⟩
  have := H2.out
  rw [World.size_alloc] at this
  exact this

set_option maxRecDepth 100000 in
theorem grant1_ok (w : World) (s : Tr) (tx res : Int) (b g k : Nat) (hb : w.cell? ⟨b, 0, none⟩ = some (.func (.func 45) #[] #[.pointer (some ⟨g, 0, none⟩), .pointer (some ⟨k, 0, none⟩)])) (hg : IB w g tx) (hk : IB w k res) :
    Calls Try.prog 32 #[.agg #[.int .i64 s.a, .int .i64 s.b, .int .i64 s.c], .pointer (some ⟨b, 0, none⟩)] w fun e w' => e = .returned (.bool (!owF tx res s)) ∧ Mod (fun _ => False) w w' := by
  have hm : Mod (fun _ => False) w (w.alloc (.cells #[.int .i64 s.a, .int .i64 s.b, .int .i64 s.c] 37)) := (Mod.refl _ w).alloc _
  have hlt := World.block_lt_of_cell? w _ hb
  have hne : b ≠ w.heap.size := by simp at hlt; omega
  have HC := Lib.hid (by1_ok _ s tx res g k (hg.keep hm) (hk.keep hm))
  have HM := Lib.hid hm
  clear hm hg hk
  generalize owF tx res s = v at *
  go_enter Try.func32, Try.ntmps32
  go_wp2_with fail
  refine HC.out.mono ?_
  rintro e w' ⟨rfl, hm'⟩
  have HM2 := Lib.hid (HM.out.trans hm' (fun _ _ h => h))
  clear hm'
  go_wp2
  go_ret
  exact ⟨rfl, HM2.out⟩

set_option maxRecDepth 100000 in
set_option maxHeartbeats 800000 in
theorem block1_ok (w : World) (s : Tr) (tx res mode : Int) (g k m : Nat) (hg : IB w g tx) (hk : IB w k res) (hm : IB w m mode) :
    Calls Try.prog 26 #[.agg #[.int .i64 s.a, .int .i64 s.b, .int .i64 s.c], .pointer (some ⟨g, 0, none⟩), .pointer (some ⟨k, 0, none⟩), .pointer (some ⟨m, 0, none⟩)] w fun e w' => e = .returned (.bool (blF tx res mode s)) ∧ Mod (fun _ => False) w w' := by
  have HM : Hid (Mod (fun _ => False) w (w.alloc (.cells #[.int .i64 s.a, .int .i64 s.b, .int .i64 s.c] 37))) := (Mod.refl _ w).alloc _
  have hlt := hg.lt
  have hne : g ≠ w.heap.size := by omega
  have hlt2 := hk.lt
  have hne2 : k ≠ w.heap.size := by omega
  have hlt3 := hm.lt
  have hne3 : m ≠ w.heap.size := by omega
  unfold IB at hg hk hm
  have HC := Lib.hid (fun w => clash_ok w s.c mode)
  unfold blF
  by_cases h : s.a = tx
  · have hd : (s.a != tx) = false := by simpa using h
    rw [decide_eq_true h]
    clear h
    go_enter Try.func26, Try.ntmps26
    go_wp2
    go_ret
    exact ⟨rfl, HM.out⟩
  · have hd : (s.a != tx) = true := by simpa using h
    rw [decide_eq_false h]
    clear h
    by_cases h : s.b = res
    · have hd2 : (s.b == res) = true := by simpa using h
      rw [decide_eq_true h]
      clear h
      generalize clB s.c mode = v at *
      go_enter Try.func26, Try.ntmps26
      go_wp2_with fail
      refine (HC.out _).mono ?_
      rintro e w' ⟨rfl, rfl⟩
      go_wp2
      go_ret
      exact ⟨rfl, HM.out⟩
    · have hd2 : (s.b == res) = false := by simpa using h
      rw [decide_eq_false h]
      clear h
      go_enter Try.func26, Try.ntmps26
      go_wp2
      go_ret
      exact ⟨rfl, HM.out⟩
end Go.Proofs.Ytpkjafadhnecfaa
