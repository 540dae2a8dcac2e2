/-
  Package txn: slices.Clone at changes, at numbers, at bytes; copiedChange.
-/
import Derived.Test.YtidcmolkolcliaaX2
namespace Go.Proofs.Ytidcmolkolcliaa
open Go Go.RowKit

theorem nil_clonec (w : World) (a : Option Addr) (n c : Nat) : (binOp .eql 22 (.slice a n c) (.slice none 0 0)).run Try.prog w = .ok (.bool a.isNone) w :=
  Lib.run_eql_slice_nil w _ _ a n c 0 0 Try.underlying22
set_option maxRecDepth 100000 in
set_option maxHeartbeats 3200000 in
theorem clonec_ok (w : World) (A : Option Addr) (n c : Nat) (l : List ChD) (h : Cs w A n c l) (hn : n ≤ 140737488355) :
    Calls Try.prog 41 #[.slice A n c] w fun e w' => ∃ A' c', e = .returned (.slice A' n c') ∧ OwC w' w.heap.size A' n c' l ∧ Mod (fun _ => False) w w' := by
  have heq := nil_clonec
  cases A with
  | none =>
    obtain rfl : n = 0 := by
      rcases Nat.eq_zero_or_pos n with e | e
      · exact e
      · obtain ⟨b, o, e, _⟩ := h.cells e; cases e
    obtain rfl := List.eq_nil_of_length_eq_zero h.len
    clear h
    go_enter Try.func41, Try.ntmps41
    go_wp2
    go_ret
    exact ⟨none, 0, rfl, OwN.nil _ _ _ _, Mod.refl _ _⟩
  | some ad =>
    have Hm : Hid (Mod (fun _ => False) w (w.alloc (.cells #[] 30))) := (Mod.refl _ w).alloc _
    have Hs := Lib.hid ((h.keep Hm.out).src)
    have Hown : Hid (OwN (w.alloc (.cells #[] 30)) w.heap.size 30 7 (some ⟨w.heap.size, 0, none⟩) 0 0 []) := OwN.mk_ (cur := []) (Nat.le_refl _) (heap_alloc_new w _) (Nat.le_refl _) (Nat.zero_le _) rfl rfl rfl
    clear h
    go_enter Try.func41, Try.ntmps41
    go_wp2_with (at_builtin; refine wpList_appN (.tmp 5) (.tmp 6) chElem rfl rfl rfl rfl Hown.out Hs.out (by omega) (by unfold maxLen; omega) (by rw [World.size_alloc]; omega) ?_; intro A' c' w' h1 h2 h3; rw [Nat.zero_add] at h1 ⊢; have H1 := Lib.hid h1; have H2 := Lib.hid h2; clear h1 h2 h3)
    go_ret
    refine ⟨A', c', rfl, H1.out, ?_⟩
    refine Mod.mono (F := fun k => w.heap.size ≤ k) ((Hm.out.mono (fun _ _ h => h.elim)).grown H2.out (fun k e hk => ?_)) (fun k hk e => by omega)
    simp [blkOf] at e
    omega

theorem nil_clonei (w : World) (a : Option Addr) (n c : Nat) : (binOp .eql 23 (.slice a n c) (.slice none 0 0)).run Try.prog w = .ok (.bool a.isNone) w :=
  Lib.run_eql_slice_nil w _ _ a n c 0 0 Try.underlying23
set_option maxRecDepth 100000 in
set_option maxHeartbeats 3200000 in
theorem clonei_ok (w : World) (A : Option Addr) (n c : Nat) (l : List Int) (h : Il w A n c l) (hn : n ≤ 140737488355) :
    Calls Try.prog 42 #[.slice A n c] w fun e w' => ∃ A' c', e = .returned (.slice A' n c') ∧ OwI w' w.heap.size A' n c' l ∧ Mod (fun _ => False) w w' := by
  have heq := nil_clonei
  cases A with
  | none =>
    obtain rfl : n = 0 := by
      rcases Nat.eq_zero_or_pos n with e | e
      · exact e
      · obtain ⟨b, o, e, _⟩ := h.2.2 e; cases e
    obtain rfl := List.eq_nil_of_length_eq_zero h.len
    clear h
    go_enter Try.func42, Try.ntmps42
    go_wp2
    go_ret
    exact ⟨none, 0, rfl, OwV.nil _ _ _, Mod.refl _ _⟩
  | some ad =>
    have Hm : Hid (Mod (fun _ => False) w (w.alloc (.cells #[] 3))) := (Mod.refl _ w).alloc _
    have Hs := Lib.hid ((h.keep Hm.out).src)
    have Hown : Hid (OwV (w.alloc (.cells #[] 3)) w.heap.size 3 (some ⟨w.heap.size, 0, none⟩) 0 0 []) := OwV.of_block (cur := []) (Nat.le_refl _) (heap_alloc_new w _) (Nat.zero_le _)
    clear h
    go_enter Try.func42, Try.ntmps42
    go_wp2_with (at_builtin; refine wpList_app (.tmp 5) (.tmp 6) intElem rfl rfl rfl rfl Hown.out Hs.out (by omega) (by unfold maxLen; omega) (by rw [World.size_alloc]; omega) ?_; intro A' c' w' h1 h2 h3; rw [Nat.zero_add] at h1 ⊢; have H1 := Lib.hid h1; have H2 := Lib.hid h2; clear h1 h2 h3)
    go_ret
    refine ⟨A', c', rfl, H1.out, ?_⟩
    refine Mod.mono (F := fun k => w.heap.size ≤ k) ((Hm.out.mono (fun _ _ h => h.elim)).grown H2.out (fun k e hk => ?_)) (fun k hk e => by omega)
    simp [blkOf] at e
    omega

theorem nil_cloneb (w : World) (a : Option Addr) (n c : Nat) : (binOp .eql 26 (.slice a n c) (.slice none 0 0)).run Try.prog w = .ok (.bool a.isNone) w :=
  Lib.run_eql_slice_nil w _ _ a n c 0 0 Try.underlying26
set_option maxRecDepth 100000 in
set_option maxHeartbeats 3200000 in
theorem cloneb_ok (w : World) (A : Option Addr) (n c : Nat) (l : List UInt8) (h : Sl w A n c l) (hn : n ≤ 140737488355) :
    Calls Try.prog 43 #[.slice A n c] w fun e w' => ∃ A' c', e = .returned (.slice A' n c') ∧ OwV w' w.heap.size 5 A' n c' (l.map bv) ∧ Mod (fun _ => False) w w' := by
  have heq := nil_cloneb
  cases A with
  | none =>
    obtain rfl : n = 0 := by
      rcases Nat.eq_zero_or_pos n with e | e
      · exact e
      · obtain ⟨b, o, e, _⟩ := h.2.2 e; cases e
    obtain rfl := List.eq_nil_of_length_eq_zero h.len
    clear h
    go_enter Try.func43, Try.ntmps43
    go_wp2
    go_ret
    exact ⟨none, 0, rfl, OwV.nil _ _ _, Mod.refl _ _⟩
  | some ad =>
    have Hm : Hid (Mod (fun _ => False) w (w.alloc (.cells #[] 5))) := (Mod.refl _ w).alloc _
    have Hs := Lib.hid ((h.mod Hm.out (fun _ _ _ => id)).src)
    have Hown : Hid (OwV (w.alloc (.cells #[] 5)) w.heap.size 5 (some ⟨w.heap.size, 0, none⟩) 0 0 []) := OwV.of_block (cur := []) (Nat.le_refl _) (heap_alloc_new w _) (Nat.zero_le _)
    clear h
    go_enter Try.func43, Try.ntmps43
    go_wp2_with (at_builtin; refine wpList_app (.tmp 5) (.tmp 6) byteElem rfl rfl rfl rfl Hown.out Hs.out (by omega) (by unfold maxLen; omega) (by rw [World.size_alloc]; omega) ?_; intro A' c' w' h1 h2 h3; rw [Nat.zero_add] at h1 ⊢; have H1 := Lib.hid h1; have H2 := Lib.hid h2; clear h1 h2 h3)
    go_ret
    refine ⟨A', c', rfl, H1.out, ?_⟩
    refine Mod.mono (F := fun k => w.heap.size ≤ k) ((Hm.out.mono (fun _ _ h => h.elim)).grown H2.out (fun k e hk => ?_)) (fun k hk e => by omega)
    simp [blkOf] at e
    omega

end Go.Proofs.Ytidcmolkolcliaa
