/-
  Package lock: find, with each condition.
-/
import Derived.Test.YtpkjafadhnecfaaKClo
namespace Go.Proofs.Ytpkjafadhnecfaa
open Go Go.RowKit

/-- What find answers. -/
def FdAns (w w' : World) (l : List Tr) (e : Ending) : Prop :=
  ∃ A c, e = .returned (.slice A l.length c) ∧ Ow3 w' w.heap.size 37 A l.length c l ∧ Mod (fun _ => False) w w'
/-- Of the first j those that meet f. -/
def fl (f : Tr → Bool) (l : List Tr) (j : Nat) : List Tr := (l.take j).filter f
theorem fl_zero (f : Tr → Bool) (l : List Tr) : fl f l 0 = [] := by simp [fl]
theorem fl_all (f : Tr → Bool) (l : List Tr) : fl f l l.length = l.filter f := by simp [fl]
theorem fl_yes {f : Tr → Bool} {l : List Tr} {j : Nat} (h : j < l.length) (hf : f (atS l j) = true) : fl f l (j + 1) = fl f l j ++ [atS l j] := by
  unfold fl
  rw [← List.take_append_getElem h, List.filter_append, ← atS_at h]
  simp [hf]
theorem fl_no {f : Tr → Bool} {l : List Tr} {j : Nat} (h : j < l.length) (hf : f (atS l j) = false) : fl f l (j + 1) = fl f l j := by
  unfold fl
  rw [← List.take_append_getElem h, List.filter_append, ← atS_at h]
  simp [hf]
theorem fl_len (f : Tr → Bool) (l : List Tr) (j : Nat) : (fl f l j).length ≤ j := by
  unfold fl
  refine Nat.le_trans (List.length_filter_le _ _) ?_
  rw [List.length_take]; omega
/-- What lies ahead of a round of find. -/
structure Fnd (w wr : World) (l : List Tr) (A : Option Addr) (c : Nat) : Prop where
  own : Ow3 wr w.heap.size 37 A l.length c l
  old : Mod (fun _ => False) w wr

set_option maxRecDepth 100000 in
set_option maxHeartbeats 3200000 in
theorem find_Blockers (w : World) (A0 : Option Addr) (n c0 : Nat) (l : List Tr) (h : Tl w A0 n c0 l) (hn : n ≤ 1000) (g k m : Nat) (f : Tr → Bool)
    (HC : ∀ W, Mod (fun _ => False) w W → ∀ s : Tr, Calls Try.prog 26 #[.agg #[.int .i64 s.a, .int .i64 s.b, .int .i64 s.c], .pointer (some ⟨g, 0, none⟩), .pointer (some ⟨k, 0, none⟩), .pointer (some ⟨m, 0, none⟩)] W fun e w' => e = .returned (.bool (f s)) ∧ Mod (fun _ => False) W w') :
    Calls Try.prog 25 #[.slice A0 n c0, .func (.func 26) #[] #[.pointer (some ⟨g, 0, none⟩), .pointer (some ⟨k, 0, none⟩), .pointer (some ⟨m, 0, none⟩)]] w fun e w' => FdAns w w' (l.filter f) e := by
  have HX := Lib.hid h
  have HK := Lib.hid HC
  have Hl : Hid (l.length = n) := h.len
  have HR : Hid (Fnd w w (fl f l 0) none 0) := by rw [fl_zero]; exact ⟨OwN.nil _ _ _ _, Mod.refl _ _⟩
  have hz : (fl f l 0).length = 0 := by rw [fl_zero]; rfl
  clear HC h
  go_enter Try.func25, Try.ntmps25
  go_wp2
  go_loopw [5, 10] (fun s i wr => ∃ (j : Nat) (A : Option Addr) (c : Nat), j ≤ n ∧ i = .int .i64 j ∧ s = .slice A (fl f l j).length c ∧ Fnd w wr (fl f l j) A c) (fun _ i _ => n - (intOf i).toNat)
  case atStart => exact ⟨0, none, 0, Nat.zero_le _, rfl, by rw [hz], HR.out⟩
  case round =>
    obtain ⟨j, A, c, hj, rfl, rfl, hr⟩ := hrel
    clear hz HR
    have Hr := Lib.hid hr
    clear hr
    by_cases hlt : j < n
    · obtain ⟨b, o, hS, hc⟩ := (HX.out.keep Hr.out.old).cells (by omega)
      rw [hS]
      obtain ⟨s0, s1, s2⟩ := hc j hlt
      have Hyes : Hid (f (atS l j) = true → fl f l (j + 1) = fl f l j ++ [atS l j]) := fl_yes (by rw [Hl.out]; exact hlt)
      have Hno : Hid (f (atS l j) = false → fl f l (j + 1) = fl f l j) := fl_no (by rw [Hl.out]; exact hlt)
      generalize hT : atS l j = s at *
      clear hT hc hS
      have hcb := fl_len f l j
      have hmb : Mod (fun _ => False) w (wr.alloc (.cells #[.int .i64 s.a, .int .i64 s.b, .int .i64 s.c] 37)) := Hr.out.old.alloc _
      have Hr2 : Hid (Fnd w (wr.alloc (.cells #[.int .i64 s.a, .int .i64 s.b, .int .i64 s.c] 37)) (fl f l j) A c) := ⟨OwN.alloc Hr.out.own _, hmb⟩
      have hbx : RBx (wr.alloc (.cells #[.int .i64 s.a, .int .i64 s.b, .int .i64 s.c] 37)) wr.heap.size 37 s := RBx.new wr _ s
      have Hcl := Lib.hid (HK.out _ hmb s)
      have Hbx := Lib.hid hbx
      clear hmb Hr hbx
      cases hf : f s with
      | true =>
        rw [hf] at Hcl
        have Hfl := Lib.hid (Hyes.out hf)
        clear hf Hyes Hno
        go_wp2_with fail
        refine Hcl.out.mono ?_
        rintro e w2 ⟨rfl, hm2⟩
        have Hr3 : Hid (Fnd w w2 (fl f l j) A c) := ⟨Hr2.out.own.keep hm2, Hr2.out.old.trans hm2 (fun _ _ h => h)⟩
        have hb2 := Hbx.out.keep hm2
        obtain ⟨e0, e1, e2⟩ := hb2.cells
        clear hm2 Hr2 s0 s1 s2 hb2 Hcl Hbx
        have Hown := Lib.hid (OwN.alloc Hr3.out.own (.cells #[.int .i64 s.a, .int .i64 s.b, .int .i64 s.c] 37))
        have Hsrc := Lib.hid (SrcN.lit w2 [.int .i64 s.a, .int .i64 s.b, .int .i64 s.c] 37 (by simp [Value.oneCell']))
        have Hbase : Hid (w.heap.size ≤ (w2.alloc (.cells #[.int .i64 s.a, .int .i64 s.b, .int .i64 s.c] 37)).heap.size) := by
          show _ ≤ _
          rw [World.size_alloc]
          have := Hr3.out.old.size
          omega
        go_wp2_with (at_builtin; refine wpList_appN (.tmp 17) (.tmp 19) hdElem rfl rfl rfl rfl Hown.out Hsrc.out (by omega) (by unfold maxLen; omega) Hbase.out ?_; intro A' c' w3 h1 h2 h3; have H1 := Lib.hid h1; have H2 := Lib.hid h2; clear h1 h2 h3)
        have Hr4 : Hid (Fnd w w3 (fl f l (j + 1)) A' c') := by
          refine ⟨?_, ?_⟩
          · rw [Hfl.out]
            have h1 := H1.out
            show OwN w3 _ _ 3 A' _ c' (trs _)
            rw [trs_append, List.length_append]
            exact h1
          · exact (Hr3.out.old.alloc (.cells #[.int .i64 s.a, .int .i64 s.b, .int .i64 s.c] 37)).grown H2.out (fun k e hk => by have := (Hr3.out.own.lt k e).1; omega)
        have Hln : Hid ((fl f l (j + 1)).length = (fl f l j).length + 1) := by show _ = _; rw [Hfl.out, List.length_append]; rfl
        clear H1 H2
        go_roundw
        case rel => exact ⟨j + 1, A', c', by omega, by go_num, by rw [Hln.out], Hr4.out⟩
        case measure => simp [intOf]; omega
      | false =>
        rw [hf] at Hcl
        have Hfl := Lib.hid (Hno.out hf)
        clear hf Hyes Hno
        go_wp2_with fail
        refine Hcl.out.mono ?_
        rintro e w2 ⟨rfl, hm2⟩
        have Hr3 : Hid (Fnd w w2 (fl f l (j + 1)) A c) := by
          rw [Hfl.out]
          exact ⟨Hr2.out.own.keep hm2, Hr2.out.old.trans hm2 (fun _ _ h => h)⟩
        clear hm2 Hr2 s0 s1 s2 Hcl Hbx
        go_wp2
        go_roundw
        case rel => exact ⟨j + 1, A, c, by omega, by go_num, by rw [Hfl.out], Hr3.out⟩
        case measure => simp [intOf]; omega
    · obtain rfl : j = n := by omega
      have Ha : Hid (fl f l j = l.filter f) := by show _ = _; rw [← Hl.out]; exact fl_all f l
      rw [Ha.out] at Hr ⊢
      go_wp2
      go_ret
      exact ⟨A, c, rfl, Hr.out.own, Hr.out.old⟩

set_option maxRecDepth 100000 in
set_option maxHeartbeats 3200000 in
theorem find_by (w : World) (A0 : Option Addr) (n c0 : Nat) (l : List Tr) (h : Tl w A0 n c0 l) (hn : n ≤ 1000) (g k : Nat) (f : Tr → Bool)
    (HC : ∀ W, Mod (fun _ => False) w W → ∀ s : Tr, Calls Try.prog 45 #[.agg #[.int .i64 s.a, .int .i64 s.b, .int .i64 s.c], .pointer (some ⟨g, 0, none⟩), .pointer (some ⟨k, 0, none⟩)] W fun e w' => e = .returned (.bool (f s)) ∧ Mod (fun _ => False) W w') :
    Calls Try.prog 25 #[.slice A0 n c0, .func (.func 45) #[] #[.pointer (some ⟨g, 0, none⟩), .pointer (some ⟨k, 0, none⟩)]] w fun e w' => FdAns w w' (l.filter f) e := by
  have HX := Lib.hid h
  have HK := Lib.hid HC
  have Hl : Hid (l.length = n) := h.len
  have HR : Hid (Fnd w w (fl f l 0) none 0) := by rw [fl_zero]; exact ⟨OwN.nil _ _ _ _, Mod.refl _ _⟩
  have hz : (fl f l 0).length = 0 := by rw [fl_zero]; rfl
  clear HC h
  go_enter Try.func25, Try.ntmps25
  go_wp2
  go_loopw [5, 10] (fun s i wr => ∃ (j : Nat) (A : Option Addr) (c : Nat), j ≤ n ∧ i = .int .i64 j ∧ s = .slice A (fl f l j).length c ∧ Fnd w wr (fl f l j) A c) (fun _ i _ => n - (intOf i).toNat)
  case atStart => exact ⟨0, none, 0, Nat.zero_le _, rfl, by rw [hz], HR.out⟩
  case round =>
    obtain ⟨j, A, c, hj, rfl, rfl, hr⟩ := hrel
    clear hz HR
    have Hr := Lib.hid hr
    clear hr
    by_cases hlt : j < n
    · obtain ⟨b, o, hS, hc⟩ := (HX.out.keep Hr.out.old).cells (by omega)
      rw [hS]
      obtain ⟨s0, s1, s2⟩ := hc j hlt
      have Hyes : Hid (f (atS l j) = true → fl f l (j + 1) = fl f l j ++ [atS l j]) := fl_yes (by rw [Hl.out]; exact hlt)
      have Hno : Hid (f (atS l j) = false → fl f l (j + 1) = fl f l j) := fl_no (by rw [Hl.out]; exact hlt)
      generalize hT : atS l j = s at *
      clear hT hc hS
      have hcb := fl_len f l j
      have hmb : Mod (fun _ => False) w (wr.alloc (.cells #[.int .i64 s.a, .int .i64 s.b, .int .i64 s.c] 37)) := Hr.out.old.alloc _
      have Hr2 : Hid (Fnd w (wr.alloc (.cells #[.int .i64 s.a, .int .i64 s.b, .int .i64 s.c] 37)) (fl f l j) A c) := ⟨OwN.alloc Hr.out.own _, hmb⟩
      have hbx : RBx (wr.alloc (.cells #[.int .i64 s.a, .int .i64 s.b, .int .i64 s.c] 37)) wr.heap.size 37 s := RBx.new wr _ s
      have Hcl := Lib.hid (HK.out _ hmb s)
      have Hbx := Lib.hid hbx
      clear hmb Hr hbx
      cases hf : f s with
      | true =>
        rw [hf] at Hcl
        have Hfl := Lib.hid (Hyes.out hf)
        clear hf Hyes Hno
        go_wp2_with fail
        refine Hcl.out.mono ?_
        rintro e w2 ⟨rfl, hm2⟩
        have Hr3 : Hid (Fnd w w2 (fl f l j) A c) := ⟨Hr2.out.own.keep hm2, Hr2.out.old.trans hm2 (fun _ _ h => h)⟩
        have hb2 := Hbx.out.keep hm2
        obtain ⟨e0, e1, e2⟩ := hb2.cells
        clear hm2 Hr2 s0 s1 s2 hb2 Hcl Hbx
        have Hown := Lib.hid (OwN.alloc Hr3.out.own (.cells #[.int .i64 s.a, .int .i64 s.b, .int .i64 s.c] 37))
        have Hsrc := Lib.hid (SrcN.lit w2 [.int .i64 s.a, .int .i64 s.b, .int .i64 s.c] 37 (by simp [Value.oneCell']))
        have Hbase : Hid (w.heap.size ≤ (w2.alloc (.cells #[.int .i64 s.a, .int .i64 s.b, .int .i64 s.c] 37)).heap.size) := by
          show _ ≤ _
          rw [World.size_alloc]
          have := Hr3.out.old.size
          omega
        go_wp2_with (at_builtin; refine wpList_appN (.tmp 17) (.tmp 19) hdElem rfl rfl rfl rfl Hown.out Hsrc.out (by omega) (by unfold maxLen; omega) Hbase.out ?_; intro A' c' w3 h1 h2 h3; have H1 := Lib.hid h1; have H2 := Lib.hid h2; clear h1 h2 h3)
        have Hr4 : Hid (Fnd w w3 (fl f l (j + 1)) A' c') := by
          refine ⟨?_, ?_⟩
          · rw [Hfl.out]
            have h1 := H1.out
            show OwN w3 _ _ 3 A' _ c' (trs _)
            rw [trs_append, List.length_append]
            exact h1
          · exact (Hr3.out.old.alloc (.cells #[.int .i64 s.a, .int .i64 s.b, .int .i64 s.c] 37)).grown H2.out (fun k e hk => by have := (Hr3.out.own.lt k e).1; omega)
        have Hln : Hid ((fl f l (j + 1)).length = (fl f l j).length + 1) := by show _ = _; rw [Hfl.out, List.length_append]; rfl
        clear H1 H2
        go_roundw
        case rel => exact ⟨j + 1, A', c', by omega, by go_num, by rw [Hln.out], Hr4.out⟩
        case measure => simp [intOf]; omega
      | false =>
        rw [hf] at Hcl
        have Hfl := Lib.hid (Hno.out hf)
        clear hf Hyes Hno
        go_wp2_with fail
        refine Hcl.out.mono ?_
        rintro e w2 ⟨rfl, hm2⟩
        have Hr3 : Hid (Fnd w w2 (fl f l (j + 1)) A c) := by
          rw [Hfl.out]
          exact ⟨Hr2.out.own.keep hm2, Hr2.out.old.trans hm2 (fun _ _ h => h)⟩
        clear hm2 Hr2 s0 s1 s2 Hcl Hbx
        go_wp2
        go_roundw
        case rel => exact ⟨j + 1, A, c, by omega, by go_num, by rw [Hfl.out], Hr3.out⟩
        case measure => simp [intOf]; omega
    · obtain rfl : j = n := by omega
      have Ha : Hid (fl f l j = l.filter f) := by show _ = _; rw [← Hl.out]; exact fl_all f l
      rw [Ha.out] at Hr ⊢
      go_wp2
      go_ret
      exact ⟨A, c, rfl, Hr.out.own, Hr.out.old⟩

set_option maxRecDepth 100000 in
set_option maxHeartbeats 3200000 in
theorem find_Grant (w : World) (A0 : Option Addr) (n c0 : Nat) (l : List Tr) (h : Tl w A0 n c0 l) (hn : n ≤ 1000) (g : Nat) (f : Tr → Bool)
    (HC : ∀ W, Mod (fun _ => False) w W → ∀ s : Tr, Calls Try.prog 32 #[.agg #[.int .i64 s.a, .int .i64 s.b, .int .i64 s.c], .pointer (some ⟨g, 0, none⟩)] W fun e w' => e = .returned (.bool (f s)) ∧ Mod (fun _ => False) W w') :
    Calls Try.prog 25 #[.slice A0 n c0, .func (.func 32) #[] #[.pointer (some ⟨g, 0, none⟩)]] w fun e w' => FdAns w w' (l.filter f) e := by
  have HX := Lib.hid h
  have HK := Lib.hid HC
  have Hl : Hid (l.length = n) := h.len
  have HR : Hid (Fnd w w (fl f l 0) none 0) := by rw [fl_zero]; exact ⟨OwN.nil _ _ _ _, Mod.refl _ _⟩
  have hz : (fl f l 0).length = 0 := by rw [fl_zero]; rfl
  clear HC h
  go_enter Try.func25, Try.ntmps25
  go_wp2
  go_loopw [5, 10] (fun s i wr => ∃ (j : Nat) (A : Option Addr) (c : Nat), j ≤ n ∧ i = .int .i64 j ∧ s = .slice A (fl f l j).length c ∧ Fnd w wr (fl f l j) A c) (fun _ i _ => n - (intOf i).toNat)
  case atStart => exact ⟨0, none, 0, Nat.zero_le _, rfl, by rw [hz], HR.out⟩
  case round =>
    obtain ⟨j, A, c, hj, rfl, rfl, hr⟩ := hrel
    clear hz HR
    have Hr := Lib.hid hr
    clear hr
    by_cases hlt : j < n
    · obtain ⟨b, o, hS, hc⟩ := (HX.out.keep Hr.out.old).cells (by omega)
      rw [hS]
      obtain ⟨s0, s1, s2⟩ := hc j hlt
      have Hyes : Hid (f (atS l j) = true → fl f l (j + 1) = fl f l j ++ [atS l j]) := fl_yes (by rw [Hl.out]; exact hlt)
      have Hno : Hid (f (atS l j) = false → fl f l (j + 1) = fl f l j) := fl_no (by rw [Hl.out]; exact hlt)
      generalize hT : atS l j = s at *
      clear hT hc hS
      have hcb := fl_len f l j
      have hmb : Mod (fun _ => False) w (wr.alloc (.cells #[.int .i64 s.a, .int .i64 s.b, .int .i64 s.c] 37)) := Hr.out.old.alloc _
      have Hr2 : Hid (Fnd w (wr.alloc (.cells #[.int .i64 s.a, .int .i64 s.b, .int .i64 s.c] 37)) (fl f l j) A c) := ⟨OwN.alloc Hr.out.own _, hmb⟩
      have hbx : RBx (wr.alloc (.cells #[.int .i64 s.a, .int .i64 s.b, .int .i64 s.c] 37)) wr.heap.size 37 s := RBx.new wr _ s
      have Hcl := Lib.hid (HK.out _ hmb s)
      have Hbx := Lib.hid hbx
      clear hmb Hr hbx
      cases hf : f s with
      | true =>
        rw [hf] at Hcl
        have Hfl := Lib.hid (Hyes.out hf)
        clear hf Hyes Hno
        go_wp2_with fail
        refine Hcl.out.mono ?_
        rintro e w2 ⟨rfl, hm2⟩
        have Hr3 : Hid (Fnd w w2 (fl f l j) A c) := ⟨Hr2.out.own.keep hm2, Hr2.out.old.trans hm2 (fun _ _ h => h)⟩
        have hb2 := Hbx.out.keep hm2
        obtain ⟨e0, e1, e2⟩ := hb2.cells
        clear hm2 Hr2 s0 s1 s2 hb2 Hcl Hbx
        have Hown := Lib.hid (OwN.alloc Hr3.out.own (.cells #[.int .i64 s.a, .int .i64 s.b, .int .i64 s.c] 37))
        have Hsrc := Lib.hid (SrcN.lit w2 [.int .i64 s.a, .int .i64 s.b, .int .i64 s.c] 37 (by simp [Value.oneCell']))
        have Hbase : Hid (w.heap.size ≤ (w2.alloc (.cells #[.int .i64 s.a, .int .i64 s.b, .int .i64 s.c] 37)).heap.size) := by
          show _ ≤ _
          rw [World.size_alloc]
          have := Hr3.out.old.size
          omega
        go_wp2_with (at_builtin; refine wpList_appN (.tmp 17) (.tmp 19) hdElem rfl rfl rfl rfl Hown.out Hsrc.out (by omega) (by unfold maxLen; omega) Hbase.out ?_; intro A' c' w3 h1 h2 h3; have H1 := Lib.hid h1; have H2 := Lib.hid h2; clear h1 h2 h3)
        have Hr4 : Hid (Fnd w w3 (fl f l (j + 1)) A' c') := by
          refine ⟨?_, ?_⟩
          · rw [Hfl.out]
            have h1 := H1.out
            show OwN w3 _ _ 3 A' _ c' (trs _)
            rw [trs_append, List.length_append]
            exact h1
          · exact (Hr3.out.old.alloc (.cells #[.int .i64 s.a, .int .i64 s.b, .int .i64 s.c] 37)).grown H2.out (fun k e hk => by have := (Hr3.out.own.lt k e).1; omega)
        have Hln : Hid ((fl f l (j + 1)).length = (fl f l j).length + 1) := by show _ = _; rw [Hfl.out, List.length_append]; rfl
        clear H1 H2
        go_roundw
        case rel => exact ⟨j + 1, A', c', by omega, by go_num, by rw [Hln.out], Hr4.out⟩
        case measure => simp [intOf]; omega
      | false =>
        rw [hf] at Hcl
        have Hfl := Lib.hid (Hno.out hf)
        clear hf Hyes Hno
        go_wp2_with fail
        refine Hcl.out.mono ?_
        rintro e w2 ⟨rfl, hm2⟩
        have Hr3 : Hid (Fnd w w2 (fl f l (j + 1)) A c) := by
          rw [Hfl.out]
          exact ⟨Hr2.out.own.keep hm2, Hr2.out.old.trans hm2 (fun _ _ h => h)⟩
        clear hm2 Hr2 s0 s1 s2 Hcl Hbx
        go_wp2
        go_roundw
        case rel => exact ⟨j + 1, A, c, by omega, by go_num, by rw [Hfl.out], Hr3.out⟩
        case measure => simp [intOf]; omega
    · obtain rfl : j = n := by omega
      have Ha : Hid (fl f l j = l.filter f) := by show _ = _; rw [← Hl.out]; exact fl_all f l
      rw [Ha.out] at Hr ⊢
      go_wp2
      go_ret
      exact ⟨A, c, rfl, Hr.out.own, Hr.out.old⟩

set_option maxRecDepth 100000 in
set_option maxHeartbeats 3200000 in
theorem find_Drop (w : World) (A0 : Option Addr) (n c0 : Nat) (l : List Tr) (h : Tl w A0 n c0 l) (hn : n ≤ 1000) (g : Nat) (f : Tr → Bool)
    (HC : ∀ W, Mod (fun _ => False) w W → ∀ s : Tr, Calls Try.prog 35 #[.agg #[.int .i64 s.a, .int .i64 s.b, .int .i64 s.c], .pointer (some ⟨g, 0, none⟩)] W fun e w' => e = .returned (.bool (f s)) ∧ Mod (fun _ => False) W w') :
    Calls Try.prog 25 #[.slice A0 n c0, .func (.func 35) #[] #[.pointer (some ⟨g, 0, none⟩)]] w fun e w' => FdAns w w' (l.filter f) e := by
  have HX := Lib.hid h
  have HK := Lib.hid HC
  have Hl : Hid (l.length = n) := h.len
  have HR : Hid (Fnd w w (fl f l 0) none 0) := by rw [fl_zero]; exact ⟨OwN.nil _ _ _ _, Mod.refl _ _⟩
  have hz : (fl f l 0).length = 0 := by rw [fl_zero]; rfl
  clear HC h
  go_enter Try.func25, Try.ntmps25
  go_wp2
  go_loopw [5, 10] (fun s i wr => ∃ (j : Nat) (A : Option Addr) (c : Nat), j ≤ n ∧ i = .int .i64 j ∧ s = .slice A (fl f l j).length c ∧ Fnd w wr (fl f l j) A c) (fun _ i _ => n - (intOf i).toNat)
  case atStart => exact ⟨0, none, 0, Nat.zero_le _, rfl, by rw [hz], HR.out⟩
  case round =>
    obtain ⟨j, A, c, hj, rfl, rfl, hr⟩ := hrel
    clear hz HR
    have Hr := Lib.hid hr
    clear hr
    by_cases hlt : j < n
    · obtain ⟨b, o, hS, hc⟩ := (HX.out.keep Hr.out.old).cells (by omega)
      rw [hS]
      obtain ⟨s0, s1, s2⟩ := hc j hlt
      have Hyes : Hid (f (atS l j) = true → fl f l (j + 1) = fl f l j ++ [atS l j]) := fl_yes (by rw [Hl.out]; exact hlt)
      have Hno : Hid (f (atS l j) = false → fl f l (j + 1) = fl f l j) := fl_no (by rw [Hl.out]; exact hlt)
      generalize hT : atS l j = s at *
      clear hT hc hS
      have hcb := fl_len f l j
      have hmb : Mod (fun _ => False) w (wr.alloc (.cells #[.int .i64 s.a, .int .i64 s.b, .int .i64 s.c] 37)) := Hr.out.old.alloc _
      have Hr2 : Hid (Fnd w (wr.alloc (.cells #[.int .i64 s.a, .int .i64 s.b, .int .i64 s.c] 37)) (fl f l j) A c) := ⟨OwN.alloc Hr.out.own _, hmb⟩
      have hbx : RBx (wr.alloc (.cells #[.int .i64 s.a, .int .i64 s.b, .int .i64 s.c] 37)) wr.heap.size 37 s := RBx.new wr _ s
      have Hcl := Lib.hid (HK.out _ hmb s)
      have Hbx := Lib.hid hbx
      clear hmb Hr hbx
      cases hf : f s with
      | true =>
        rw [hf] at Hcl
        have Hfl := Lib.hid (Hyes.out hf)
        clear hf Hyes Hno
        go_wp2_with fail
        refine Hcl.out.mono ?_
        rintro e w2 ⟨rfl, hm2⟩
        have Hr3 : Hid (Fnd w w2 (fl f l j) A c) := ⟨Hr2.out.own.keep hm2, Hr2.out.old.trans hm2 (fun _ _ h => h)⟩
        have hb2 := Hbx.out.keep hm2
        obtain ⟨e0, e1, e2⟩ := hb2.cells
        clear hm2 Hr2 s0 s1 s2 hb2 Hcl Hbx
        have Hown := Lib.hid (OwN.alloc Hr3.out.own (.cells #[.int .i64 s.a, .int .i64 s.b, .int .i64 s.c] 37))
        have Hsrc := Lib.hid (SrcN.lit w2 [.int .i64 s.a, .int .i64 s.b, .int .i64 s.c] 37 (by simp [Value.oneCell']))
        have Hbase : Hid (w.heap.size ≤ (w2.alloc (.cells #[.int .i64 s.a, .int .i64 s.b, .int .i64 s.c] 37)).heap.size) := by
          show _ ≤ _
          rw [World.size_alloc]
          have := Hr3.out.old.size
          omega
        go_wp2_with (at_builtin; refine wpList_appN (.tmp 17) (.tmp 19) hdElem rfl rfl rfl rfl Hown.out Hsrc.out (by omega) (by unfold maxLen; omega) Hbase.out ?_; intro A' c' w3 h1 h2 h3; have H1 := Lib.hid h1; have H2 := Lib.hid h2; clear h1 h2 h3)
        have Hr4 : Hid (Fnd w w3 (fl f l (j + 1)) A' c') := by
          refine ⟨?_, ?_⟩
          · rw [Hfl.out]
            have h1 := H1.out
            show OwN w3 _ _ 3 A' _ c' (trs _)
            rw [trs_append, List.length_append]
            exact h1
          · exact (Hr3.out.old.alloc (.cells #[.int .i64 s.a, .int .i64 s.b, .int .i64 s.c] 37)).grown H2.out (fun k e hk => by have := (Hr3.out.own.lt k e).1; omega)
        have Hln : Hid ((fl f l (j + 1)).length = (fl f l j).length + 1) := by show _ = _; rw [Hfl.out, List.length_append]; rfl
        clear H1 H2
        go_roundw
        case rel => exact ⟨j + 1, A', c', by omega, by go_num, by rw [Hln.out], Hr4.out⟩
        case measure => simp [intOf]; omega
      | false =>
        rw [hf] at Hcl
        have Hfl := Lib.hid (Hno.out hf)
        clear hf Hyes Hno
        go_wp2_with fail
        refine Hcl.out.mono ?_
        rintro e w2 ⟨rfl, hm2⟩
        have Hr3 : Hid (Fnd w w2 (fl f l (j + 1)) A c) := by
          rw [Hfl.out]
          exact ⟨Hr2.out.own.keep hm2, Hr2.out.old.trans hm2 (fun _ _ h => h)⟩
        clear hm2 Hr2 s0 s1 s2 Hcl Hbx
        go_wp2
        go_roundw
        case rel => exact ⟨j + 1, A, c, by omega, by go_num, by rw [Hfl.out], Hr3.out⟩
        case measure => simp [intOf]; omega
    · obtain rfl : j = n := by omega
      have Ha : Hid (fl f l j = l.filter f) := by show _ = _; rw [← Hl.out]; exact fl_all f l
      rw [Ha.out] at Hr ⊢
      go_wp2
      go_ret
      exact ⟨A, c, rfl, Hr.out.own, Hr.out.old⟩

end Go.Proofs.Ytpkjafadhnecfaa
