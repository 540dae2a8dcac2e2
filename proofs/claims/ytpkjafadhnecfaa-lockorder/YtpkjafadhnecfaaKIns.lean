/-
  The contract of slices.Insert at one lock.
-/
import Derived.Test.YtpkjafadhnecfaaKRowN
import Derived.Test.YtpkjafadhnecfaaKBit
namespace Go.Proofs.Ytpkjafadhnecfaa
open Go Go.RowKit

theorem OwN.pl {w : World} {A : Option Addr} {n c base : Nat} {e : TypeId} {l : List Tr} (h : OwN w base e 3 A n c (trs l)) : Tl w A n c l := Ow3.tl h
theorem trs_drop : ∀ (i : Nat) (l : List Tr), (trs l).drop (i * 3) = trs (l.drop i)
  | 0, l => by simp
  | i + 1, [] => by simp [trs]
  | i + 1, x :: l => by
    have e : (i + 1) * 3 = (tri x).length + i * 3 := by simp [tri]; omega
    rw [trs_cons, e, List.drop_append, List.drop_of_length_le (by omega), List.nil_append, Nat.add_sub_cancel_left, List.drop_succ_cons]
    exact trs_drop i l
theorem Tl.drop {w : World} {b o i n c : Nat} {l : List Tr} (h : Tl w (some ⟨b, o, none⟩) n c l) : Tl w (some ⟨b, o + i * 3, none⟩) (n - i) (c - i) (l.drop i) := by
  refine ⟨by rw [List.length_drop, h.1], by have := h.2.1; omega, fun hp => ?_⟩
  obtain ⟨b', o', hA, hc⟩ := h.2.2 (by omega)
  injection hA with hA
  injection hA with h1 h2 _
  subst h1; subst h2
  refine ⟨_, _, rfl, fun j hj => ?_⟩
  have := hc (i + j) (by omega)
  rw [show o + (i + j) * 3 = o + i * 3 + j * 3 by omega] at this
  have e : atS (l.drop i) j = atS l (i + j) := by simp [atS, List.getElem?_drop]
  rw [e]
  exact this
theorem Tl.take {w : World} {A : Option Addr} {n c m c' : Nat} {l : List Tr} (h : Tl w A n c l) (hm : m ≤ n) (hc' : m ≤ c') : Tl w A m c' (l.take m) := by
  refine ⟨by rw [List.length_take, h.1]; omega, hc', fun hp => ?_⟩
  obtain ⟨b, o, hA, hc⟩ := h.2.2 (by omega)
  refine ⟨b, o, hA, fun j hj => ?_⟩
  have e : atS (l.take m) j = atS l j := by simp [atS, hj]
  rw [e]
  exact hc j (by omega)

/-- What Insert leaves. -/
structure Put (w w' : World) (base : Nat) (A A' : Option Addr) (n' c' : Nat) (l' : List Tr) : Prop where
  own : OwN w' base 37 3 A' n' c' (trs l')
  mod : Mod (fun k => blkOf A = some k) w w'
  new : ∀ k, blkOf A' = some k → blkOf A = some k ∨ w.heap.size ≤ k

theorem splice_three (X Y V C : List Value) (a b : Nat) (ha : X.length = a) (hY : Y.length = b) (hV : V.length = 3) (hC : a + b + 3 ≤ C.length) (h1 : C.take (a + b) = X ++ Y) :
    (splice (splice C (a + 3) Y) a V).take (a + b + 3) = X ++ (V ++ Y) := by
  have hX : C.take a = X := by
    have e : (C.take (a + b)).take a = C.take a := by rw [List.take_take, Nat.min_eq_left (by omega)]
    rw [← e, h1, List.take_left' ha]
  have e1 : (C.take (a + 3)).length = a + 3 := by rw [List.length_take]; omega
  have e2 : (splice C (a + 3) Y).take a = X := by
    unfold splice
    rw [List.take_append_of_le_length (by omega), List.take_take, Nat.min_eq_left (by omega), hX]
  have e3 : (splice C (a + 3) Y).drop (a + V.length) = Y ++ C.drop (a + 3 + Y.length) := by
    unfold splice
    rw [hV, List.drop_left' e1]
  show ((splice C (a + 3) Y).take a ++ (V ++ (splice C (a + 3) Y).drop (a + V.length))).take (a + b + 3) = _
  rw [e2, e3]
  have e4 : X ++ (V ++ (Y ++ C.drop (a + 3 + Y.length))) = (X ++ (V ++ Y)) ++ C.drop (a + 3 + Y.length) := by simp
  rw [e4, List.take_left' (by simp only [List.length_append]; omega)]

/-- Over a row that is laid anew: behind X anything. -/
theorem splice_new (X Y V Z : List Value) (a b : Nat) (ha : X.length = a) (hY : Y.length = b) (hV : V.length = 3) :
    (splice (splice (X ++ Z) a V) (a + 3) Y).take (a + b + 3) = X ++ (V ++ Y) := by
  have e1 : splice (X ++ Z) a V = X ++ (V ++ Z.drop 3) := by
    unfold splice
    rw [List.take_left' ha, hV, ← ha, List.drop_append, List.drop_of_length_le (by omega), show X.length + 3 - X.length = 3 by omega]
    rfl
  rw [e1]
  have e2 : (X ++ (V ++ Z.drop 3)).take (a + 3) = X ++ V := by
    rw [← List.append_assoc, List.take_left' (by rw [List.length_append]; omega)]
  unfold splice
  rw [e2, ← List.append_assoc, List.take_left' (by simp only [List.length_append]; omega), List.append_assoc]

set_option maxRecDepth 100000 in
theorem insert_end (w : World) (base : Nat) (A : Option Addr) (n c : Nat) (l : List Tr) (h : OwN w base 37 3 A n c (trs l)) (hn : n ≤ 1000) (hb : base ≤ w.heap.size)
    (vb : Nat) (x : Tr) (hv : w.heap[vb]? = some (.cells #[.int .i64 x.a, .int .i64 x.b, .int .i64 x.c] 37 (0, 0))) :
    Calls Try.prog 33 #[.slice A n c, .int .i64 n, .slice (some ⟨vb, 0, none⟩) 1 1] w fun e w' =>
      ∃ A' c', e = .returned (.slice A' (n + 1) c') ∧ Put w w' base A A' (n + 1) c' (l ++ [x]) := by
  have hs : SrcN w (some ⟨vb, 0, none⟩) 1 3 [.int .i64 x.a, .int .i64 x.b, .int .i64 x.c] := ⟨rfl, by simp [Value.oneCell'], fun _ => ⟨_, rfl, World.news_of_block hv⟩⟩
  have hcap := h.cap
  have hmax : c ≤ maxLen := by
    rcases h.2 with ⟨hv', _⟩ | ⟨g, cap, cur, hv', _, _, _, h2, _⟩
    · injection hv' with _ _ hc; rw [hc]; decide
    · injection hv' with _ _ hc; rw [hc]; exact h2
  unfold maxLen at hmax
  have H := Lib.hid h
  have Hs := Lib.hid hs
  have Hb := Lib.hid hb
  clear h hs hb hv
  have fin : ∀ A' c' w', OwN w' base 37 3 A' (n + 1) c' (trs l ++ [.int .i64 x.a, .int .i64 x.b, .int .i64 x.c]) → w.grownBy w' (blkOf A) → (blkOf A' = blkOf A ∨ blkOf A' = some w.heap.size) → Put w w' base A A' (n + 1) c' (l ++ [x]) := by
    intro A' c' w' h1 h2 h3
    refine ⟨by rw [trs_append]; exact h1, (Mod.refl _ w).grown h2 (fun k e _ => e), fun k hk => ?_⟩
    rcases h3 with e | e
    · left; rw [← e]; exact hk
    · right; rw [e] at hk; injection hk with hk; omega
  have Hfin := Lib.hid fin
  clear fin
  by_cases hcn : c = n
  · subst hcn
    go_enter Try.func33, Try.ntmps33
    go_wp2_with (at_builtin; refine wpList_appN (.tmp 23) (.tmp 24) hdElem rfl rfl rfl rfl H.out Hs.out (by omega) (by unfold maxLen; omega) Hb.out ?_; intro A' c' w' h1 h2 h3; have Hput := Lib.hid (Hfin.out A' c' w' h1 h2 h3); clear h1 h2 h3)
    go_ret
    exact ⟨_, _, rfl, Hput.out⟩
  · go_enter Try.func33, Try.ntmps33
    go_wp2_with (at_builtin; refine wpList_appN (.tmp 23) (.tmp 24) hdElem rfl rfl rfl rfl H.out Hs.out (by omega) (by unfold maxLen; omega) Hb.out ?_; intro A' c' w' h1 h2 h3; have Hput := Lib.hid (Hfin.out A' c' w' h1 h2 h3); clear h1 h2 h3)
    go_ret
    exact ⟨_, _, rfl, Hput.out⟩

theorem shape_of {w : World} {g : Nat} {cs : Array Value} {t : TypeId} (h : w.heap[g]? = some (.cells cs t (0, 0))) : w.shape? g = some (t, cs.size) := by
  simp [World.shape?, h]
theorem overlaps_no (w : World) (vb g off lb cb : Nat) (cs cs' : Array Value) (hne : vb ≠ g) (hv : w.heap[vb]? = some (.cells cs 37 (0, 0))) (hg : w.heap[g]? = some (.cells cs' 37 (0, 0))) (hz : cs'.size ≠ 0) :
    (callFunc 46 #[.slice (some ⟨vb, 0, none⟩) 1 1, .slice (some ⟨g, off, none⟩) lb cb]).run Try.prog w = .ok (.value (.bool false)) w := by
  rw [run_callFunc_extern Try.func46 (by kernel_rfl) (by kernel_rfl) (by kernel_rfl) (e := Extern.SlicesOverlaps.overlaps #[22, 22] #[4]) (by kernel_rfl),
    Lib.run_overlaps_apart w 22 4 37 Try.underlying22 3 (fun _ => by kernel_rfl) ⟨vb, 0, none⟩ ⟨g, off, none⟩ 1 1 lb cb hne _ _ _ _ (shape_of hv) (shape_of hg) hz (frozen_of_block hv _) (frozen_of_block hv _)]
  rfl

set_option maxRecDepth 100000 in
set_option maxHeartbeats 1000000 in
theorem insert_shift (w : World) (base : Nat) (g n c i : Nat) (l : List Tr) (h : OwN w base 37 3 (some ⟨g, 0, none⟩) n c (trs l)) (hn : n ≤ 1000) (hi : i < n) (hroom : n + 1 ≤ c)
    (vb : Nat) (x : Tr) (hv : w.heap[vb]? = some (.cells #[.int .i64 x.a, .int .i64 x.b, .int .i64 x.c] 37 (0, 0))) (hne : vb ≠ g) :
    Calls Try.prog 33 #[.slice (some ⟨g, 0, none⟩) n c, .int .i64 i, .slice (some ⟨vb, 0, none⟩) 1 1] w fun e w' =>
      ∃ A' c', e = .returned (.slice A' (n + 1) c') ∧ Put w w' base (some ⟨g, 0, none⟩) A' (n + 1) c' (l.take i ++ x :: l.drop i) := by
  obtain ⟨g', cur, hA, hbg, hg, _, hmax, hcl, htk⟩ := h.open_ (by omega)
  injection hA with hA
  injection hA with hA
  subst hA
  have hll : l.length = n := h.pl.len
  unfold maxLen at hmax
  have Hov := Lib.hid (fun lb cb off => overlaps_no w vb g off lb cb _ _ hne hv hg (by rw [List.size_toArray, hcl]; omega))
  have hov := Hov.out
  have Hg := Lib.hid hg
  have Hv := Lib.hid hv
  have Htk := Lib.hid htk
  have Hll := Lib.hid hll
  clear hg hv htk hll h Hov
  have hz1 : ¬ ((i : Int) = (n : Int)) := by omega
  have hz2 : ¬ (c = i) := by omega
  have hz3 : ¬ (c = i + 1) := by omega
  go_enter Try.func33, Try.ntmps33
  have hw1 : IntKind.i64.wrap ((i : Int) + 1) = (i : Int) + 1 := by rw [IntKind.wrap_i64]; omega
  have hb1 : (0 : Int) ≤ (i : Int) + 1 := by omega
  have hin : i ≤ n := by omega
  have htn : ((i : Int) + 1).toNat = i + 1 := by omega
  have hb3 : (i : Int) ≤ (n : Int) + 1 := by omega
  have Hgd : Hid (w.drew.heap[g]? = some (.cells cur.toArray 37 (0, 0))) := Hg.out
  have Hm1 : Hid (Nat.min (n + 1 - i) (n + 1 - (i + 1)) = n - i) := by show Nat.min _ _ = _; simp only [Nat.min_def]; split <;> omega
  have Hn1 : Hid ((trs (l.drop i)).length = (n - i) * 3) := by show _ = _; rw [trs_len, List.length_drop, Hll.out]
  have Hp1 : Hid (0 < n - i → ∃ ad, (some ⟨g, i * 3, none⟩ : Option Addr) = some ad ∧ ∀ j v, (trs (l.drop i))[j]? = some v → w.drew.cell? (ad.add j) = some v) := fun _ => ⟨_, rfl, fun j v hj => by
    rw [Addr.add_lit]
    show w.cell? _ = _
    rw [← trs_drop, ← Htk.out, List.getElem?_drop, List.getElem?_take] at hj
    split at hj
    · rw [cell_of_row _ _ _ _ _ _ Hg.out]; simpa using hj
    · cases hj⟩
  have Hf1 : Hid ((i + 1) * 3 + (trs (l.drop i)).length ≤ cur.length) := by show _ ≤ _; rw [Hn1.out, hcl]; omega
  have Ho1 := Lib.hid (trs_one (l.drop i))
  go_wp2_with (simp only [hov])
  go_region_law ((rw [if_pos (by simp [Region.wanted])]); refine wp_copyN (.tmp 73) (.tmp 76) (dp := some ⟨g, (i + 1) * 3, none⟩) (dLen := n + 1 - (i + 1)) (dCap := c - (i + 1)) (sp := some ⟨g, i * 3, none⟩) (sLen := n + 1 - i) (sCap := c - i) hdElem rfl (by go_simp) (by go_simp) Hgd.out Hm1.out Hn1.out (fun hp => ⟨rfl, Hp1.out hp⟩) Hf1.out Ho1.out ?_; intro w2 hg2 hm2 hs2)
  have Hg2 := Lib.hid hg2
  have Hm2 := Lib.hid hm2
  have Hv2 : Hid (w2.heap[vb]? = some (.cells #[.int .i64 x.a, .int .i64 x.b, .int .i64 x.c] 37 (0, 0))) := (hm2.block vb (Array.getElem?_eq_some_iff.1 Hv.out).1 hne).trans Hv.out
  clear hg2 hm2 hs2
  have Hm3 : Hid (Nat.min 1 (n + 1 - i) = 1) := by show Nat.min _ _ = _; simp only [Nat.min_def]; split <;> omega
  have Hp3 : Hid (0 < 1 → ∃ ad, (some ⟨vb, 0, none⟩ : Option Addr) = some ad ∧ ∀ j v, [Value.int .i64 x.a, .int .i64 x.b, .int .i64 x.c][j]? = some v → w2.cell? (ad.add j) = some v) := fun _ => ⟨_, rfl, World.news_of_block Hv2.out⟩
  have hl1 : (splice cur ((i + 1) * 3) (trs (l.drop i))).length = c * 3 := by rw [length_splice _ _ _ Hf1.out, hcl]
  have Hf3 : Hid (i * 3 + [Value.int .i64 x.a, .int .i64 x.b, .int .i64 x.c].length ≤ (splice cur ((i + 1) * 3) (trs (l.drop i))).length) := by show _ ≤ _; rw [hl1]; simp only [List.length_cons, List.length_nil]; omega
  have Hl1 := Lib.hid hl1
  clear hl1
  go_wp2_with (with_reducible refine wpList_plain rfl (fun K hK => wp_copyN (.tmp 80) (.tmp 81) (dp := some ⟨g, i * 3, none⟩) (dLen := n + 1 - i) (dCap := c - i) (sp := some ⟨vb, 0, none⟩) (sLen := 1) (sCap := 1) hdElem rfl rfl rfl Hg2.out Hm3.out rfl (fun hp => ⟨rfl, Hp3.out hp⟩) Hf3.out (by simp [Value.oneCell']) (fun w3 hg3 hm3 hs3 => hK _ _ ?_)); have Hg3 := Lib.hid hg3; have Hm3 := Lib.hid hm3; clear hg3 hm3 hs3 hK K)
  go_ret
  refine ⟨_, _, rfl, ?_, ?_, fun k hk => .inl hk⟩
  · refine OwN.mk_ hbg Hg3.out (by omega) (by unfold maxLen; omega) (by rw [length_splice _ _ _ Hf3.out, Hl1.out]) ?_ (by rw [trs_len, List.length_append, List.length_cons, List.length_take, List.length_drop, Hll.out]; omega)
    have := splice_three (trs (l.take i)) (trs (l.drop i)) [.int .i64 x.a, .int .i64 x.b, .int .i64 x.c] cur (i * 3) ((n - i) * 3) (by rw [trs_len, List.length_take, Hll.out]; omega) Hn1.out rfl (by rw [hcl]; omega) (by rw [show i * 3 + (n - i) * 3 = n * 3 by omega, Htk.out, ← trs_append, List.take_append_drop])
    rw [show (i + 1) * 3 = i * 3 + 3 by omega, show (n + 1) * 3 = i * 3 + (n - i) * 3 + 3 by omega, this, trs_append]
    rfl
  · exact (((Mod.refl (fun k => k = g) w).drew.trans Hm2.out (fun _ _ e => e)).trans Hm3.out (fun _ _ e => e)).mono (fun _ _ e => by simp [blkOf, e])

set_option maxRecDepth 100000 in
set_option maxHeartbeats 1000000 in
theorem insert_grow (w : World) (base : Nat) (g n i : Nat) (l : List Tr) (h : OwN w base 37 3 (some ⟨g, 0, none⟩) n n (trs l)) (hn : n ≤ 1000) (hi : i < n) (hb : base ≤ w.heap.size)
    (vb : Nat) (x : Tr) (hv : w.heap[vb]? = some (.cells #[.int .i64 x.a, .int .i64 x.b, .int .i64 x.c] 37 (0, 0))) :
    Calls Try.prog 33 #[.slice (some ⟨g, 0, none⟩) n n, .int .i64 i, .slice (some ⟨vb, 0, none⟩) 1 1] w fun e w' =>
      ∃ A' c', e = .returned (.slice A' (n + 1) c') ∧ Put w w' base (some ⟨g, 0, none⟩) A' (n + 1) c' (l.take i ++ x :: l.drop i) := by
  have hpl := h.pl
  have hll : l.length = n := hpl.len
  have hgl : g < w.heap.size := (h.lt g rfl).2
  have hvl : vb < w.heap.size := (Array.getElem?_eq_some_iff.1 hv).1
  have Hs0 := Lib.hid (hpl.take (m := i) (c' := n) (by omega) (by omega)).src
  have hdr := (hpl.drop (i := i)).src
  rw [Nat.zero_add] at hdr
  have Hdr := Lib.hid hdr
  have Hv := Lib.hid hv
  have Hll := Lib.hid hll
  have Hb := Lib.hid hb
  clear hv hll h hpl hdr hb
  have hz1 : ¬ ((i : Int) = (n : Int)) := by omega
  have hz2 : ¬ (n = i) := by omega
  have hw1 : IntKind.i64.wrap ((i : Int) + 1) = (i : Int) + 1 := by rw [IntKind.wrap_i64]; omega
  have hb1 : (0 : Int) ≤ (i : Int) + 1 := by omega
  have hin : i ≤ n := by omega
  have htn : ((i : Int) + 1).toNat = i + 1 := by omega
  have hb3 : (i : Int) ≤ (n : Int) + 1 := by omega
  go_enter Try.func33, Try.ntmps33
  have Hm3 : Hid (Nat.min 1 (n + 1 - i) = 1) := by show Nat.min _ _ = _; simp only [Nat.min_def]; split <;> omega
  have Hm4 : Hid (Nat.min (n - i) (n + 1 - (i + 1)) = n - i) := by show Nat.min _ _ = _; simp only [Nat.min_def]; split <;> omega
  have Hlt : Hid ((trs (l.take i)).length = i * 3) := by show _ = _; rw [trs_len, List.length_take, Hll.out]; omega
  have Hn1 : Hid ((trs (l.drop i)).length = (n - i) * 3) := by show _ = _; rw [trs_len, List.length_drop, Hll.out]
  go_wp2_with (first
    | (at_builtin; refine wpList_plain rfl (fun K hK => wp_appZerosN (.tmp 34) (.tmp 39) (A := some ⟨g, 0, none⟩) (n := i) (c := n) (k := n + 1 - i) (N := n + 1) hdElem Try.underlying3 rfl rfl rfl (by omega) (by omega) Hs0.out (by omega) (by omega) (by omega) (by omega) (by unfold maxLen; omega) (fun w2 zs c2 hg2 hl2 hc2 hx2 hm2 hs2 => hK _ _ ?_))
       have Hg2 := Lib.hid hg2
       have Hl2 := Lib.hid hl2
       have Hm2 := Lib.hid hm2
       have Hx2 := Lib.hid hx2
       have Hp3 : Hid (0 < 1 → ∃ ad, (some ⟨vb, 0, none⟩ : Option Addr) = some ad ∧ ∀ j v, [Value.int .i64 x.a, .int .i64 x.b, .int .i64 x.c][j]? = some v → w2.cell? (ad.add j) = some v) := fun _ => ⟨_, rfl, World.news_of_block ((hm2.block vb hvl id).trans Hv.out)⟩
       have Hf3 : Hid (i * 3 + [Value.int .i64 x.a, .int .i64 x.b, .int .i64 x.c].length ≤ (trs (l.take i) ++ zs).length) := by show _ ≤ _; rw [hl2]; simp only [List.length_cons, List.length_nil]; omega
       clear hg2 hl2 hm2 hx2 hs2 hK K)
    | (with_reducible refine wpList_plain rfl (fun K hK => wp_copyN (.tmp 43) (.tmp 44) (dp := some ⟨w.heap.size, i * 3, none⟩) (dLen := n + 1 - i) (dCap := c2 - i) (sp := some ⟨vb, 0, none⟩) (sLen := 1) (sCap := 1) hdElem rfl rfl rfl Hg2.out Hm3.out rfl (fun hp => ⟨rfl, Hp3.out hp⟩) Hf3.out (by simp [Value.oneCell']) (fun w3 hg3 hm3 hs3 => hK _ _ ?_))
       have Hg3 := Lib.hid hg3
       have Hm3' := Lib.hid hm3
       clear hg3 hm3 hs3 hK K))
  have hlen3 : (splice (trs (l.take i) ++ zs) (i * 3) [Value.int .i64 x.a, .int .i64 x.b, .int .i64 x.c]).length = c2 * 3 := by rw [length_splice _ _ _ Hf3.out, Hl2.out]
  have Hg3d : Hid (w3.drew.heap[w.heap.size]? = some (.cells (splice (trs (l.take i) ++ zs) (i * 3) [Value.int .i64 x.a, .int .i64 x.b, .int .i64 x.c]).toArray 37 (0, 0))) := Hg3.out
  have Hgk : Hid (w3.drew.heap[g]? = w.heap[g]?) := by
    show w3.heap[g]? = w.heap[g]?
    exact (Hm3'.out.block g (by have := Hm2.out.size; omega) (by omega)).trans (Hm2.out.block g hgl id)
  have Hp4 : Hid (0 < n - i → ∃ ad, (some ⟨g, i * 3, none⟩ : Option Addr) = some ad ∧ ∀ j v, (trs (l.drop i))[j]? = some v → w3.drew.cell? (ad.add j) = some v) := fun hp => by
    obtain ⟨ad, e, hc⟩ := Hdr.out.2.2 hp
    injection e with e
    subst e
    refine ⟨_, rfl, fun j v hj => ?_⟩
    have h1 := hc j v hj
    rw [Addr.add_lit] at h1 ⊢
    exact (World.cell?_of_block Hgk.out).trans h1
  have Hf4 : Hid ((i + 1) * 3 + (trs (l.drop i)).length ≤ (splice (trs (l.take i) ++ zs) (i * 3) [Value.int .i64 x.a, .int .i64 x.b, .int .i64 x.c]).length) := by show _ ≤ _; rw [hlen3, Hn1.out]; omega
  have Ho4 := Lib.hid (trs_one (l.drop i))
  have hz4 : ¬ (c2 = i + 1) := by omega
  have Hlen3 := Lib.hid hlen3
  clear hlen3
  go_region_law ((rw [if_pos (by simp [Region.wanted])]); refine wp_copyN (.tmp 50) (.tmp 53) (dp := some ⟨w.heap.size, (i + 1) * 3, none⟩) (dLen := n + 1 - (i + 1)) (dCap := c2 - (i + 1)) (sp := some ⟨g, i * 3, none⟩) (sLen := n - i) (sCap := n - i) hdElem rfl (by go_simp) (by go_simp) Hg3d.out Hm4.out Hn1.out (fun hp => ⟨rfl, Hp4.out hp⟩) Hf4.out Ho4.out ?_; intro w4 hg4 hm4 hs4)
  have Hg4 := Lib.hid hg4
  have Hm5 := Lib.hid hm4
  clear hg4 hm4 hs4
  go_wp2
  go_ret
  refine ⟨_, _, rfl, ?_, ?_, fun k hk => .inr (by simp [blkOf] at hk; omega)⟩
  · refine OwN.mk_ Hb.out Hg4.out (by omega) Hx2.out (by rw [length_splice _ _ _ Hf4.out, Hlen3.out]) ?_ (by rw [trs_len, List.length_append, List.length_cons, List.length_take, List.length_drop, Hll.out]; omega)
    have := splice_new (trs (l.take i)) (trs (l.drop i)) [.int .i64 x.a, .int .i64 x.b, .int .i64 x.c] zs (i * 3) ((n - i) * 3) Hlt.out Hn1.out rfl
    rw [show (i + 1) * 3 = i * 3 + 3 by omega, show (n + 1) * 3 = i * 3 + (n - i) * 3 + 3 by omega, this, trs_append]
    rfl
  · refine Mod.mono (F := fun k => w.heap.size ≤ k) ?_ (fun k hk e => by omega)
    exact ((Hm2.out.mono (fun _ _ h => h.elim)).trans Hm3'.out (fun _ _ e => by omega)).drew.trans Hm5.out (fun _ _ e => by omega)

/-- slices.Insert of one lock, wherever. -/
theorem insert_ok (w : World) (base : Nat) (A : Option Addr) (n c i : Nat) (l : List Tr) (h : OwN w base 37 3 A n c (trs l)) (hn : n ≤ 1000) (hi : i ≤ n) (hb : base ≤ w.heap.size)
    (vb : Nat) (x : Tr) (hv : w.heap[vb]? = some (.cells #[.int .i64 x.a, .int .i64 x.b, .int .i64 x.c] 37 (0, 0))) (hne : blkOf A ≠ some vb) :
    Calls Try.prog 33 #[.slice A n c, .int .i64 i, .slice (some ⟨vb, 0, none⟩) 1 1] w fun e w' =>
      ∃ A' c', e = .returned (.slice A' (n + 1) c') ∧ Put w w' base A A' (n + 1) c' (l.take i ++ x :: l.drop i) := by
  have hll : l.length = n := h.pl.len
  rcases Nat.eq_or_lt_of_le hi with e | e
  · subst e
    rw [List.take_of_length_le (by omega), List.drop_of_length_le (by omega)]
    exact insert_end w base A i c l h hn hb vb x hv
  · obtain ⟨g, cur, hA, _⟩ := h.open_ (by omega)
    subst hA
    have hc := h.cap
    rcases Nat.eq_or_lt_of_le hc with e1 | e1
    · subst e1
      exact insert_grow w base g n i l h hn e hb vb x hv
    · exact insert_shift w base g n c i l h hn e e1 vb x hv (fun e2 => hne (by simp [blkOf, e2]))
end Go.Proofs.Ytpkjafadhnecfaa
