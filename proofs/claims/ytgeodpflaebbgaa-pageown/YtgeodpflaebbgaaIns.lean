/-
  The contract of slices.Insert at one pair.
-/
import Derived.Test.YtgeodpflaebbgaaFind
namespace Go.Proofs.Ytgeodpflaebbgaa
open Go Go.RowKit

/-- What Insert leaves. -/
structure MPut (w w' : World) (base : Nat) (A A' : Option Addr) (n' c' : Nat) (l' : List Pr) : Prop where
  own : OwN w' base 97 2 A' n' c' (prs l')
  mod : Mod (fun k => blkOf A = some k) w w'
  new : ∀ k, blkOf A' = some k → blkOf A = some k ∨ w.heap.size ≤ k

theorem splice_two (X Y V C : List Value) (a b : Nat) (ha : X.length = a) (hY : Y.length = b) (hV : V.length = 2) (hC : a + b + 2 ≤ C.length) (h1 : C.take (a + b) = X ++ Y) :
    (splice (splice C (a + 2) Y) a V).take (a + b + 2) = X ++ (V ++ Y) := by
  have hX : C.take a = X := by
    have e : (C.take (a + b)).take a = C.take a := by rw [List.take_take, Nat.min_eq_left (by omega)]
    rw [← e, h1, List.take_left' ha]
  have e1 : (C.take (a + 2)).length = a + 2 := by rw [List.length_take]; omega
  have e2 : (splice C (a + 2) Y).take a = X := by
    unfold splice
    rw [List.take_append_of_le_length (by omega), List.take_take, Nat.min_eq_left (by omega), hX]
  have e3 : (splice C (a + 2) Y).drop (a + V.length) = Y ++ C.drop (a + 2 + Y.length) := by
    unfold splice
    rw [hV, List.drop_left' e1]
  show ((splice C (a + 2) Y).take a ++ (V ++ (splice C (a + 2) Y).drop (a + V.length))).take (a + b + 2) = _
  rw [e2, e3]
  have e4 : X ++ (V ++ (Y ++ C.drop (a + 2 + Y.length))) = (X ++ (V ++ Y)) ++ C.drop (a + 2 + Y.length) := by simp
  rw [e4, List.take_left' (by simp only [List.length_append]; omega)]

/-- Over a row that is laid anew: behind X anything. -/
theorem splice_new (X Y V Z : List Value) (a b : Nat) (ha : X.length = a) (hY : Y.length = b) (hV : V.length = 2) :
    (splice (splice (X ++ Z) a V) (a + 2) Y).take (a + b + 2) = X ++ (V ++ Y) := by
  have e1 : splice (X ++ Z) a V = X ++ (V ++ Z.drop 2) := by
    unfold splice
    rw [List.take_left' ha, hV, ← ha, List.drop_append, List.drop_of_length_le (by omega), show X.length + 2 - X.length = 2 by omega]
    rfl
  rw [e1]
  have e2 : (X ++ (V ++ Z.drop 2)).take (a + 2) = X ++ V := by
    rw [← List.append_assoc, List.take_left' (by rw [List.length_append]; omega)]
  unfold splice
  rw [e2, ← List.append_assoc, List.take_left' (by simp only [List.length_append]; omega), List.append_assoc]

set_option maxRecDepth 100000 in
theorem insert_end (w : World) (base : Nat) (A : Option Addr) (n c : Nat) (l : List Pr) (h : OwN w base 97 2 A n c (prs l)) (hn : n ≤ 1000) (hb : base ≤ w.heap.size)
    (vb : Nat) (x : Pr) (hv : w.heap[vb]? = some (.cells #[.int .i64 x.1, .slice x.2.a x.2.n x.2.c] 97 (0, 0))) :
    Calls Try.prog 52 #[.slice A n c, .int .i64 n, .slice (some ⟨vb, 0, none⟩) 1 1] w fun e w' =>
      ∃ A' c', e = .returned (.slice A' (n + 1) c') ∧ MPut w w' base A A' (n + 1) c' (l ++ [x]) := by
  have hs : SrcN w (some ⟨vb, 0, none⟩) 1 2 [.int .i64 x.1, .slice x.2.a x.2.n x.2.c] := ⟨rfl, by simp [Value.oneCell'], fun _ => ⟨_, rfl, World.news_of_block hv⟩⟩
  have hcap := h.cap
  have hmax : c ≤ maxLen := by
    rcases h.2 with ⟨hv', _⟩ | ⟨g, cap, cur, hv', _, _, _, h2, _⟩
    · injection hv' with _ _ hc; rw [hc]; decide
    · injection hv' with _ _ hc; rw [hc]; exact h2
  unfold maxLen at hmax
  have H := Lib.hid h
  have Hs := Lib.hid hs
  have Hb := Lib.hid hb
  clear h hs hb hv
  have fin : ∀ A' c' w', OwN w' base 97 2 A' (n + 1) c' (prs l ++ [.int .i64 x.1, .slice x.2.a x.2.n x.2.c]) → w.grownBy w' (blkOf A) → (blkOf A' = blkOf A ∨ blkOf A' = some w.heap.size) → MPut w w' base A A' (n + 1) c' (l ++ [x]) := by
    intro A' c' w' h1 h2 h3
    refine ⟨by rw [prs_append]; exact h1, (Mod.refl _ w).grown h2 (fun k e _ => e), fun k hk => ?_⟩
    rcases h3 with e | e
    · left; rw [← e]; exact hk
    · right; rw [e] at hk; injection hk with hk; omega
  have Hfin := Lib.hid fin
  clear fin
  by_cases hcn : c = n
  · subst hcn
    go_enter Try.func52, Try.ntmps52
    go_wp2_with (at_builtin; refine wpList_appN (.tmp 23) (.tmp 24) entElem rfl rfl rfl rfl H.out Hs.out (by omega) (by unfold maxLen; omega) Hb.out ?_; intro A' c' w' h1 h2 h3; have Hput := Lib.hid (Hfin.out A' c' w' h1 h2 h3); clear h1 h2 h3)
    go_ret
    exact ⟨_, _, rfl, Hput.out⟩
  · go_enter Try.func52, Try.ntmps52
    go_wp2_with (at_builtin; refine wpList_appN (.tmp 23) (.tmp 24) entElem rfl rfl rfl rfl H.out Hs.out (by omega) (by unfold maxLen; omega) Hb.out ?_; intro A' c' w' h1 h2 h3; have Hput := Lib.hid (Hfin.out A' c' w' h1 h2 h3); clear h1 h2 h3)
    go_ret
    exact ⟨_, _, rfl, Hput.out⟩

theorem shape_of {w : World} {g : Nat} {cs : Array Value} {t : TypeId} (h : w.heap[g]? = some (.cells cs t (0, 0))) : w.shape? g = some (t, cs.size) := by
  simp [World.shape?, h]
theorem overlaps_no (w : World) (vb g off lb cb : Nat) (cs cs' : Array Value) (hne : vb ≠ g) (hv : w.heap[vb]? = some (.cells cs 97 (0, 0))) (hg : w.heap[g]? = some (.cells cs' 97 (0, 0))) (hz : cs'.size ≠ 0) :
    (callFunc 62 #[.slice (some ⟨vb, 0, none⟩) 1 1, .slice (some ⟨g, off, none⟩) lb cb]).run Try.prog w = .ok (.value (.bool false)) w := by
  rw [run_callFunc_extern Try.func62 (by kernel_rfl) (by kernel_rfl) (by kernel_rfl) (e := Extern.SlicesOverlaps.overlaps #[60, 60] #[4]) (by kernel_rfl),
    Lib.run_overlaps_apart w 60 4 97 Try.underlying60 2 (fun _ => by kernel_rfl) ⟨vb, 0, none⟩ ⟨g, off, none⟩ 1 1 lb cb hne _ _ _ _ (shape_of hv) (shape_of hg) hz (frozen_of_block hv _) (frozen_of_block hv _)]
  rfl

set_option maxRecDepth 100000 in
set_option maxHeartbeats 1000000 in
theorem insert_shift (w : World) (base : Nat) (g n c i : Nat) (l : List Pr) (h : OwN w base 97 2 (some ⟨g, 0, none⟩) n c (prs l)) (hn : n ≤ 1000) (hi : i < n) (hroom : n + 1 ≤ c)
    (vb : Nat) (x : Pr) (hv : w.heap[vb]? = some (.cells #[.int .i64 x.1, .slice x.2.a x.2.n x.2.c] 97 (0, 0))) (hne : vb ≠ g) :
    Calls Try.prog 52 #[.slice (some ⟨g, 0, none⟩) n c, .int .i64 i, .slice (some ⟨vb, 0, none⟩) 1 1] w fun e w' =>
      ∃ A' c', e = .returned (.slice A' (n + 1) c') ∧ MPut w w' base (some ⟨g, 0, none⟩) A' (n + 1) c' (l.take i ++ x :: l.drop i) := by
  obtain ⟨g', cur, hA, hbg, hg, _, hmax, hcl, htk⟩ := h.open_ (by omega)
  injection hA with hA
  injection hA with hA
  subst hA
  have hll : l.length = n := h.pl.len
  unfold maxLen at hmax
  have Hov := Lib.hid (fun lb cb off => overlaps_no w vb g off lb cb _ _ hne hv hg (by rw [List.size_toArray, hcl]; omega))
  have hov := Hov.out
  have Hg := Lib.hid hg
  have Hv := Lib.hid hv
  have Htk := Lib.hid htk
  have Hll := Lib.hid hll
  clear hg hv htk hll h Hov
  have hz1 : ¬ ((i : Int) = (n : Int)) := by omega
  have hz2 : ¬ (c = i) := by omega
  have hz3 : ¬ (c = i + 1) := by omega
  go_enter Try.func52, Try.ntmps52
  have hw1 : IntKind.i64.wrap ((i : Int) + 1) = (i : Int) + 1 := by rw [IntKind.wrap_i64]; omega
  have hb1 : (0 : Int) ≤ (i : Int) + 1 := by omega
  have hin : i ≤ n := by omega
  have htn : ((i : Int) + 1).toNat = i + 1 := by omega
  have hb3 : (i : Int) ≤ (n : Int) + 1 := by omega
  have Hgd : Hid (w.drew.heap[g]? = some (.cells cur.toArray 97 (0, 0))) := Hg.out
  have Hm1 : Hid (Nat.min (n + 1 - i) (n + 1 - (i + 1)) = n - i) := by show Nat.min _ _ = _; simp only [Nat.min_def]; split <;> omega
  have Hn1 : Hid ((prs (l.drop i)).length = (n - i) * 2) := by show _ = _; rw [prs_len, List.length_drop, Hll.out]
  have Hp1 : Hid (0 < n - i → ∃ ad, (some ⟨g, i * 2, none⟩ : Option Addr) = some ad ∧ ∀ j v, (prs (l.drop i))[j]? = some v → w.drew.cell? (ad.add j) = some v) := fun _ => ⟨_, rfl, fun j v hj => by
    rw [Addr.add_lit]
    show w.cell? _ = _
    rw [← prs_drop, ← Htk.out, List.getElem?_drop, List.getElem?_take] at hj
    split at hj
    · rw [cell_of_row _ _ _ _ _ _ Hg.out]; simpa using hj
    · cases hj⟩
  have Hf1 : Hid ((i + 1) * 2 + (prs (l.drop i)).length ≤ cur.length) := by show _ ≤ _; rw [Hn1.out, hcl]; omega
  have Ho1 := Lib.hid (prs_one (l.drop i))
  go_wp2_with (simp only [hov])
  go_region_law ((rw [if_pos (by simp [Region.wanted])]); refine wp_copyN (.tmp 73) (.tmp 76) (dp := some ⟨g, (i + 1) * 2, none⟩) (dLen := n + 1 - (i + 1)) (dCap := c - (i + 1)) (sp := some ⟨g, i * 2, none⟩) (sLen := n + 1 - i) (sCap := c - i) entElem rfl (by go_simp) (by go_simp) Hgd.out Hm1.out Hn1.out (fun hp => ⟨rfl, Hp1.out hp⟩) Hf1.out Ho1.out ?_; intro w2 hg2 hm2 hs2)
  have Hg2 := Lib.hid hg2
  have Hm2 := Lib.hid hm2
  have Hv2 : Hid (w2.heap[vb]? = some (.cells #[.int .i64 x.1, .slice x.2.a x.2.n x.2.c] 97 (0, 0))) := (hm2.block vb (Array.getElem?_eq_some_iff.1 Hv.out).1 hne).trans Hv.out
  clear hg2 hm2 hs2
  have Hm3 : Hid (Nat.min 1 (n + 1 - i) = 1) := by show Nat.min _ _ = _; simp only [Nat.min_def]; split <;> omega
  have Hp3 : Hid (0 < 1 → ∃ ad, (some ⟨vb, 0, none⟩ : Option Addr) = some ad ∧ ∀ j v, [Value.int .i64 x.1, .slice x.2.a x.2.n x.2.c][j]? = some v → w2.cell? (ad.add j) = some v) := fun _ => ⟨_, rfl, World.news_of_block Hv2.out⟩
  have hl1 : (splice cur ((i + 1) * 2) (prs (l.drop i))).length = c * 2 := by rw [length_splice _ _ _ Hf1.out, hcl]
  have Hf3 : Hid (i * 2 + [Value.int .i64 x.1, .slice x.2.a x.2.n x.2.c].length ≤ (splice cur ((i + 1) * 2) (prs (l.drop i))).length) := by show _ ≤ _; rw [hl1]; simp only [List.length_cons, List.length_nil]; omega
  have Hl1 := Lib.hid hl1
  clear hl1
  go_wp2_with (with_reducible refine wpList_plain rfl (fun K hK => wp_copyN (.tmp 80) (.tmp 81) (dp := some ⟨g, i * 2, none⟩) (dLen := n + 1 - i) (dCap := c - i) (sp := some ⟨vb, 0, none⟩) (sLen := 1) (sCap := 1) entElem rfl rfl rfl Hg2.out Hm3.out rfl (fun hp => ⟨rfl, Hp3.out hp⟩) Hf3.out (by simp [Value.oneCell']) (fun w3 hg3 hm3 hs3 => hK _ _ ?_)); have Hg3 := Lib.hid hg3; have Hm3 := Lib.hid hm3; clear hg3 hm3 hs3 hK K)
  go_ret
  refine ⟨_, _, rfl, ?_, ?_, fun k hk => .inl hk⟩
  · refine OwN.mk_ hbg Hg3.out (by omega) (by unfold maxLen; omega) (by rw [length_splice _ _ _ Hf3.out, Hl1.out]) ?_ (by rw [prs_len, List.length_append, List.length_cons, List.length_take, List.length_drop, Hll.out]; omega)
    have := splice_two (prs (l.take i)) (prs (l.drop i)) [.int .i64 x.1, .slice x.2.a x.2.n x.2.c] cur (i * 2) ((n - i) * 2) (by rw [prs_len, List.length_take, Hll.out]; omega) Hn1.out rfl (by rw [hcl]; omega) (by rw [show i * 2 + (n - i) * 2 = n * 2 by omega, Htk.out, ← prs_append, List.take_append_drop])
    rw [show (i + 1) * 2 = i * 2 + 2 by omega, show (n + 1) * 2 = i * 2 + (n - i) * 2 + 2 by omega, this, prs_append]
    rfl
  · exact (((Mod.refl (fun k => k = g) w).drew.trans Hm2.out (fun _ _ e => e)).trans Hm3.out (fun _ _ e => e)).mono (fun _ _ e => by simp [blkOf, e])

set_option maxRecDepth 100000 in
set_option maxHeartbeats 1000000 in
theorem insert_grow (w : World) (base : Nat) (g n i : Nat) (l : List Pr) (h : OwN w base 97 2 (some ⟨g, 0, none⟩) n n (prs l)) (hn : n ≤ 1000) (hi : i < n) (hb : base ≤ w.heap.size)
    (vb : Nat) (x : Pr) (hv : w.heap[vb]? = some (.cells #[.int .i64 x.1, .slice x.2.a x.2.n x.2.c] 97 (0, 0))) :
    Calls Try.prog 52 #[.slice (some ⟨g, 0, none⟩) n n, .int .i64 i, .slice (some ⟨vb, 0, none⟩) 1 1] w fun e w' =>
      ∃ A' c', e = .returned (.slice A' (n + 1) c') ∧ MPut w w' base (some ⟨g, 0, none⟩) A' (n + 1) c' (l.take i ++ x :: l.drop i) := by
  have hpl := h.pl
  have hll : l.length = n := hpl.len
  have hgl : g < w.heap.size := (h.lt g rfl).2
  have hvl : vb < w.heap.size := (Array.getElem?_eq_some_iff.1 hv).1
  have Hs0 := Lib.hid (hpl.take (m := i) (c' := n) (by omega) (by omega)).src
  have hdr := (hpl.drop (i := i)).src
  rw [Nat.zero_add] at hdr
  have Hdr := Lib.hid hdr
  have Hv := Lib.hid hv
  have Hll := Lib.hid hll
  have Hb := Lib.hid hb
  clear hv hll h hpl hdr hb
  have hz1 : ¬ ((i : Int) = (n : Int)) := by omega
  have hz2 : ¬ (n = i) := by omega
  have hw1 : IntKind.i64.wrap ((i : Int) + 1) = (i : Int) + 1 := by rw [IntKind.wrap_i64]; omega
  have hb1 : (0 : Int) ≤ (i : Int) + 1 := by omega
  have hin : i ≤ n := by omega
  have htn : ((i : Int) + 1).toNat = i + 1 := by omega
  have hb3 : (i : Int) ≤ (n : Int) + 1 := by omega
  go_enter Try.func52, Try.ntmps52
  have Hm3 : Hid (Nat.min 1 (n + 1 - i) = 1) := by show Nat.min _ _ = _; simp only [Nat.min_def]; split <;> omega
  have Hm4 : Hid (Nat.min (n - i) (n + 1 - (i + 1)) = n - i) := by show Nat.min _ _ = _; simp only [Nat.min_def]; split <;> omega
  have Hlt : Hid ((prs (l.take i)).length = i * 2) := by show _ = _; rw [prs_len, List.length_take, Hll.out]; omega
  have Hn1 : Hid ((prs (l.drop i)).length = (n - i) * 2) := by show _ = _; rw [prs_len, List.length_drop, Hll.out]
  go_wp2_with (first
    | (at_builtin; refine wpList_plain rfl (fun K hK => wp_appZerosN (.tmp 34) (.tmp 39) (A := some ⟨g, 0, none⟩) (n := i) (c := n) (k := n + 1 - i) (N := n + 1) entElem Try.underlying3 rfl rfl rfl (by omega) (by omega) Hs0.out (by omega) (by omega) (by omega) (by omega) (by unfold maxLen; omega) (fun w2 zs c2 hg2 hl2 hc2 hx2 hm2 hs2 => hK _ _ ?_))
       have Hg2 := Lib.hid hg2
       have Hl2 := Lib.hid hl2
       have Hm2 := Lib.hid hm2
       have Hx2 := Lib.hid hx2
       have Hp3 : Hid (0 < 1 → ∃ ad, (some ⟨vb, 0, none⟩ : Option Addr) = some ad ∧ ∀ j v, [Value.int .i64 x.1, .slice x.2.a x.2.n x.2.c][j]? = some v → w2.cell? (ad.add j) = some v) := fun _ => ⟨_, rfl, World.news_of_block ((hm2.block vb hvl id).trans Hv.out)⟩
       have Hf3 : Hid (i * 2 + [Value.int .i64 x.1, .slice x.2.a x.2.n x.2.c].length ≤ (prs (l.take i) ++ zs).length) := by show _ ≤ _; rw [hl2]; simp only [List.length_cons, List.length_nil]; omega
       clear hg2 hl2 hm2 hx2 hs2 hK K)
    | (with_reducible refine wpList_plain rfl (fun K hK => wp_copyN (.tmp 43) (.tmp 44) (dp := some ⟨w.heap.size, i * 2, none⟩) (dLen := n + 1 - i) (dCap := c2 - i) (sp := some ⟨vb, 0, none⟩) (sLen := 1) (sCap := 1) entElem rfl rfl rfl Hg2.out Hm3.out rfl (fun hp => ⟨rfl, Hp3.out hp⟩) Hf3.out (by simp [Value.oneCell']) (fun w3 hg3 hm3 hs3 => hK _ _ ?_))
       have Hg3 := Lib.hid hg3
       have Hm3' := Lib.hid hm3
       clear hg3 hm3 hs3 hK K))
  have hlen3 : (splice (prs (l.take i) ++ zs) (i * 2) [Value.int .i64 x.1, .slice x.2.a x.2.n x.2.c]).length = c2 * 2 := by rw [length_splice _ _ _ Hf3.out, Hl2.out]
  have Hg3d : Hid (w3.drew.heap[w.heap.size]? = some (.cells (splice (prs (l.take i) ++ zs) (i * 2) [Value.int .i64 x.1, .slice x.2.a x.2.n x.2.c]).toArray 97 (0, 0))) := Hg3.out
  have Hgk : Hid (w3.drew.heap[g]? = w.heap[g]?) := by
    show w3.heap[g]? = w.heap[g]?
    exact (Hm3'.out.block g (by have := Hm2.out.size; omega) (by omega)).trans (Hm2.out.block g hgl id)
  have Hp4 : Hid (0 < n - i → ∃ ad, (some ⟨g, i * 2, none⟩ : Option Addr) = some ad ∧ ∀ j v, (prs (l.drop i))[j]? = some v → w3.drew.cell? (ad.add j) = some v) := fun hp => by
    obtain ⟨ad, e, hc⟩ := Hdr.out.2.2 hp
    injection e with e
    subst e
    refine ⟨_, rfl, fun j v hj => ?_⟩
    have h1 := hc j v hj
    rw [Addr.add_lit] at h1 ⊢
    exact (World.cell?_of_block Hgk.out).trans h1
  have Hf4 : Hid ((i + 1) * 2 + (prs (l.drop i)).length ≤ (splice (prs (l.take i) ++ zs) (i * 2) [Value.int .i64 x.1, .slice x.2.a x.2.n x.2.c]).length) := by show _ ≤ _; rw [hlen3, Hn1.out]; omega
  have Ho4 := Lib.hid (prs_one (l.drop i))
  have hz4 : ¬ (c2 = i + 1) := by omega
  have Hlen3 := Lib.hid hlen3
  clear hlen3
  go_region_law ((rw [if_pos (by simp [Region.wanted])]); refine wp_copyN (.tmp 50) (.tmp 53) (dp := some ⟨w.heap.size, (i + 1) * 2, none⟩) (dLen := n + 1 - (i + 1)) (dCap := c2 - (i + 1)) (sp := some ⟨g, i * 2, none⟩) (sLen := n - i) (sCap := n - i) entElem rfl (by go_simp) (by go_simp) Hg3d.out Hm4.out Hn1.out (fun hp => ⟨rfl, Hp4.out hp⟩) Hf4.out Ho4.out ?_; intro w4 hg4 hm4 hs4)
  have Hg4 := Lib.hid hg4
  have Hm5 := Lib.hid hm4
  clear hg4 hm4 hs4
  go_wp2
  go_ret
  refine ⟨_, _, rfl, ?_, ?_, fun k hk => .inr (by simp [blkOf] at hk; omega)⟩
  · refine OwN.mk_ Hb.out Hg4.out (by omega) Hx2.out (by rw [length_splice _ _ _ Hf4.out, Hlen3.out]) ?_ (by rw [prs_len, List.length_append, List.length_cons, List.length_take, List.length_drop, Hll.out]; omega)
    have := splice_new (prs (l.take i)) (prs (l.drop i)) [.int .i64 x.1, .slice x.2.a x.2.n x.2.c] zs (i * 2) ((n - i) * 2) Hlt.out Hn1.out rfl
    rw [show (i + 1) * 2 = i * 2 + 2 by omega, show (n + 1) * 2 = i * 2 + (n - i) * 2 + 2 by omega, this, prs_append]
    rfl
  · refine Mod.mono (F := fun k => w.heap.size ≤ k) ?_ (fun k hk e => by omega)
    exact ((Hm2.out.mono (fun _ _ h => h.elim)).trans Hm3'.out (fun _ _ e => by omega)).drew.trans Hm5.out (fun _ _ e => by omega)

/-- slices.Insert of one pair, wherever. -/
theorem insert_ok (w : World) (base : Nat) (A : Option Addr) (n c i : Nat) (l : List Pr) (h : OwN w base 97 2 A n c (prs l)) (hn : n ≤ 1000) (hi : i ≤ n) (hb : base ≤ w.heap.size)
    (vb : Nat) (x : Pr) (hv : w.heap[vb]? = some (.cells #[.int .i64 x.1, .slice x.2.a x.2.n x.2.c] 97 (0, 0))) (hne : blkOf A ≠ some vb) :
    Calls Try.prog 52 #[.slice A n c, .int .i64 i, .slice (some ⟨vb, 0, none⟩) 1 1] w fun e w' =>
      ∃ A' c', e = .returned (.slice A' (n + 1) c') ∧ MPut w w' base A A' (n + 1) c' (l.take i ++ x :: l.drop i) := by
  have hll : l.length = n := h.pl.len
  rcases Nat.eq_or_lt_of_le hi with e | e
  · subst e
    rw [List.take_of_length_le (by omega), List.drop_of_length_le (by omega)]
    exact insert_end w base A i c l h hn hb vb x hv
  · obtain ⟨g, cur, hA, _⟩ := h.open_ (by omega)
    subst hA
    have hc := h.cap
    rcases Nat.eq_or_lt_of_le hc with e1 | e1
    · subst e1
      exact insert_grow w base g n i l h hn e hb vb x hv
    · exact insert_shift w base g n c i l h hn e e1 vb x hv (fun e2 => hne (by simp [blkOf, e2]))
end Go.Proofs.Ytgeodpflaebbgaa
