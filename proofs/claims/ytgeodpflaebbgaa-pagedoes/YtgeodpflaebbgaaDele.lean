/-
  The contract of slices.Delete at one pair.
-/
import Derived.Test.YtgeodpflaebbgaaIns
namespace Go.Proofs.Ytgeodpflaebbgaa
open Go Go.RowKit

theorem splice_del (X Y C Z : List Value) (a b : Nat) (hY : Y.length = b) (hC : a + b ≤ C.length) (h1 : C.take a = X) (ha : X.length = a) :
    (splice (splice C a Y) (a + b) Z).take (a + b) = X ++ Y := by
  have e1 : splice C a Y = X ++ (Y ++ C.drop (a + Y.length)) := by unfold splice; rw [h1]
  have e2 : (splice C a Y).length = C.length := length_splice _ _ _ (by omega)
  have e3 : (splice C a Y).take (a + b) = X ++ Y := by rw [e1, ← List.append_assoc, List.take_left' (by rw [List.length_append]; omega)]
  unfold splice at e3 ⊢
  rw [e3, List.take_left' (by rw [List.length_append]; omega)]

set_option maxRecDepth 100000 in
set_option maxHeartbeats 1000000 in
theorem delete_ok (w : World) (base : Nat) (g q c i : Nat) (l : List Pr) (h : OwN w base 97 2 (some ⟨g, 0, none⟩) (q + 1) c (prs l)) (hn : q ≤ 1000) (hi : i ≤ q) :
    Calls Try.prog 51 #[.slice (some ⟨g, 0, none⟩) (q + 1) c, .int .i64 i, .int .i64 (i + 1)] w fun e w' =>
      e = .returned (.slice (some ⟨g, 0, none⟩) q c) ∧ MPut w w' base (some ⟨g, 0, none⟩) (some ⟨g, 0, none⟩) q c (l.take i ++ l.drop (i + 1)) := by
  obtain ⟨g', cur, hA, hbg, hg, hqc, hmax, hcl, htk⟩ := h.open_ (by omega)
  injection hA with hA
  injection hA with hA
  subst hA
  have hpl := h.pl
  have hll : l.length = q + 1 := hpl.len
  have hdr := (hpl.drop (i := i + 1)).src
  rw [Nat.zero_add, show q + 1 - (i + 1) = q - i by omega] at hdr
  unfold maxLen at hmax
  have Hg := Lib.hid hg
  have Htk := Lib.hid htk
  have Hll := Lib.hid hll
  have Hdr := Lib.hid hdr
  clear hg htk hll h hpl hdr
  have hz1 : ¬ ((i : Int) = (i : Int) + 1) := by omega
  have hz1' : ((i : Int) == (i : Int) + 1) = false := by rw [beq_eq_false_iff_ne]; omega
  have hz2 : ¬ (q + 1 = i) := by omega
  have hz5 : ¬ (c = q) := by omega
  have hic : i ≤ c := by omega
  have hin : i ≤ q + 1 := by omega
  have htn : ((i : Int) + 1).toNat = i + 1 := by omega
  have hb1 : (0 : Int) ≤ (i : Int) + 1 := by omega
  have hb3 : (i : Int) ≤ (i : Int) + 1 := by omega
  have hb4 : (i : Int) ≤ (q : Int) + 1 := by omega
  have Hgd : Hid (w.drew.heap[g]? = some (.cells cur.toArray 97 (0, 0))) := Hg.out
  have Hn1 : Hid ((prs (l.drop (i + 1))).length = (q - i) * 2) := by show _ = _; rw [prs_len, List.length_drop, Hll.out]; omega
  have Hf1 : Hid (i * 2 + (prs (l.drop (i + 1))).length ≤ cur.length) := by show _ ≤ _; rw [Hn1.out, hcl]; omega
  have Hz : Hid (∀ v ∈ (Value.agg #[.int .i64 0, .slice none 0 0]).cells.toList, v.oneCell' = true) := by intro v hv; simp [Value.cells] at hv; rcases hv with rfl | rfl <;> rfl
  have Hfin : Hid (∀ (w2 w3 : World) (zs : List Value), Mod (fun k => k = g) w.drew w2 → zs.length = 1 * 2 → w3.heap[g]? = some (.cells (splice (splice cur (i * 2) (prs (l.drop (i + 1)))) (q * 2) zs).toArray 97 (0, 0)) → Mod (fun k => k = g) w2 w3 →
      MPut w w3 base (some ⟨g, 0, none⟩) (some ⟨g, 0, none⟩) q c (l.take i ++ l.drop (i + 1))) := by
    intro w2 w3 zs hm2 hz hg3 hm3
    have hl2 : (splice cur (i * 2) (prs (l.drop (i + 1)))).length = c * 2 := by rw [length_splice _ _ _ Hf1.out, hcl]
    refine ⟨OwN.mk_ hbg hg3 (by omega) (by unfold maxLen; omega) (by rw [length_splice _ _ _ (by rw [hl2, hz]; omega), hl2]) ?_ (by rw [prs_len, List.length_append, List.length_take, List.length_drop, Hll.out]; omega), ?_, fun k hk => .inl hk⟩
    · have := splice_del (prs (l.take i)) (prs (l.drop (i + 1))) cur zs (i * 2) ((q - i) * 2) Hn1.out (by rw [hcl]; omega) ?_ (by rw [prs_len, List.length_take, Hll.out]; omega)
      · rw [show q * 2 = i * 2 + (q - i) * 2 by omega, this, prs_append]
      · have e : (cur.take ((q + 1) * 2)).take (i * 2) = cur.take (i * 2) := by rw [List.take_take, Nat.min_eq_left (by omega)]
        rw [← e, Htk.out, prs_take]
    · exact (((Mod.refl (fun k => k = g) w).drew.trans hm2 (fun _ _ e => e)).trans hm3 (fun _ _ e => e)).mono (fun _ _ e => by simp [blkOf, e])
  by_cases hci : c = i + 1
  · obtain rfl : q = i := by omega
    rw [Nat.sub_self] at Hdr
    have Hdr0 : Hid (SrcN w.drew (some ⟨g, 0, none⟩) 0 2 (prs (l.drop (q + 1)))) := ⟨Hdr.out.1, Hdr.out.2.1, fun h => by omega⟩
    subst hci
    go_enter Try.func51, Try.ntmps51
    go_wp2
    go_region_law ((rw [if_pos (by simp [Region.wanted])]); refine wp_appRoomN (.tmp 22) (.tmp 25) (g := g) (sLen := q) (sCap := q + 1) (N := q) (A2 := some ⟨g, 0, none⟩) (m := 0) (c2 := 0) entElem rfl (by go_simp) (by go_simp) (by omega) Hgd.out Hdr0.out (by omega) Hf1.out ?_; intro w2 hg2 hm2 hs2)
    have Hg2 := Lib.hid hg2
    have Hm2 := Lib.hid hm2
    have Hl2 : Hid ((splice cur (q * 2) (prs (l.drop (q + 1)))).length = (q + 1) * 2) := by show _ = _; rw [length_splice _ _ _ Hf1.out, hcl]
    clear hg2 hm2 hs2
    go_wp2_with (with_reducible refine wpList_plain rfl (fun K hK => wp_clearN (.tmp 31) entElem Hz.out rfl rfl Hg2.out (off := q * 2) (fun _ => rfl) (by rw [Hl2.out]; omega) (fun w3 zs hz3 hg3 hm3 hs3 => hK _ _ ?_)); have Hg3 := Lib.hid hg3; have Hm3 := Lib.hid hm3; have Hz3 := Lib.hid hz3; clear hg3 hm3 hs3 hz3 hK K)
    go_ret
    exact ⟨rfl, Hfin.out w2 w3 zs Hm2.out Hz3.out Hg3.out Hm3.out⟩
  · go_enter Try.func51, Try.ntmps51
    go_wp2
    go_region_law ((rw [if_pos (by simp [Region.wanted])]); refine wp_appRoomN (.tmp 22) (.tmp 25) (g := g) (sLen := i) (sCap := c) (N := q) (A2 := some ⟨g, (i + 1) * 2, none⟩) (m := q - i) (c2 := c - (i + 1)) entElem rfl (by go_simp) (by go_simp) (by omega) Hgd.out Hdr.out (by omega) Hf1.out ?_; intro w2 hg2 hm2 hs2)
    have Hg2 := Lib.hid hg2
    have Hm2 := Lib.hid hm2
    have Hl2 : Hid ((splice cur (i * 2) (prs (l.drop (i + 1)))).length = c * 2) := by show _ = _; rw [length_splice _ _ _ Hf1.out, hcl]
    clear hg2 hm2 hs2
    go_wp2_with (with_reducible refine wpList_plain rfl (fun K hK => wp_clearN (.tmp 31) entElem Hz.out rfl rfl Hg2.out (off := q * 2) (fun _ => rfl) (by rw [Hl2.out]; omega) (fun w3 zs hz3 hg3 hm3 hs3 => hK _ _ ?_)); have Hg3 := Lib.hid hg3; have Hm3 := Lib.hid hm3; have Hz3 := Lib.hid hz3; clear hg3 hm3 hs3 hz3 hK K)
    go_ret
    exact ⟨rfl, Hfin.out w2 w3 zs Hm2.out Hz3.out Hg3.out Hm3.out⟩
end Go.Proofs.Ytgeodpflaebbgaa
