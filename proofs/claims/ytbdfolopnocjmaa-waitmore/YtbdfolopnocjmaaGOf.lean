/-
  wait.graphOf.
-/
import Derived.Test.YtbdfolopnocjmaaGOrd
import Derived.StillTailTactics
import Derived.BigQuiet
namespace Go.Proofs.Ytbdfolopnocjmaa
open Go Go.RowKit

/-- A graph that is being made: its rows are its own, no two keys have one row. -/
structure Gm (w : World) (base b m : Nat) (f : Int → Option Value) (l : List Wp) : Prop where
  mp : Mp w b m f
  lt : b < base
  no : ∀ a, a ∉ keys l → f a = none
  row : ∀ a, a ∈ keys l → ∃ A k c, f a = some (.slice A k c) ∧ OwI w base A k c (adj l a)
  apart : ∀ a a' A k c A' k' c', a ≠ a' → f a = some (.slice A k c) → f a' = some (.slice A' k' c') → ∀ j, blkOf A = some j → blkOf A' ≠ some j
/-- A graph, to be read. -/
structure Gr (w : World) (b m : Nat) (f : Int → Option Value) (l : List Wp) : Prop where
  mp : Mp w b m f
  no : ∀ a, a ∉ keys l → f a = none
  row : ∀ a, a ∈ keys l → ∃ A k c, f a = some (.slice A k c) ∧ Il w A k c (adj l a)
theorem Gm.gr {w : World} {base b m : Nat} {f : Int → Option Value} {l : List Wp} (h : Gm w base b m f l) : Gr w b m f l :=
  ⟨h.mp, h.no, fun a ha => by obtain ⟨A, k, c, h1, h2⟩ := h.row a ha; exact ⟨A, k, c, h1, h2.il⟩⟩
theorem Gr.old {w w' : World} {b m : Nat} {f : Int → Option Value} {l : List Wp} (h : Gr w b m f l) (hm : Mod (fun k => w.heap.size ≤ k) w w') : Gr w' b m f l :=
  ⟨h.mp.mod hm (by have := h.mp.lt; omega), h.no, fun a ha => by obtain ⟨A, k, c, h1, h2⟩ := h.row a ha; exact ⟨A, k, c, h1, h2.old hm⟩⟩
theorem Gr.keep {w w' : World} {b m : Nat} {f : Int → Option Value} {l : List Wp} (h : Gr w b m f l) (hm : Mod (fun _ => False) w w') : Gr w' b m f l := h.old (hm.mono fun _ _ h => h.elim)
/-- What stands at a key, or at none. -/
theorem Gr.get {w : World} {b m : Nat} {f : Int → Option Value} {l : List Wp} (h : Gr w b m f l) (a : Int) : ∃ A k c, (f a).getD (.slice none 0 0) = .slice A k c ∧ Il w A k c (adj l a) := by
  by_cases ha : a ∈ keys l
  · obtain ⟨A, k, c, h1, h2⟩ := h.row a ha
    exact ⟨A, k, c, by rw [h1]; rfl, h2⟩
  · refine ⟨none, 0, 0, by rw [h.no a ha]; rfl, ?_⟩
    rw [adj_nokey ha]
    exact ⟨rfl, Nat.le_refl _, fun h => absurd h (by omega)⟩
theorem Gm.get {w : World} {base b m : Nat} {f : Int → Option Value} {l : List Wp} (h : Gm w base b m f l) (a : Int) : ∃ A k c, (f a).getD (.slice none 0 0) = .slice A k c ∧ OwI w base A k c (adj l a) ∧
    ∀ a' A' k' c', a' ≠ a → f a' = some (.slice A' k' c') → ∀ j, blkOf A = some j → blkOf A' ≠ some j := by
  by_cases ha : a ∈ keys l
  · obtain ⟨A, k, c, h1, h2⟩ := h.row a ha
    exact ⟨A, k, c, by rw [h1]; rfl, h2, fun a' A' k' c' hne hf j hj => h.apart a a' A k c A' k' c' (Ne.symm hne) h1 hf j hj⟩
  · refine ⟨none, 0, 0, by rw [h.no a ha]; rfl, ?_, fun a' A' k' c' hne hf j hj => by cases hj⟩
    rw [adj_nokey ha]
    exact OwI.nil _ _
theorem Gm.keep {w w' : World} {base b m : Nat} {f : Int → Option Value} {l : List Wp} (h : Gm w base b m f l) (hm : Mod (fun _ => False) w w') : Gm w' base b m f l :=
  ⟨h.mp.keep hm, h.lt, h.no, fun a ha => by obtain ⟨A, k, c, h1, h2⟩ := h.row a ha; exact ⟨A, k, c, h1, h2.keep hm⟩, h.apart⟩
/-- Behind the append and the store. -/
theorem Gm.step {w w1 w2 : World} {base b m : Nat} {f : Int → Option Value} {l : List Wp} (h : Gm w base b m f l) {x : Wp} {A A' : Option Addr} {k' c' : Nat}
    (hap : ∀ a' A' k' c', a' ≠ x.1 → f a' = some (.slice A' k' c') → ∀ j, blkOf A = some j → blkOf A' ≠ some j) (hown : OwI w1 base A' k' c' (adj l x.1 ++ x.2)) (hg : w.grownBy w1 (blkOf A)) (hloc : blkOf A' = blkOf A ∨ blkOf A' = some w.heap.size)
    (hm2 : Mod (fun k => k = b) w1 w2) (hmp : Mp w2 b (m + 1) (upd f x.1 (some (.slice A' k' c')))) : Gm w2 base b (m + 1) (upd f x.1 (some (.slice A' k' c'))) (l ++ [x]) := by
  have hm1 : Mod (fun k => blkOf A = some k) w w1 := (Mod.refl _ w).grown hg (fun k e _ => e)
  have hne : ∀ {B : Option Addr} {k : Nat}, blkOf B = some k → base ≤ k → k ≠ b := fun _ hb e => by have := h.lt; omega
  have new_apart : ∀ a' A1 k1 c1, a' ≠ x.1 → f a' = some (.slice A1 k1 c1) → ∀ j, blkOf A' = some j → blkOf A1 ≠ some j := by
    intro a' A1 k1 c1 hne hf j hj hj1
    rcases hloc with e | e
    · exact hap a' A1 k1 c1 hne hf j (e.symm.trans hj) hj1
    · rw [e] at hj
      injection hj with hj
      have hk : a' ∈ keys l := Classical.byContradiction fun hn => by rw [h.no a' hn] at hf; cases hf
      obtain ⟨A2, k2, c2, e2, ho⟩ := h.row a' hk
      rw [hf] at e2
      injection e2 with e2
      injection e2 with e2 _ _
      subst e2
      have := (OwV.lt ho j hj1).2
      omega
  refine ⟨hmp, h.lt, fun a ha => ?_, fun a ha => ?_, ?_⟩
  · rw [keys_append] at ha
    simp only [List.mem_append, not_or] at ha
    have hax : a ≠ x.1 := fun e => ha.2 (by simp [keys, e])
    rw [upd_other _ _ hax]
    exact h.no a ha.1
  · by_cases hax : a = x.1
    · subst hax
      refine ⟨A', k', c', upd_same _ _ _, ?_⟩
      rw [adj_append, adj_one, if_pos rfl]
      exact OwV.mod hown hm2 (fun j hj => hne hj (OwV.lt hown j hj).1)
    · rw [keys_append] at ha
      have hal : a ∈ keys l := by
        rcases List.mem_append.1 ha with h | h
        · exact h
        · simp [keys] at h; exact absurd h hax
      obtain ⟨A1, k1, c1, e1, ho⟩ := h.row a hal
      refine ⟨A1, k1, c1, by rw [upd_other _ _ hax, e1], ?_⟩
      have e2 : adj (l ++ [x]) a = adj l a := by rw [adj_append, adj_one, if_neg (Ne.symm hax), List.append_nil]
      rw [e2]
      have ho1 : OwI w1 base A1 k1 c1 (adj l a) := OwV.mod ho hm1 (fun j hj hA' => hap a A1 k1 c1 hax e1 j hA' hj)
      exact OwV.mod ho1 hm2 (fun j hj => hne hj (OwV.lt ho1 j hj).1)
  · intro a a' B1 k1 c1 B2 k2 c2 hn h1 h2 j hj1 hj2
    by_cases ha : a = x.1
    · subst ha
      rw [upd_same] at h1
      injection h1 with h1
      injection h1 with h1 _ _
      subst h1
      rw [upd_other _ _ (Ne.symm hn)] at h2
      exact new_apart a' B2 k2 c2 (Ne.symm hn) h2 j hj1 hj2
    · rw [upd_other _ _ ha] at h1
      by_cases ha' : a' = x.1
      · subst ha'
        rw [upd_same] at h2
        injection h2 with h2
        injection h2 with h2 _ _
        subst h2
        exact new_apart a B1 k1 c1 ha h1 j hj2 hj1
      · rw [upd_other _ _ ha'] at h2
        exact h.apart a a' B1 k1 c1 B2 k2 c2 hn h1 h2 j hj1 hj2

theorem grown_mod {w w' : World} {b : Option Nat} (h : w.grownBy w' b) : Mod (fun k => b = some k) w w' := (Mod.refl _ w).grown h (fun _ e _ => e)
theorem zeroRow (w : World) : (zeroValue 27).run Try.prog w = .ok (.slice none 0 0) w := by kernel_rfl

/-- What a box holds. -/
def S0 (B : Nat) (tx : Int) (A : Option Addr) (n c : Nat) (w : World) : Prop := w.cell? ⟨B, 0, none⟩ = some (.int .i64 tx) ∧ w.cell? ⟨B, 1, none⟩ = some (.slice A n c)
theorem S0.of {B : Nat} {tx : Int} {A : Option Addr} {n c : Nat} {w : World} (h : w.heap[B]? = some (.cells #[.int .i64 tx, .slice A n c] 29 (0, 0))) : S0 B tx A n c w :=
  ⟨by rw [cell_of_row _ _ _ _ _ _ h]; rfl, by rw [cell_of_row _ _ _ _ _ _ h]; rfl⟩

set_option maxRecDepth 100000 in
set_option maxHeartbeats 3200000 in
theorem graphOf_ok (w : World) (A0 : Option Addr) (n c0 : Nat) (l : List Wt) (h : Wl w A0 n c0 l) (hf : Few l) (hk : ∀ x ∈ l, x.ok) :
    Calls Try.prog 15 #[.slice A0 n c0] w fun e w' => ∃ b m f, e = .returned (.map (some b)) ∧ Gr w' b m f (ps l) ∧ w.heap.size ≤ b ∧ m ≤ 1000 ∧ Mod (fun _ => False) w w' := by
  have hn : n ≤ 1000 := by have := hf.n; rw [h.len] at this; exact this
  have HF := Lib.hid hf
  have HK := Lib.hid hk
  have HX := Lib.hid h
  have hmm := @run_makeMap Try.prog
  have HG0 : Hid (Gm (w.alloc (.map #[] 0)) (w.heap.size + 1) w.heap.size 0 (fun _ => none) (ps (l.take 0))) :=
    ⟨mp_made w, Nat.lt_succ_self _, fun _ _ => rfl, fun a ha => by simp [keys, ps] at ha, fun _ _ _ _ _ _ _ _ _ h => by cases h⟩
  have HM0 : Hid (Mod (fun _ => False) w (w.alloc (.map #[] 0))) := (Mod.refl _ w).alloc _
  have HS0 : Hid (w.heap.size + 1 ≤ (w.alloc (.map #[] 0)).heap.size) := by show _ ≤ _; simp
  clear h hf hk
  go_enter Try.func15, Try.ntmps15
  go_wp2_with fail
  go_loopw [9] (fun k wr => ∃ (j : Nat) (f : Int → Option Value), j ≤ n ∧ k = .int .i64 j ∧ Gm wr (w.heap.size + 1) w.heap.size j f (ps (l.take j)) ∧ Mod (fun _ => False) w wr ∧ w.heap.size + 1 ≤ wr.heap.size) (fun k _ => n - (intOf k).toNat)
  case atStart => exact ⟨0, fun _ => none, Nat.zero_le _, rfl, HG0.out, HM0.out, HS0.out⟩
  case round =>
    obtain ⟨j, f, hj, rfl, hg, hm, hs⟩ := hrel
    have HG := Lib.hid hg
    have HM := Lib.hid hm
    have HS := Lib.hid hs
    clear hg hm hs HG0 HM0 HS0
    by_cases hlt : j < n
    · obtain ⟨b, o, hA, hc⟩ := (HX.out.keep HM.out).at_ (by omega)
      have hjl : j < l.length := by rw [HX.out.len]; exact hlt
      obtain ⟨x, hx⟩ : ∃ x, l[j]? = some x := ⟨_, List.getElem?_eq_getElem hjl⟩
      have hxl : x ∈ l := List.mem_of_getElem? hx
      obtain ⟨s0, s1⟩ := hc j x hx
      rw [hA]
      have HB : Hid (b < wr.heap.size) := World.block_lt_of_cell? wr _ s0
      obtain ⟨V, hV⟩ : ∃ V, wr.alloc (.cells #[.int .i64 x.tx, .slice x.A x.n x.c] 29) = V := ⟨_, rfl⟩
      have hmV : Mod (fun _ => False) wr V := by rw [← hV]; exact (Mod.refl _ wr).alloc _
      have hnew : V.heap[wr.heap.size]? = some (.cells #[.int .i64 x.tx, .slice x.A x.n x.c] 29 (0, 0)) := by rw [← hV]; exact heap_alloc_new wr _
      have t0 : V.cell? ⟨wr.heap.size, 0, none⟩ = some (.int .i64 x.tx) := by rw [cell_of_row _ _ _ _ _ _ hnew]; rfl
      have t1 : V.cell? ⟨wr.heap.size, 1, none⟩ = some (.slice x.A x.n x.c) := by rw [cell_of_row _ _ _ _ _ _ hnew]; rfl
      have HGd : Hid (Gm V.drew (w.heap.size + 1) w.heap.size j f (ps (l.take j))) := (HG.out.keep hmV).keep (Mod.refl _ V).drew
      obtain ⟨A, k, c, hget, hown, hap⟩ := HGd.out.get x.tx
      have hlk := HGd.out.mp.look (t := 35) Try.underlying35 (zeroRow _) ((HK.out x hxl).1)
      rw [hget] at hlk
      have hIl : Il V.drew x.A x.n x.c x.zs := (((HX.out.row x hxl).keep HM.out).keep hmV).keep (Mod.refl _ V).drew
      have hlen : k + x.n ≤ 1000 := by
        have h1 := hown.len
        have h2 := hIl.len
        have h3 : (adj (ps (l.take (j + 1))) x.tx).length ≤ (edg (ps l)).length := Nat.le_trans (adj_len _ _) (by rw [ps_take]; exact edg_take_len _ _)
        have h4 : ps (l.take (j + 1)) = ps (l.take j) ++ [x.p] := by rw [take_succ_at hx]; simp [ps]
        rw [h4, adj_append, adj_one, if_pos (show x.p.1 = x.tx from rfl), List.length_append] at h3
        have h5 : x.p.2.length = x.n := h2
        have := HF.out.e
        omega
      have HMd : Hid (Mod (fun _ => False) w V.drew) := (HM.out.trans hmV (fun _ _ h => h)).drew
      have HSd : Hid (w.heap.size + 1 ≤ V.drew.heap.size) := by show _ ≤ _; have := HS.out; have := hmV.size; exact Nat.le_trans ‹_› this
      obtain ⟨A', c', w1, hrA, h1, h2, h3⟩ := run_app (P := Try.prog) intElem 27 hown hIl.src (c2 := x.c) (by omega) (by unfold maxLen; omega) HSd.out
      have hltA : ∀ i, blkOf A = some i → w.heap.size + 1 ≤ i ∧ i < V.drew.heap.size := OwV.lt hown
      have hmpA := HGd.out.mp.mod (grown_mod h2) (fun e => by have := (hltA _ e).1; omega)
      obtain ⟨w2, hrS, h4, h5, h6⟩ := hmpA.store (t := 35) Try.underlying35 (by unfold maxLen; omega) ((HK.out x hxl).1) (.slice A' (k + x.n) c')
      have H1 := Lib.hid h1
      have H2 := Lib.hid h2
      have H3 := Lib.hid h3
      have H4 := Lib.hid h4
      have H5 := Lib.hid h5
      have HltA := Lib.hid hltA
      have Hap := Lib.hid hap
      have Hx := Lib.hid hx
      have hbxA : V.drew.heap[wr.heap.size]? = some (.cells #[.int .i64 x.tx, .slice x.A x.n x.c] 29 (0, 0)) := hnew
      have hne1 : ¬ blkOf A = some wr.heap.size := fun e => by
        obtain ⟨_, cur, hcur, _⟩ := OwV.block hown e
        rw [hbxA] at hcur
        injection hcur with hcur
        injection hcur with _ hcur
        exact absurd hcur (by decide)
      have hbx1 := ((grown_mod h2).block wr.heap.size (Array.getElem?_eq_some_iff.1 hbxA).1 hne1).trans hbxA
      have hbx2 := (h5.block wr.heap.size (Array.getElem?_eq_some_iff.1 hbx1).1 (by have := HS.out; omega)).trans hbx1
      have HS0' : Hid (S0 wr.heap.size x.tx x.A x.n x.c V.drew) := S0.of hbxA
      have HS1 : Hid (S0 wr.heap.size x.tx x.A x.n x.c w1) := S0.of hbx1
      have HS2 : Hid (S0 wr.heap.size x.tx x.A x.n x.c w2) := S0.of hbx2
      clear hc hA hnew hmV hget hown hap hIl hlen hx hxl hjl h1 h2 h3 h4 h5 h6 hltA hmpA hbxA hne1 hbx1 hbx2
      go_wp2_with fail
      refine wp_region_held (S := (S0 wr.heap.size x.tx x.A x.n x.c)) (by kernel_rfl) ?_
      have hI := HS0'.out
      refine rg_take (n := 10) (v := ?_) 0 (some 13) rfl rfl (by kernel_rfl) (by kernel_rfl) (by kernel_rfl) (fun _ _ _ h => h) (by rfl) hI ?_ ?_
      rotate_left
      · ((intro w hSw; obtain ⟨q0, q1⟩ := hSw; go_simp); (try with_reducible rfl))
      try simp only [Act.put, List.setIfInBounds_toArray, List.set_cons_zero, List.set_cons_succ]
      refine rg_take (n := 9) (v := ?_) 1 (some 14) rfl rfl (by kernel_rfl) (by kernel_rfl) (by kernel_rfl) (fun _ _ _ h => h) (by rfl) hI ?_ ?_
      rotate_left
      · ((intro w hSw; obtain ⟨q0, q1⟩ := hSw; go_simp); (try with_reducible rfl))
      try simp only [Act.put, List.setIfInBounds_toArray, List.set_cons_zero, List.set_cons_succ]
      refine rg_take (n := 8) (v := ?_) 2 (some 15) rfl rfl (by kernel_rfl) (by kernel_rfl) (by kernel_rfl) (fun _ _ _ h => h) (by rfl) hI ?_ ?_
      rotate_left
      · ((intro w hSw; obtain ⟨q0, q1⟩ := hSw; go_simp); (try with_reducible rfl))
      try simp only [Act.put, List.setIfInBounds_toArray, List.set_cons_zero, List.set_cons_succ]
      refine rg_take (n := 7) (v := ?_) 3 (some 16) rfl rfl (by kernel_rfl) (by kernel_rfl) (by kernel_rfl) (fun _ _ _ h => h) (by rfl) hI ?_ ?_
      rotate_left
      · ((intro w hSw; obtain ⟨q0, q1⟩ := hSw; go_simp); (try with_reducible rfl))
      try simp only [Act.put, List.setIfInBounds_toArray, List.set_cons_zero, List.set_cons_succ]
      refine rg_take (n := 6) (v := ?_) 4 (some 17) rfl rfl (by kernel_rfl) (by kernel_rfl) (by kernel_rfl) (fun _ _ _ h => h) (by rfl) hI ?_ ?_
      rotate_left
      · ((intro w hSw; obtain ⟨q0, q1⟩ := hSw; go_simp); (try with_reducible rfl))
      try simp only [Act.put, List.setIfInBounds_toArray, List.set_cons_zero, List.set_cons_succ]
      refine rg_take (n := 5) (v := ?_) 5 (some 18) rfl rfl (by kernel_rfl) (by kernel_rfl) (by kernel_rfl) (fun _ _ _ h => h) (by rfl) hI ?_ ?_
      rotate_left
      · ((intro w hSw; obtain ⟨q0, q1⟩ := hSw; go_simp); (try with_reducible rfl))
      try simp only [Act.put, List.setIfInBounds_toArray, List.set_cons_zero, List.set_cons_succ]
      refine rg_take (n := 4) (v := ?_) 7 (some 20) rfl rfl (by kernel_rfl) (by kernel_rfl) (by kernel_rfl) (fun _ _ _ h => h) (by rfl) hI ?_ ?_
      rotate_left
      · ((intro w hSw; obtain ⟨q0, q1⟩ := hSw; go_simp); (try with_reducible rfl))
      try simp only [Act.put, List.setIfInBounds_toArray, List.set_cons_zero, List.set_cons_succ]
      refine rg_take (n := 3) (v := ?_) 8 (some 21) rfl rfl (by kernel_rfl) (by kernel_rfl) (by kernel_rfl) (fun _ _ _ h => h) (by rfl) hI ?_ ?_
      rotate_left
      · ((intro w hSw; obtain ⟨q0, q1⟩ := hSw; go_simp); (try with_reducible rfl))
      try simp only [Act.put, List.setIfInBounds_toArray, List.set_cons_zero, List.set_cons_succ]
      refine rg_run (n := 2) (v := .slice A k c) (w2 := V.drew) 6 (some 19) rfl rfl (by kernel_rfl) (by rfl) HS0'.out ?_ ?_
      · (go_simp; (try with_reducible rfl))
      try simp only [Act.put, List.setIfInBounds_toArray, List.set_cons_zero, List.set_cons_succ]
      clear hI
      have hI := HS0'.out
      refine rg_run (n := 1) (v := .slice A' (k + x.n) c') (w2 := w1) 9 (some 22) rfl rfl (by kernel_rfl) (by rfl) HS1.out ?_ ?_
      · exact exec_app rfl rfl rfl hrA
      try simp only [Act.put, List.setIfInBounds_toArray, List.set_cons_zero, List.set_cons_succ]
      clear hI
      have hI := HS1.out
      refine rg_upd (n := 0) (w2 := w2) 10 none rfl rfl (by kernel_rfl) (by rfl) HS2.out (exec_upd rfl rfl rfl rfl hrS) ?_
      simp only [Act.put]
      clear hI
      have hI := HS2.out
      refine wpAnyH_done (by kernel_rfl) ?_ _
      clear hI
      clear t0 t1 s0 s1 hV HG HM HS HS0' HS1 HS2 hlk hrA hrS
      go_wp2
      go_roundw
      case rel =>
        have hmW : Mod (fun k => w.heap.size ≤ k) w w2 := ((HMd.out.mono (G := fun k => w.heap.size ≤ k) (fun _ _ h => h.elim)).trans (grown_mod H2.out) (fun i hi e => by have := (HltA.out _ e).1; omega)).trans H5.out (fun i _ e => by omega)
        refine ⟨j + 1, upd f x.tx (some (.slice A' (k + x.n) c')), by omega, by go_num, ?_, ⟨hmW.os, hmW.tape, hmW.output, hmW.size, fun i hi _ => hmW.block i hi (by omega)⟩, Nat.le_trans HSd.out (Nat.le_trans (grown_mod H2.out).size H5.out.size)⟩
        have h4 : ps (l.take (j + 1)) = ps (l.take j) ++ [x.p] := by rw [take_succ_at Hx.out]; simp [ps]
        rw [h4]
        refine HGd.out.step (x := x.p) Hap.out ?_ H2.out H3.out H5.out H4.out
        have := H1.out
        rw [← ivs_append] at this
        exact this
      case measure => simp [intOf]; omega
    · obtain rfl : j = n := by omega
      have HG1 : Hid (Gr wr w.heap.size j f (ps l)) := by
        have := HG.out.gr
        rw [List.take_of_length_le (by rw [HX.out.len]; omega)] at this
        exact this
      clear HG
      go_wp2
      go_ret
      exact ⟨_, _, f, rfl, HG1.out, Nat.le_refl _, hn, HM.out⟩
end Go.Proofs.Ytbdfolopnocjmaa
