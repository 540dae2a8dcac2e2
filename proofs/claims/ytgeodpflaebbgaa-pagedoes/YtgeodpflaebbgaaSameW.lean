/-
  bobbinlaw05.same: is a page the document's?
-/
import Derived.Test.YtgeodpflaebbgaaRefs8
namespace Go.Proofs.Ytgeodpflaebbgaa
open Go Go.RowKit

set_option maxRecDepth 100000 in
set_option maxHeartbeats 8000000 in
theorem psame_ok (w0 w : World) (q : Nat) (g : Pg) (h : Lv w0 w q g) (A : Option Addr) (n c : Nat) (hr : Rf w0 w A n c g) (k : Int) :
    Calls Try.prog 16 #[.slice (some ⟨q, 0, none⟩) 248 248, .agg #[.int .i64 g.id, .int .i64 g.lsn, .slice A n c], .int .i64 k] w fun e w' => e = .returned (.bool true) ∧ Mod (fun _ => False) w w' := by
  have hm1 : Mod (fun _ => False) w (w.alloc (.cells #[.int .i64 g.id, .int .i64 g.lsn, .slice A n c] 31)) := (Mod.refl _ w).alloc _
  obtain ⟨w1, hw1⟩ : ∃ w1, w1 = w.alloc (.cells #[.int .i64 g.id, .int .i64 g.lsn, .slice A n c] 31) := ⟨_, rfl⟩
  rw [← hw1] at hm1
  have hbx : w1.heap[w.heap.size]? = some (.cells #[.int .i64 g.id, .int .i64 g.lsn, .slice A n c] 31 (0, 0)) := by rw [hw1]; exact heap_alloc_new w _
  have Hbox : Hid (∀ W, Mod (fun _ => False) w1 W → W.cell? ⟨w.heap.size, 0, none⟩ = some (.int .i64 g.id) ∧ W.cell? ⟨w.heap.size, 1, none⟩ = some (.int .i64 g.lsn) ∧ W.cell? ⟨w.heap.size, 2, none⟩ = some (.slice A n c)) := fun W hm => by
    have hb := (hm.block _ (Array.getElem?_eq_some_iff.1 hbx).1 id).trans hbx
    exact ⟨by rw [cell_of_row _ _ _ _ _ _ hb]; rfl, by rw [cell_of_row _ _ _ _ _ _ hb]; rfl, by rw [cell_of_row _ _ _ _ _ _ hb]; rfl⟩
  have Hg := Lib.hid h.good
  have hcnt := h.good.count
  have hnl := hr.kv.len
  have HL : Hid (∀ W, Mod (fun _ => False) w1 W → Lv w0 W q g) := fun W hm => (h.keep hm1).keep hm
  have HR : Hid (∀ W, Mod (fun _ => False) w1 W → Kv W A n c g.l) := fun W hm => (hr.kv.keep hm1).keep hm
  have Hm1 := Lib.hid hm1
  clear h hr hm1 hbx
  have hv100 : Hid (∀ r ∈ g.l, r.2.length ≤ 100) := fun r hr => by have := Hg.out.val r hr; omega
  -- the calls, from whatever world on
  have Hall : Hid (∀ W, Mod (fun _ => False) w1 W → Calls Try.prog 17 #[.slice (some ⟨q, 0, none⟩) 248 248] W fun e w' => ∃ A' c', e = .returned (.slice A' n c') ∧ Kv w' A' n c' g.l ∧ Mod (fun _ => False) w1 w') := fun W hm => by
    refine (lv_all (HL.out W hm)).mono ?_
    rintro e w' ⟨A', c', L', rfl, hk⟩
    rw [hnl] at hk ⊢
    exact ⟨A', c', rfl, hk.kv, hm.trans hk.old (fun _ _ h => h)⟩
  have Hks : Hid (∀ W A' c', Mod (fun _ => False) w1 W → Kv W A' n c' g.l → Calls Try.prog 25 #[.slice A' n c', .slice A n c] W fun e w' => e = .returned (.bool true) ∧ Mod (fun _ => False) w1 w') := fun W A' c' hm hk => by
    refine (ksame_ok W A' A n c' c g.l hk (HR.out W hm) hv100.out (by omega)).mono ?_
    rintro e w' ⟨rfl, hm'⟩
    exact ⟨rfl, hm.trans hm' (fun _ _ h => h)⟩
  have Hget : Hid (∀ W, Mod (fun _ => False) w1 W → Calls Try.prog 22 #[.slice (some ⟨q, 0, none⟩) 248 248, .int .i64 k] W fun e w' => ∃ B m d, e = .returned (.agg #[.bool (mGet k g.l).isSome, .slice B m d]) ∧ (∀ W', Mod (fun _ => False) w' W' → Sl W' B m d ((mGet k g.l).getD [])) ∧ Mod (fun _ => False) W w' ∧ Mod (fun _ => False) w1 w') := fun W hm => by
    refine (lv_get (HL.out W hm) k).mono ?_
    rintro e w' ⟨B, m, d, rfl, hs, _, hm'⟩
    exact ⟨B, m, d, rfl, fun W' h => hs.mod h (fun _ _ _ => id), hm', hm.trans hm' (fun _ _ h => h)⟩
  have Hrg : Hid (∀ W, Mod (fun _ => False) w1 W → Calls Try.prog 32 #[.agg #[.int .i64 g.id, .int .i64 g.lsn, .slice A n c], .int .i64 k] W fun e w' => ∃ B m d, e = .returned (.agg #[.bool (mGet k g.l).isSome, .slice B m d]) ∧ (∀ W', Mod (fun _ => False) w' W' → Sl W' B m d ((mGet k g.l).getD [])) ∧ Mod (fun _ => False) W w' ∧ Mod (fun _ => False) w1 w') := fun W hm => by
    refine (rget_ok W g.id g.lsn A n c g.l (HR.out W hm) Hg.out.srt (by omega) k).mono ?_
    rintro e w' ⟨B, m, d, rfl, hs, hm'⟩
    exact ⟨B, m, d, rfl, fun W' h => hs.mod h (fun _ _ _ => id), hm', hm.trans hm' (fun _ _ h => h)⟩
  have Hgl := Lib.hid (good_get Hg.out k)
  have Hvl : Hid (∀ W B m d B' m' d', Mod (fun _ => False) w1 W → Sl W B m d ((mGet k g.l).getD []) → Sl W B' m' d' ((mGet k g.l).getD []) → Calls Try.prog 27 #[.agg #[.bool (mGet k g.l).isSome, .slice B m d], .agg #[.bool (mGet k g.l).isSome, .slice B' m' d']] W fun e w' => e = .returned (.bool true) ∧ Mod (fun _ => False) w1 w') := fun W B m d B' m' d' hm h1 h2 => by
    have hx := vals_ok W B B' m m' d d' _ _ (mGet k g.l).isSome (mGet k g.l).isSome h1 h2 (by rw [← h1.len]; have := Hgl.out; omega) (by rw [← h2.len]; have := Hgl.out; omega)
    rw [eqB_self] at hx
    refine hx.mono ?_
    rintro e w' ⟨rfl, hm'⟩
    exact ⟨by simp, hm.trans hm' (fun _ _ h => h)⟩
  have Hmay : Hid (∀ W, Mod (fun _ => False) w1 W → Calls Try.prog 21 #[.slice (some ⟨q, 0, none⟩) 248 248] W fun e w' => e = .returned (.bool true) ∧ Mod (fun _ => False) w1 w') := fun W hm => (lv_may (HL.out W hm)).mono (fun e w' h => ⟨h.1, hm.trans h.2 (fun _ _ h => h)⟩)
  have Hid1 : Hid (∀ W, Mod (fun _ => False) w1 W → Calls Try.prog 23 #[.slice (some ⟨q, 0, none⟩) 248 248] W fun e w' => e = .returned (.int .i64 g.id) ∧ Mod (fun _ => False) w1 w') := fun W hm => (lv_id (HL.out W hm)).mono (fun e w' h => ⟨h.1, hm.trans h.2 (fun _ _ h => h)⟩)
  have Hls : Hid (∀ W, Mod (fun _ => False) w1 W → Calls Try.prog 19 #[.slice (some ⟨q, 0, none⟩) 248 248] W fun e w' => e = .returned (.int .i64 g.lsn) ∧ Mod (fun _ => False) w1 w') := fun W hm => (lv_lsn (HL.out W hm)).mono (fun e w' h => ⟨h.1, hm.trans h.2 (fun _ _ h => h)⟩)
  have Hus : Hid (∀ W, Mod (fun _ => False) w1 W → Calls Try.prog 24 #[.slice (some ⟨q, 0, none⟩) 248 248] W fun e w' => e = .returned (.int .i64 (usedL g.l)) ∧ Mod (fun _ => False) w1 w') := fun W hm => (lv_used (HL.out W hm)).mono (fun e w' h => ⟨h.1, hm.trans h.2 (fun _ _ h => h)⟩)
  have Hru : Hid (∀ W, Mod (fun _ => False) w1 W → Calls Try.prog 26 #[.slice A n c] W fun e w' => e = .returned (.int .i64 (usedL g.l)) ∧ Mod (fun _ => False) w1 w') := fun W hm => (rused_ok W A n c g.l (HR.out W hm) hv100.out (by omega)).mono (fun e w' h => ⟨h.1, by rw [h.2]; exact hm⟩)
  go_enter Try.func16, Try.ntmps16
  go_wp2_with fail
  rw [← hw1]
  clear hw1
  have M0 : Hid (Mod (fun _ => False) w1 w1.drew) := (Mod.refl _ w1).drew
  go_region_held3 (fun w' => w'.cell? ⟨w.heap.size, 0, none⟩ = some (.int .i64 g.id) ∧ w'.cell? ⟨w.heap.size, 1, none⟩ = some (.int .i64 g.lsn) ∧ w'.cell? ⟨w.heap.size, 2, none⟩ = some (.slice A n c)) (first | exact Hbox.out _ M0.out | exact Hbox.out _ hmB | exact Hbox.out _ hmA) (first | (go_at_call 17; refine (Hall.out _ M0.out).mono ?_; rintro e wA ⟨A2, c2, rfl, hkA, hmA⟩) | (go_at_call 25; refine (Hks.out _ _ _ hmA hkA).mono ?_; rintro e wB ⟨rfl, hmB⟩))
  have MB := Lib.hid hmB
  clear hmA hmB hkA M0
  have M1 : Hid (Mod (fun _ => False) w1 wB.drew) := MB.out.drew
  go_wp2_with fail
  go_region_held3 (fun w' => w'.cell? ⟨w.heap.size, 0, none⟩ = some (.int .i64 g.id) ∧ w'.cell? ⟨w.heap.size, 1, none⟩ = some (.int .i64 g.lsn) ∧ w'.cell? ⟨w.heap.size, 2, none⟩ = some (.slice A n c)) (first | exact Hbox.out _ M1.out | exact Hbox.out _ hmE | exact Hbox.out _ hmC2 | exact Hbox.out _ hmD2) (first | (go_at_call 22; refine (Hget.out _ (by first | exact M1.out | exact hmD2)).mono ?_; rintro e wC ⟨BC, mC, dC, rfl, hsC, hmC, hmC2⟩) | (go_at_call 32; refine (Hrg.out _ (by first | exact M1.out | exact hmC2)).mono ?_; rintro e wD ⟨BD, mD, dD, rfl, hsD, hmD, hmD2⟩) | (go_at_call 27; refine (Hvl.out _ _ _ _ _ _ _ (by first | exact hmD2 | exact hmC2) (by first | exact hsC _ hmD | exact hsC _ (Mod.refl _ _)) (by first | exact hsD _ (Mod.refl _ _) | exact hsD _ hmC)).mono ?_; rintro e wE ⟨rfl, hmE⟩))
  have ME := Lib.hid hmE
  clear hmC hmC2 hmD hmD2 hmE hsC hsD M1 MB
  have M2 : Hid (Mod (fun _ => False) w1 wE.drew) := ME.out.drew
  generalize usedL g.l = U at *
  go_wp2_with fail
  go_region_held3 (fun w' => w'.cell? ⟨w.heap.size, 0, none⟩ = some (.int .i64 g.id) ∧ w'.cell? ⟨w.heap.size, 1, none⟩ = some (.int .i64 g.lsn) ∧ w'.cell? ⟨w.heap.size, 2, none⟩ = some (.slice A n c)) (first | exact Hbox.out _ M2.out | exact Hbox.out _ hmJ | exact Hbox.out _ hmI | exact Hbox.out _ hmH | exact Hbox.out _ hmG | exact Hbox.out _ hmF) (first | (go_at_call 21; refine (Hmay.out _ M2.out).mono ?_; rintro e wF ⟨rfl, hmF⟩) | (go_at_call 23; refine (Hid1.out _ hmF).mono ?_; rintro e wG ⟨rfl, hmG⟩) | (go_at_call 19; refine (Hls.out _ hmG).mono ?_; rintro e wH ⟨rfl, hmH⟩) | (go_at_call 24; refine (Hus.out _ (by first | exact hmH | exact hmJ)).mono ?_; rintro e wI ⟨rfl, hmI⟩) | (go_at_call 26; refine (Hru.out _ (by first | exact hmI | exact hmH)).mono ?_; rintro e wJ ⟨rfl, hmJ⟩))
  all_goals
    have MJ := Lib.hid (Hm1.out.trans hmJ (fun _ _ h => h))
    clear hmF hmG hmH hmI hmJ
    go_wp2
    go_ret
    exact ⟨rfl, MJ.out⟩
end Go.Proofs.Ytgeodpflaebbgaa
