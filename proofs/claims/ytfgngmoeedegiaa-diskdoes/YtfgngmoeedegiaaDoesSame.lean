/-
  The law's own comparison (bobbinlaw03.same): a device, and the document's.
-/
import Derived.Test.YtfgngmoeedegiaaRef7
import Derived.Test.YtfgngmoeedegiaaAwake3
import Derived.Deep.RegionHeld3
namespace Go.Proofs.Ytfgngmoeedegiaa
open Go Go.RowKit

theorem Dev.read_le {w0 w : World} {x : DV} {d : Dk} (h : Dev w0 w x d) (i : Int) : (d.read i).length ≤ 256 := by
  unfold Dk.read
  split
  · rw [List.getD_eq_getElem?_getD]
    cases hs : d.now[i.toNat]? with
    | none => simp
    | some s =>
      have hm := List.mem_of_getElem? hs
      rcases mem_lay d.pend d.dur s hm with h1 | ⟨y, hy, e⟩
      · have := h.good.dur s h1
        simp only [Option.getD_some]
        omega
      · have := (h.good.pend y hy).2
        rw [e] at this
        simp only [Option.getD_some]
        omega
  · simp

set_option maxRecDepth 100000 in
set_option maxHeartbeats 4000000 in
theorem devsame_ok (w0 w : World) (x : DV) (d : Dk) (r : RV) (M : Nat → Prop) (h : Dev w0 w x d) (hr : r.At w M) (ha : Alike d r.dk) (hW : r.W.length ≤ 1000) :
    Calls Try.prog 21 #[.pointer (some ⟨x.p, 0, none⟩), r.v] w fun e w' => e = .returned (.bool true) ∧ Mod (fun _ => False) w w' := by
  have hlD : d.dur.length = r.D.length := by rw [ha.dur, r.dk_len]
  have hlW : d.pend.length = r.W.length := by rw [ha.pend]; simp [RV.dk]
  have hdd : d.dead = r.dead := ha.dead
  have hfew := hr.few
  obtain ⟨wb, hwb⟩ : ∃ wb, wb = w.alloc (.cells #[.slice r.DA r.D.length r.dc, .slice r.WA r.W.length r.wc, .bool r.armed, .bool r.dead, .int .i64 r.left] 31) := ⟨_, rfl⟩
  have hmb : Mod (fun _ => False) w wb := by rw [hwb]; exact (Mod.refl _ _).alloc _
  have hrow : wb.heap[w.heap.size]? = some (.cells #[.slice r.DA r.D.length r.dc, .slice r.WA r.W.length r.wc, .bool r.armed, .bool r.dead, .int .i64 r.left] 31 (0, 0)) := by rw [hwb]; exact heap_alloc_new w _
  have hbox : ∀ w', Mod (fun _ => False) wb w' → w'.cell? ⟨w.heap.size, 0, none⟩ = some (.slice r.DA r.D.length r.dc) ∧ w'.cell? ⟨w.heap.size, 1, none⟩ = some (.slice r.WA r.W.length r.wc) ∧ w'.cell? ⟨w.heap.size, 2, none⟩ = some (.bool r.armed) ∧ w'.cell? ⟨w.heap.size, 3, none⟩ = some (.bool r.dead) ∧ w'.cell? ⟨w.heap.size, 4, none⟩ = some (.int .i64 r.left) := by
    intro w' hm'
    have hb' := (hm'.block _ (Array.getElem?_eq_some_iff.1 hrow).1 id).trans hrow
    refine ⟨?_, ?_, ?_, ?_, ?_⟩ <;> (rw [cell_of_row _ _ _ _ _ _ hb']; rfl)
  rw [RV.v_eq]
  have Hdev := Lib.hid (h.keep hmb)
  have Hr := Lib.hid (hr.keep hmb)
  have Hbox := Lib.hid hbox
  have Hmb := Lib.hid hmb
  have Hwb := Lib.hid hwb
  have Ha := Lib.hid ha
  obtain ⟨B, hB⟩ : ∃ B, B = w.heap.size := ⟨_, rfl⟩
  have HB := Lib.hid hB
  rw [← hB] at Hbox
  have Q1 : Hid (∀ k, Calls Try.prog 26 #[.pointer (some ⟨x.p, 0, none⟩)] (wb.drewN k) fun e w' => e = .returned (.int .i64 r.D.length) ∧ ∃ m, w' = wb.drewN m) := by
    intro k
    have := dev_len w0 (wb.drewN k) x d (Hdev.out.keep ((Mod.refl _ wb).drewN k))
    rw [hlD] at this
    exact this.mono (fun e w' h => ⟨h.1, k, h.2⟩)
  have Q2 : Hid (∀ k, Calls Try.prog 24 #[.pointer (some ⟨x.p, 0, none⟩)] (wb.drewN k) fun e w' => e = .returned (.bool r.dead) ∧ ∃ m, w' = wb.drewN m) := by
    intro k
    have := dev_dead w0 (wb.drewN k) x d (Hdev.out.keep ((Mod.refl _ wb).drewN k))
    rw [hdd] at this
    exact this.mono (fun e w' h => ⟨h.1, k, h.2⟩)
  have Q3 : Hid (∀ k, Calls Try.prog 25 #[.pointer (some ⟨x.p, 0, none⟩)] (wb.drewN k) fun e w' => e = .returned (.int .i64 r.W.length) ∧ ∃ m, w' = wb.drewN m) := by
    intro k
    have := dev_waits w0 (wb.drewN k) x d (Hdev.out.keep ((Mod.refl _ wb).drewN k))
    rw [hlW] at this
    exact this.mono (fun e w' h => ⟨h.1, k, h.2⟩)
  clear hbox hmb hwb hr h ha hrow hB hlD hlW hdd
  go_enter Try.func21, Try.ntmps21
  go_wp2_with fail
  rw [← Hwb.out, ← HB.out]
  obtain ⟨q0, q1, q2, q3, q4⟩ := Hbox.out wb (Mod.refl _ _)
  go_quiet (first | (go_at_call 26; exact Q1.out _) | (go_at_call 24; exact Q2.out _) | (go_at_call 25; exact Q3.out _))
  have hM1 : Mod (fun _ => False) wb (wb.drewN nq) := (Mod.refl _ wb).drewN nq
  have Hdev1 := Lib.hid (Hdev.out.keep hM1)
  have HM1 := Lib.hid hM1
  generalize wb.drewN nq = w1 at *
  clear hM1 q0 q1 q2 q3 q4 Q1 Q2 Q3 Hdev
  obtain ⟨q0, q1, q2, q3, q4⟩ := Hbox.out w1 HM1.out
  go_wp2_with fail
  go_loopw [5] (fun i wr => ∃ (j : Nat), j ≤ r.D.length + 2 ∧ i = .int .i64 ((j : Int) - 1) ∧ Mod (fun _ => False) w1 wr) (fun i _ => r.D.length + 2 - (intOf i + 1).toNat)
  case atStart => exact ⟨0, by omega, rfl, Mod.refl _ _⟩
  case round =>
    obtain ⟨j, hj, rfl, hmr⟩ := hrel
    have Hmr := Lib.hid (HM1.out.trans hmr (fun _ _ h => h))
    have Hmr1 := Lib.hid hmr
    clear q0 q1 q2 q3 q4 hmr
    obtain ⟨q0, q1, q2, q3, q4⟩ := Hbox.out wr Hmr.out
    by_cases hlt : j < r.D.length + 2
    · have hl : decide ((j : Int) - 1 ≤ r.D.length) = true := by simp; omega
      have hRd := dev_read w0 wr x d (Hdev1.out.keep Hmr1.out) ((j : Int) - 1)
      have HRd := Lib.hid hRd
      clear hRd
      go_wp2_with fail
      refine HRd.out.mono ?_
      rintro e w2 ⟨A2, n2, c2, rfl, hf2⟩
      have Hm2 := Lib.hid (Hmr.out.trans hf2.2 (fun _ _ h => h))
      have Hm21 := Lib.hid (Hmr1.out.trans hf2.2 (fun _ _ h => h))
      have Hs2 := Lib.hid hf2.sl
      clear hf2 HRd q0 q1 q2 q3 q4
      obtain ⟨q0, q1, q2, q3, q4⟩ := Hbox.out w2 Hm2.out
      have hRr := refRead_ok w2 M r (Hr.out.keep Hm2.out) hW ((j : Int) - 1)
      rw [RV.v_eq, Ha.out.reach, Ha.out.read] at hRr
      have HRr := Lib.hid hRr
      clear hRr
      go_wp2_with fail
      refine HRr.out.mono ?_
      rintro e w3 ⟨A3, n3, c3, rfl, hs3, hm3⟩
      have hle : n2 ≤ 140737488355328 ∧ n3 ≤ 140737488355328 := by
        have e1 := Hs2.out.len
        have e2 := hs3.len
        have : (d.read ((j : Int) - 1)).length ≤ 256 := Dev.read_le Hdev1.out _
        omega
      have hSm := same_ok w3 A2 A3 n2 n3 c2 c3 _ _ (Hs2.out.mod hm3 (fun _ _ _ => id)) hs3 hle.1 hle.2
      rw [eqB_self] at hSm
      have HSm := Lib.hid hSm
      have Hm3 := Lib.hid (Hm21.out.trans hm3 (fun _ _ h => h))
      clear hSm hs3 hm3 hle Hs2 HRr q0 q1 q2 q3 q4 Hm2 Hm21
      generalize d.reach ((j : Int) - 1) = er at *
      go_wp2_with fail
      refine HSm.out.mono ?_
      rintro e w4 ⟨rfl, q, rfl⟩
      have Hm4 := Lib.hid (Hm3.out.drewN q)
      generalize w3.drewN q = w4 at *
      clear HSm Hm3
      go_wp2
      go_roundw
      case rel => exact ⟨j + 1, by omega, by go_num, Hm4.out⟩
      case measure => simp [intOf]; omega
    · have hl : decide ((j : Int) - 1 ≤ r.D.length) = false := by simp; omega
      go_wp2
      go_ret
      exact ⟨rfl, Hmb.out.trans Hmr.out (fun _ _ h => h)⟩
end Go.Proofs.Ytfgngmoeedegiaa
