/-
  The contract of master.Read at a live device.
-/
import Derived.Test.YtkigpicjhklioaaQMw
namespace Go.Proofs.Ytkigpicjhklioaa
open Go Go.RowKit

/-- One sector more has been looked at. -/
def upM (l : Ms) (xs : List UInt8) (i : Int) : Ms := if toldB xs i = true ∧ l.no < (toldM xs i).no then toldM xs i else l
def lastOf (a b : List UInt8) : Nat → Ms
  | 0 => ⟨0, 0, 0, 0⟩
  | 1 => upM ⟨0, 0, 0, 0⟩ a 0
  | _ => upM (upM ⟨0, 0, 0, 0⟩ a 0) b 1
theorem upM_zero {l : Ms} {xs : List UInt8} {i : Int} (h : 0 < l.no ∨ l = ⟨0, 0, 0, 0⟩) : 0 < (upM l xs i).no ∨ upM l xs i = ⟨0, 0, 0, 0⟩ := by
  unfold upM
  split
  · rename_i hh
    rcases h with h | h
    · exact .inl (by omega)
    · subst h; exact .inl hh.2
  · exact h
theorem lastOf_zero (a b : List UInt8) (k : Nat) : 0 < (lastOf a b k).no ∨ lastOf a b k = ⟨0, 0, 0, 0⟩ := by
  match k with
  | 0 => exact .inr rfl
  | 1 => exact upM_zero (.inr rfl)
  | _ + 2 => exact upM_zero (upM_zero (.inr rfl))

/-- What lies while the sectors are gone through. -/
structure R9 (w W : World) (z q : Nat) (l : Ms) : Prop where
  res : W.heap[z]? = some (.cells #[.int .i64 0, .int .i64 0, .int .i64 0, .int .i64 0] 23 (0, 0))
  box : W.heap[q]? = some (.cells #[.int .i64 l.no, .int .i64 l.ep, .int .i64 l.st, .int .i64 l.ck] 23 (0, 0))
  old : Mod (fun _ => False) w W
  zz : w.heap.size ≤ z
  qz : w.heap.size ≤ q
  zq : z ≠ q
theorem R9.keep {w W W' : World} {z q : Nat} {l : Ms} (h : R9 w W z q l) (hm : Mod (fun _ => False) W W') : R9 w W' z q l :=
  ⟨(hm.block z (Array.getElem?_eq_some_iff.1 h.res).1 id).trans h.res, (hm.block q (Array.getElem?_eq_some_iff.1 h.box).1 id).trans h.box, h.old.trans hm (fun _ _ h => h), h.zz, h.qz, h.zq⟩
theorem R9.set {w W : World} {z q : Nat} {l : Ms} (h : R9 w W z q l) (m : Ms) :
    R9 w ((((W.setCell ⟨q, 0, none⟩ (.int .i64 m.no)).setCell ⟨q, 1, none⟩ (.int .i64 m.ep)).setCell ⟨q, 2, none⟩ (.int .i64 m.st)).setCell ⟨q, 3, none⟩ (.int .i64 m.ck)) z q m := by
  have hm : Mod (fun i => i = q) W ((((W.setCell ⟨q, 0, none⟩ (.int .i64 m.no)).setCell ⟨q, 1, none⟩ (.int .i64 m.ep)).setCell ⟨q, 2, none⟩ (.int .i64 m.st)).setCell ⟨q, 3, none⟩ (.int .i64 m.ck)) := ((((Mod.refl (fun i => i = q) W).one 0 _).one 1 _).one 2 _).one 3 _
  refine ⟨(hm.block z (Array.getElem?_eq_some_iff.1 h.res).1 h.zq).trans h.res, ?_, h.old.set4 h.qz _ _ _ _, h.zz, h.qz, h.zq⟩
  have e1 := heap_set h.box (i := 0) (u := .int .i64 m.no)
  have e2 := heap_set e1 (i := 1) (u := .int .i64 m.ep)
  have e3 := heap_set e2 (i := 2) (u := .int .i64 m.st)
  have e4 := heap_set e3 (i := 3) (u := .int .i64 m.ck)
  rw [e4]
  rfl

theorem lay256 (W : List (Nat × List UInt8)) : ∀ D : List (List UInt8), (∀ s ∈ D, s.length = 256) → (∀ y ∈ W, y.2.length = 256) → ∀ s ∈ lay D W, s.length = 256 := by
  induction W with
  | nil => intro D hD _ s hs; exact hD s hs
  | cons y W ih =>
    intro D hD hW s hs
    refine ih (D.set y.1 y.2) (fun t ht => ?_) (fun z hz => hW z (List.mem_cons_of_mem _ hz)) s hs
    rcases List.mem_or_eq_of_mem_set ht with h1 | h1
    · exact hD t h1
    · rw [h1]; exact hW y (List.mem_cons_self ..)
theorem nowAt9 {d : Dk} (h : d.Good) {i : Nat} (hi : i < d.dur.length) : (d.now.getD i []).length = 256 := by
  have hlt : i < d.now.length := by show i < (lay d.dur d.pend).length; rw [lay_len]; exact hi
  rw [List.getD_eq_getElem?_getD, List.getElem?_eq_getElem hlt]
  exact lay256 d.pend d.dur h.dur (fun y hy => (h.pend y hy).2) _ (List.getElem_mem hlt)

set_option maxRecDepth 100000 in
set_option maxHeartbeats 1600000 in
theorem mread_ok (w0 w : World) (x : DV) (d : Dk) (h : Dev w0 w x d) (h2 : 2 ≤ d.dur.length) (hd : d.dead = false) :
    Calls Try.prog 20 #[.pointer (some ⟨x.p, 0, none⟩)] w fun e w' => e = .returned (.tuple #[.agg #[.int .i64 (lastOf (d.read 0) (d.read 1) 2).no, .int .i64 (lastOf (d.read 0) (d.read 1) 2).ep, .int .i64 (lastOf (d.read 0) (d.read 1) 2).st, .int .i64 (lastOf (d.read 0) (d.read 1) 2).ck], .int .i64 (if (lastOf (d.read 0) (d.read 1) 2).no = 0 then 3 else 0)]) ∧ Mod (fun _ => False) w w' := by
  have hre : ∀ i : Int, 0 ≤ i → i < 2 → d.reach i = 0 := fun i h0 h1 => by unfold Dk.reach; rw [hd, if_neg (by simp), if_pos ⟨h0, by omega⟩]
  have Hlen : Hid (∀ W, Mod (fun _ => False) w W → Calls Try.prog 26 #[.pointer (some ⟨x.p, 0, none⟩)] W fun e w' => e = .returned (.int .i64 d.dur.length) ∧ W = w') := fun W hW => (dev_len w0 W x d (h.keep hW)).mono (fun _ _ h => ⟨h.1, h.2.symm⟩)
  have hl : ¬ (d.dur.length : Int) < 2 := by omega
  have Hrd : Hid (∀ W, Mod (fun _ => False) w W → ∀ i : Int, 0 ≤ i → i < 2 → Calls Try.prog 16 #[.pointer (some ⟨x.p, 0, none⟩), .int .i64 i] W fun e w' => ∃ A c, e = .returned (.tuple #[.slice A 256 c, .int .i64 0]) ∧ Sl w' A 256 c (d.read i) ∧ Mod (fun _ => False) W w') := by
    intro W hW i h0 h1
    refine (dev_read w0 W x d (h.keep hW) i).mono ?_
    rintro e w' ⟨A, n, c, rfl, hf⟩
    have hs := hf.sl
    have hL : (d.read i).length = 256 := by
      unfold Dk.read
      rw [if_pos (hre i h0 h1)]
      have hg := h.good
      exact nowAt9 hg (by omega)
    have hn : n = 256 := by rw [← hs.len, hL]
    subst hn
    exact ⟨A, c, by rw [hre i h0 h1], hs, hf.2⟩
  generalize (d.dur.length : Int) = n at *
  have La : Hid (∀ k : Nat, k < 2 → lastOf (d.read 0) (d.read 1) (k + 1) = upM (lastOf (d.read 0) (d.read 1) k) (d.read (k : Int)) k) := by
    intro k hk
    match k, hk with
    | 0, _ => rfl
    | 1, _ => rfl
  have Lz := Lib.hid (lastOf_zero (d.read 0) (d.read 1) 2)
  generalize hLL : lastOf (d.read 0) (d.read 1) = L at *
  have L0 : Hid (L 0 = ⟨0, 0, 0, 0⟩) := by rw [← hLL]; rfl
  have hz1 := heap_alloc_new w (.cells #[.int .i64 0, .int .i64 0, .int .i64 0, .int .i64 0] 23)
  have hM1 : Mod (fun _ => False) w (w.alloc (.cells #[.int .i64 0, .int .i64 0, .int .i64 0, .int .i64 0] 23)) := (Mod.refl _ w).alloc _
  have hq2 := heap_alloc_new (w.alloc (.cells #[.int .i64 0, .int .i64 0, .int .i64 0, .int .i64 0] 23)) (.cells #[.int .i64 0, .int .i64 0, .int .i64 0, .int .i64 0] 23)
  have hz2 : ((w.alloc (.cells #[.int .i64 0, .int .i64 0, .int .i64 0, .int .i64 0] 23)).alloc (.cells #[.int .i64 0, .int .i64 0, .int .i64 0, .int .i64 0] 23)).heap[w.heap.size]? = some (.cells #[.int .i64 0, .int .i64 0, .int .i64 0, .int .i64 0] 23 (0, 0)) := by
    rw [Below.heap_alloc _ _ _ (Array.getElem?_eq_some_iff.1 hz1).1]; exact hz1
  have hM2 := hM1.alloc (.cells #[.int .i64 0, .int .i64 0, .int .i64 0, .int .i64 0] 23)
  have hR2 : R9 w ((w.alloc (.cells #[.int .i64 0, .int .i64 0, .int .i64 0, .int .i64 0] 23)).alloc (.cells #[.int .i64 0, .int .i64 0, .int .i64 0, .int .i64 0] 23)) w.heap.size (w.heap.size + 1) (L 0) := by
    rw [L0.out]
    exact ⟨hz2, by simpa using hq2, hM2, Nat.le_refl _, by omega, by omega⟩
  have HM1 := Lib.hid hM1
  have HR2 := Lib.hid hR2
  clear hz1 hM1 hq2 hz2 hM2 hR2 hLL hre h h2
  go_enter Try.func20, Try.ntmps20
  go_wp2_with fail
  refine (Hlen.out _ HM1.out).mono ?_
  rintro e w3 ⟨rfl, rfl⟩
  clear Hlen
  go_wp2_with fail
  go_loopw [14] (fun i wr => ∃ (j : Nat), j ≤ 2 ∧ i = .int .i64 j ∧ R9 w wr w.heap.size (w.heap.size + 1) (L j)) (fun i _ => 4 - (intOf i).toNat)
  case atStart => exact ⟨0, by omega, rfl, HR2.out⟩
  case round =>
    obtain ⟨j, hj, rfl, hr⟩ := hrel
    have Hr := Lib.hid hr
    by_cases hlt : j < 2
    · have hlt' : (j : Int) < 2 := by omega
      clear hr
      go_wp2_with fail
      refine (Hrd.out wr Hr.out.old j (by omega) (by omega)).mono ?_
      rintro e w5 ⟨A5, c5, rfl, hs5, hm5⟩
      have Hr5 := Lib.hid (Hr.out.keep hm5)
      have Hco := Lib.hid (contained_ok w5 A5 c5 _ (j : Int) hs5)
      clear hs5 hm5
      go_wp2_with fail
      refine Hco.out.mono ?_
      rintro e w6 ⟨rfl, hm6⟩
      have Hu : Hid (L (j + 1) = if toldB (d.read (j : Int)) j = true ∧ (L j).no < (toldM (d.read (j : Int)) j).no then toldM (d.read (j : Int)) j else L j) := La.out j hlt
      clear Hco
      generalize toldB (d.read (j : Int)) j = tb at *
      generalize toldM (d.read (j : Int)) j = t at *
      have Hr6 := Lib.hid (Hr5.out.keep hm6)
      have hl0 : w6.cell? ⟨w.heap.size + 1, 0, none⟩ = some (.int .i64 (L j).no) := by rw [cell_of_row _ _ _ _ _ _ Hr6.out.box]; rfl
      clear hm6
      rcases tb with _ | _
      · have hL : L (j + 1) = L j := by rw [Hu.out]; rfl
        have HL := Lib.hid hL
        have HR7 := Lib.hid (Hr6.out.keep ((Mod.refl _ w6).alloc (.cells #[.int .i64 t.no, .int .i64 t.ep, .int .i64 t.st, .int .i64 t.ck] 23)))
        clear hL Hu
        go_wp2
        go_roundw
        case rel => exact ⟨j + 1, by omega, by go_num, by rw [HL.out]; exact HR7.out⟩
        case measure => simp [intOf]; omega
      · have hl1 : w6.cell? ⟨w.heap.size + 1, 1, none⟩ = some (.int .i64 (L j).ep) := by rw [cell_of_row _ _ _ _ _ _ Hr6.out.box]; rfl
        have hl2 : w6.cell? ⟨w.heap.size + 1, 2, none⟩ = some (.int .i64 (L j).st) := by rw [cell_of_row _ _ _ _ _ _ Hr6.out.box]; rfl
        have hl3 : w6.cell? ⟨w.heap.size + 1, 3, none⟩ = some (.int .i64 (L j).ck) := by rw [cell_of_row _ _ _ _ _ _ Hr6.out.box]; rfl
        have f0 := frozen_of_block Hr6.out.box 0
        have f1 := frozen_of_block Hr6.out.box 1
        have f2 := frozen_of_block Hr6.out.box 2
        have f3 := frozen_of_block Hr6.out.box 3
        have HR7 := Lib.hid (Hr6.out.keep ((Mod.refl _ w6).alloc (.cells #[.int .i64 t.no, .int .i64 t.ep, .int .i64 t.st, .int .i64 t.ck] 23)))
        have hqlt := (Array.getElem?_eq_some_iff.1 Hr6.out.box).1
        by_cases hg : (L j).no < t.no
        · have hL : L (j + 1) = t := by rw [Hu.out, if_pos ⟨rfl, hg⟩]
          have HL := Lib.hid hL
          have HR8 := Lib.hid ((Hr6.out.set t).keep ((Mod.refl _ _).alloc (.cells #[.int .i64 t.no, .int .i64 t.ep, .int .i64 t.st, .int .i64 t.ck] 23)))
          clear hL Hu
          go_wp2
          go_roundw
          case rel => exact ⟨j + 1, by omega, by go_num, by rw [HL.out]; exact HR8.out⟩
          case measure => simp [intOf]; omega
        · have hL : L (j + 1) = L j := by rw [Hu.out, if_neg (fun h => hg h.2)]
          have HL := Lib.hid hL
          clear hL Hu
          go_wp2
          go_roundw
          case rel => exact ⟨j + 1, by omega, by go_num, by rw [HL.out]; exact HR7.out⟩
          case measure => simp [intOf]; omega
    · obtain rfl : j = 2 := by omega
      have hl0 : wr.cell? ⟨w.heap.size + 1, 0, none⟩ = some (.int .i64 (L 2).no) := by rw [cell_of_row _ _ _ _ _ _ hr.box]; rfl
      have hl1 : wr.cell? ⟨w.heap.size + 1, 1, none⟩ = some (.int .i64 (L 2).ep) := by rw [cell_of_row _ _ _ _ _ _ hr.box]; rfl
      have hl2 : wr.cell? ⟨w.heap.size + 1, 2, none⟩ = some (.int .i64 (L 2).st) := by rw [cell_of_row _ _ _ _ _ _ hr.box]; rfl
      have hl3 : wr.cell? ⟨w.heap.size + 1, 3, none⟩ = some (.int .i64 (L 2).ck) := by rw [cell_of_row _ _ _ _ _ _ hr.box]; rfl
      have z0 : wr.cell? ⟨w.heap.size, 0, none⟩ = some (.int .i64 0) := by rw [cell_of_row _ _ _ _ _ _ hr.res]; rfl
      have z1 : wr.cell? ⟨w.heap.size, 1, none⟩ = some (.int .i64 0) := by rw [cell_of_row _ _ _ _ _ _ hr.res]; rfl
      have z2 : wr.cell? ⟨w.heap.size, 2, none⟩ = some (.int .i64 0) := by rw [cell_of_row _ _ _ _ _ _ hr.res]; rfl
      have z3 : wr.cell? ⟨w.heap.size, 3, none⟩ = some (.int .i64 0) := by rw [cell_of_row _ _ _ _ _ _ hr.res]; rfl
      have f0 := frozen_of_block hr.res 0
      have f1 := frozen_of_block hr.res 1
      have f2 := frozen_of_block hr.res 2
      have f3 := frozen_of_block hr.res 3
      clear hr
      by_cases h0 : (L 2).no = 0
      · have hL : L 2 = ⟨0, 0, 0, 0⟩ := Lz.out.resolve_left (by omega)
        have HL := Lib.hid hL
        clear hL
        go_wp2
        refine bodyPost_ret (v := .tuple #[.agg #[.int .i64 0, .int .i64 0, .int .i64 0, .int .i64 0], .int .i64 3]) (by simp [results, Try.results20, go_sem, z0, z1, z2, z3]) rfl ?_
        exact ⟨by rw [HL.out], Hr.out.old.set4 (Nat.le_refl _) _ _ _ _⟩
      · have hne : ((L 2).no == 0) = false := by rw [beq_eq_false_iff_ne]; exact h0
        have H0 := Lib.hid h0
        clear h0
        go_wp2
        refine bodyPost_ret (v := .tuple #[.agg #[.int .i64 (L 2).no, .int .i64 (L 2).ep, .int .i64 (L 2).st, .int .i64 (L 2).ck], .int .i64 0]) (by simp [results, Try.results20, go_sem, z0, z1, z2, z3]) rfl ?_
        exact ⟨rfl, Hr.out.old.set4 (Nat.le_refl _) _ _ _ _⟩
end Go.Proofs.Ytkigpicjhklioaa
