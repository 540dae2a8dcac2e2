/-
  bobbinref10.New: the walk.
-/
import Derived.Test.YthbcgbbcoanbdaaRNew
namespace Go.Proofs.Ythbcgbbcoanbdaa
open Go Go.RowKit

set_option maxRecDepth 100000 in
set_option maxHeartbeats 1600000 in
theorem rnew_ok (w : World) (p s k : Int) :
    Calls Try.prog 10 #[.int .i64 p, .int .i64 s, .int .i64 k] w fun e w' => TbAns w w' (newE p s k) (newT p s k) e := by
  obtain ⟨w1, hw1⟩ : ∃ w1, w.alloc (.cells #[.slice none 0 0, .slice none 0 0, .int .i64 0, .int .i64 0] 27) = w1 := ⟨_, rfl⟩
  have hm1 : Mod (fun _ => False) w w1 := by rw [← hw1]; exact (Mod.refl _ w).alloc _
  have hb1 : TBx w1 w.heap.size z0 := by rw [← hw1]; exact TBx.new w z0
  have hz1 : w1.heap.size = w.heap.size + 1 := by rw [← hw1]; simp
  have HM := Lib.hid hm1
  have HB := Lib.hid hb1
  have Hz1 := Lib.hid hz1
  clear hm1 hb1 hz1
  by_cases h1 : p < 1
  · have he : newE p s k = 1 := by unfold newE sizB; rw [if_neg]; rw [Bool.and_eq_true, Bool.and_eq_true, inB_iff, inB_iff, inB_iff]; omega
    rw [he]
    clear he
    have fz0 := HB.out.frozen 0
    have fz1 := HB.out.frozen 1
    have fz2 := HB.out.frozen 2
    have fz3 := HB.out.frozen 3
    obtain ⟨z0c, z1c, z2c, z3c⟩ := HB.out.cells
    have hset := HB.out.set z0
    have hmm := stT_mod w1 w.heap.size z0
    obtain ⟨wf, hwf⟩ : ∃ wf, stT w1 w.heap.size z0 = wf := ⟨_, rfl⟩
    unfold stT at hwf hmm
    have hwf : (((w1.setCell ⟨w.heap.size, 0, none⟩ (.slice none 0 0)).setCell ⟨w.heap.size, 1, none⟩ (.slice none 0 0)).setCell ⟨w.heap.size, 2, none⟩ (.int .i64 0)).setCell ⟨w.heap.size, 3, none⟩ (.int .i64 0) = wf := hwf
    have Hset : Hid (TBx wf w.heap.size z0) := hwf ▸ hset
    have Hmm : Hid (Mod (fun q => q = w.heap.size) w1 wf) := hwf ▸ hmm
    clear hset hmm
    go_enter Try.func10, Try.ntmps10
    go_wp2
    clear hwf hw1 fz0 fz1 fz2 fz3 z0c z1c z2c z3c
    have q0 : wf.cell? ⟨w.heap.size, 0, none⟩ = some (.slice none 0 0) := Hset.out.cells.1
    have q1 : wf.cell? ⟨w.heap.size, 1, none⟩ = some (.slice none 0 0) := Hset.out.cells.2.1
    have q2 : wf.cell? ⟨w.heap.size, 2, none⟩ = some (.int .i64 0) := Hset.out.cells.2.2.1
    have q3 : wf.cell? ⟨w.heap.size, 3, none⟩ = some (.int .i64 0) := Hset.out.cells.2.2.2
    refine bodyPost_ret (v := .tuple #[.agg #[.slice none 0 0, .slice none 0 0, .int .i64 0, .int .i64 0], .int .i64 1]) (by simp [results, Try.results10, go_sem, q0, q1, q2, q3]) rfl ?_
    exact ⟨z0, rfl, z0_at _, rfl, ((HM.out.mono (G := fun q => w.heap.size ≤ q) (fun _ _ h => h.elim)).trans Hmm.out (fun q _ e => by show w.heap.size ≤ q; omega)).mono (fun q hq e => by omega)⟩
  by_cases h2 : 16 < p
  · have he : newE p s k = 1 := by unfold newE sizB; rw [if_neg]; rw [Bool.and_eq_true, Bool.and_eq_true, inB_iff, inB_iff, inB_iff]; omega
    rw [he]
    clear he
    have fz0 := HB.out.frozen 0
    have fz1 := HB.out.frozen 1
    have fz2 := HB.out.frozen 2
    have fz3 := HB.out.frozen 3
    obtain ⟨z0c, z1c, z2c, z3c⟩ := HB.out.cells
    have hset := HB.out.set z0
    have hmm := stT_mod w1 w.heap.size z0
    obtain ⟨wf, hwf⟩ : ∃ wf, stT w1 w.heap.size z0 = wf := ⟨_, rfl⟩
    unfold stT at hwf hmm
    have hwf : (((w1.setCell ⟨w.heap.size, 0, none⟩ (.slice none 0 0)).setCell ⟨w.heap.size, 1, none⟩ (.slice none 0 0)).setCell ⟨w.heap.size, 2, none⟩ (.int .i64 0)).setCell ⟨w.heap.size, 3, none⟩ (.int .i64 0) = wf := hwf
    have Hset : Hid (TBx wf w.heap.size z0) := hwf ▸ hset
    have Hmm : Hid (Mod (fun q => q = w.heap.size) w1 wf) := hwf ▸ hmm
    clear hset hmm
    go_enter Try.func10, Try.ntmps10
    go_wp2
    clear hwf hw1 fz0 fz1 fz2 fz3 z0c z1c z2c z3c
    have q0 : wf.cell? ⟨w.heap.size, 0, none⟩ = some (.slice none 0 0) := Hset.out.cells.1
    have q1 : wf.cell? ⟨w.heap.size, 1, none⟩ = some (.slice none 0 0) := Hset.out.cells.2.1
    have q2 : wf.cell? ⟨w.heap.size, 2, none⟩ = some (.int .i64 0) := Hset.out.cells.2.2.1
    have q3 : wf.cell? ⟨w.heap.size, 3, none⟩ = some (.int .i64 0) := Hset.out.cells.2.2.2
    refine bodyPost_ret (v := .tuple #[.agg #[.slice none 0 0, .slice none 0 0, .int .i64 0, .int .i64 0], .int .i64 1]) (by simp [results, Try.results10, go_sem, q0, q1, q2, q3]) rfl ?_
    exact ⟨z0, rfl, z0_at _, rfl, ((HM.out.mono (G := fun q => w.heap.size ≤ q) (fun _ _ h => h.elim)).trans Hmm.out (fun q _ e => by show w.heap.size ≤ q; omega)).mono (fun q hq e => by omega)⟩
  by_cases h3 : s < 2
  · have he : newE p s k = 1 := by unfold newE sizB; rw [if_neg]; rw [Bool.and_eq_true, Bool.and_eq_true, inB_iff, inB_iff, inB_iff]; omega
    rw [he]
    clear he
    have fz0 := HB.out.frozen 0
    have fz1 := HB.out.frozen 1
    have fz2 := HB.out.frozen 2
    have fz3 := HB.out.frozen 3
    obtain ⟨z0c, z1c, z2c, z3c⟩ := HB.out.cells
    have hset := HB.out.set z0
    have hmm := stT_mod w1 w.heap.size z0
    obtain ⟨wf, hwf⟩ : ∃ wf, stT w1 w.heap.size z0 = wf := ⟨_, rfl⟩
    unfold stT at hwf hmm
    have hwf : (((w1.setCell ⟨w.heap.size, 0, none⟩ (.slice none 0 0)).setCell ⟨w.heap.size, 1, none⟩ (.slice none 0 0)).setCell ⟨w.heap.size, 2, none⟩ (.int .i64 0)).setCell ⟨w.heap.size, 3, none⟩ (.int .i64 0) = wf := hwf
    have Hset : Hid (TBx wf w.heap.size z0) := hwf ▸ hset
    have Hmm : Hid (Mod (fun q => q = w.heap.size) w1 wf) := hwf ▸ hmm
    clear hset hmm
    go_enter Try.func10, Try.ntmps10
    go_wp2
    clear hwf hw1 fz0 fz1 fz2 fz3 z0c z1c z2c z3c
    have q0 : wf.cell? ⟨w.heap.size, 0, none⟩ = some (.slice none 0 0) := Hset.out.cells.1
    have q1 : wf.cell? ⟨w.heap.size, 1, none⟩ = some (.slice none 0 0) := Hset.out.cells.2.1
    have q2 : wf.cell? ⟨w.heap.size, 2, none⟩ = some (.int .i64 0) := Hset.out.cells.2.2.1
    have q3 : wf.cell? ⟨w.heap.size, 3, none⟩ = some (.int .i64 0) := Hset.out.cells.2.2.2
    refine bodyPost_ret (v := .tuple #[.agg #[.slice none 0 0, .slice none 0 0, .int .i64 0, .int .i64 0], .int .i64 1]) (by simp [results, Try.results10, go_sem, q0, q1, q2, q3]) rfl ?_
    exact ⟨z0, rfl, z0_at _, rfl, ((HM.out.mono (G := fun q => w.heap.size ≤ q) (fun _ _ h => h.elim)).trans Hmm.out (fun q _ e => by show w.heap.size ≤ q; omega)).mono (fun q hq e => by omega)⟩
  by_cases h4 : 32 < s
  · have he : newE p s k = 1 := by unfold newE sizB; rw [if_neg]; rw [Bool.and_eq_true, Bool.and_eq_true, inB_iff, inB_iff, inB_iff]; omega
    rw [he]
    clear he
    have fz0 := HB.out.frozen 0
    have fz1 := HB.out.frozen 1
    have fz2 := HB.out.frozen 2
    have fz3 := HB.out.frozen 3
    obtain ⟨z0c, z1c, z2c, z3c⟩ := HB.out.cells
    have hset := HB.out.set z0
    have hmm := stT_mod w1 w.heap.size z0
    obtain ⟨wf, hwf⟩ : ∃ wf, stT w1 w.heap.size z0 = wf := ⟨_, rfl⟩
    unfold stT at hwf hmm
    have hwf : (((w1.setCell ⟨w.heap.size, 0, none⟩ (.slice none 0 0)).setCell ⟨w.heap.size, 1, none⟩ (.slice none 0 0)).setCell ⟨w.heap.size, 2, none⟩ (.int .i64 0)).setCell ⟨w.heap.size, 3, none⟩ (.int .i64 0) = wf := hwf
    have Hset : Hid (TBx wf w.heap.size z0) := hwf ▸ hset
    have Hmm : Hid (Mod (fun q => q = w.heap.size) w1 wf) := hwf ▸ hmm
    clear hset hmm
    go_enter Try.func10, Try.ntmps10
    go_wp2
    clear hwf hw1 fz0 fz1 fz2 fz3 z0c z1c z2c z3c
    have q0 : wf.cell? ⟨w.heap.size, 0, none⟩ = some (.slice none 0 0) := Hset.out.cells.1
    have q1 : wf.cell? ⟨w.heap.size, 1, none⟩ = some (.slice none 0 0) := Hset.out.cells.2.1
    have q2 : wf.cell? ⟨w.heap.size, 2, none⟩ = some (.int .i64 0) := Hset.out.cells.2.2.1
    have q3 : wf.cell? ⟨w.heap.size, 3, none⟩ = some (.int .i64 0) := Hset.out.cells.2.2.2
    refine bodyPost_ret (v := .tuple #[.agg #[.slice none 0 0, .slice none 0 0, .int .i64 0, .int .i64 0], .int .i64 1]) (by simp [results, Try.results10, go_sem, q0, q1, q2, q3]) rfl ?_
    exact ⟨z0, rfl, z0_at _, rfl, ((HM.out.mono (G := fun q => w.heap.size ≤ q) (fun _ _ h => h.elim)).trans Hmm.out (fun q _ e => by show w.heap.size ≤ q; omega)).mono (fun q hq e => by omega)⟩
  by_cases h5 : k < 1
  · have he : newE p s k = 1 := by unfold newE sizB; rw [if_neg]; rw [Bool.and_eq_true, Bool.and_eq_true, inB_iff, inB_iff, inB_iff]; omega
    rw [he]
    clear he
    have fz0 := HB.out.frozen 0
    have fz1 := HB.out.frozen 1
    have fz2 := HB.out.frozen 2
    have fz3 := HB.out.frozen 3
    obtain ⟨z0c, z1c, z2c, z3c⟩ := HB.out.cells
    have hset := HB.out.set z0
    have hmm := stT_mod w1 w.heap.size z0
    obtain ⟨wf, hwf⟩ : ∃ wf, stT w1 w.heap.size z0 = wf := ⟨_, rfl⟩
    unfold stT at hwf hmm
    have hwf : (((w1.setCell ⟨w.heap.size, 0, none⟩ (.slice none 0 0)).setCell ⟨w.heap.size, 1, none⟩ (.slice none 0 0)).setCell ⟨w.heap.size, 2, none⟩ (.int .i64 0)).setCell ⟨w.heap.size, 3, none⟩ (.int .i64 0) = wf := hwf
    have Hset : Hid (TBx wf w.heap.size z0) := hwf ▸ hset
    have Hmm : Hid (Mod (fun q => q = w.heap.size) w1 wf) := hwf ▸ hmm
    clear hset hmm
    go_enter Try.func10, Try.ntmps10
    go_wp2
    clear hwf hw1 fz0 fz1 fz2 fz3 z0c z1c z2c z3c
    have q0 : wf.cell? ⟨w.heap.size, 0, none⟩ = some (.slice none 0 0) := Hset.out.cells.1
    have q1 : wf.cell? ⟨w.heap.size, 1, none⟩ = some (.slice none 0 0) := Hset.out.cells.2.1
    have q2 : wf.cell? ⟨w.heap.size, 2, none⟩ = some (.int .i64 0) := Hset.out.cells.2.2.1
    have q3 : wf.cell? ⟨w.heap.size, 3, none⟩ = some (.int .i64 0) := Hset.out.cells.2.2.2
    refine bodyPost_ret (v := .tuple #[.agg #[.slice none 0 0, .slice none 0 0, .int .i64 0, .int .i64 0], .int .i64 1]) (by simp [results, Try.results10, go_sem, q0, q1, q2, q3]) rfl ?_
    exact ⟨z0, rfl, z0_at _, rfl, ((HM.out.mono (G := fun q => w.heap.size ≤ q) (fun _ _ h => h.elim)).trans Hmm.out (fun q _ e => by show w.heap.size ≤ q; omega)).mono (fun q hq e => by omega)⟩
  by_cases h6 : 16 < k
  · have he : newE p s k = 1 := by unfold newE sizB; rw [if_neg]; rw [Bool.and_eq_true, Bool.and_eq_true, inB_iff, inB_iff, inB_iff]; omega
    rw [he]
    clear he
    have fz0 := HB.out.frozen 0
    have fz1 := HB.out.frozen 1
    have fz2 := HB.out.frozen 2
    have fz3 := HB.out.frozen 3
    obtain ⟨z0c, z1c, z2c, z3c⟩ := HB.out.cells
    have hset := HB.out.set z0
    have hmm := stT_mod w1 w.heap.size z0
    obtain ⟨wf, hwf⟩ : ∃ wf, stT w1 w.heap.size z0 = wf := ⟨_, rfl⟩
    unfold stT at hwf hmm
    have hwf : (((w1.setCell ⟨w.heap.size, 0, none⟩ (.slice none 0 0)).setCell ⟨w.heap.size, 1, none⟩ (.slice none 0 0)).setCell ⟨w.heap.size, 2, none⟩ (.int .i64 0)).setCell ⟨w.heap.size, 3, none⟩ (.int .i64 0) = wf := hwf
    have Hset : Hid (TBx wf w.heap.size z0) := hwf ▸ hset
    have Hmm : Hid (Mod (fun q => q = w.heap.size) w1 wf) := hwf ▸ hmm
    clear hset hmm
    go_enter Try.func10, Try.ntmps10
    go_wp2
    clear hwf hw1 fz0 fz1 fz2 fz3 z0c z1c z2c z3c
    have q0 : wf.cell? ⟨w.heap.size, 0, none⟩ = some (.slice none 0 0) := Hset.out.cells.1
    have q1 : wf.cell? ⟨w.heap.size, 1, none⟩ = some (.slice none 0 0) := Hset.out.cells.2.1
    have q2 : wf.cell? ⟨w.heap.size, 2, none⟩ = some (.int .i64 0) := Hset.out.cells.2.2.1
    have q3 : wf.cell? ⟨w.heap.size, 3, none⟩ = some (.int .i64 0) := Hset.out.cells.2.2.2
    refine bodyPost_ret (v := .tuple #[.agg #[.slice none 0 0, .slice none 0 0, .int .i64 0, .int .i64 0], .int .i64 1]) (by simp [results, Try.results10, go_sem, q0, q1, q2, q3]) rfl ?_
    exact ⟨z0, rfl, z0_at _, rfl, ((HM.out.mono (G := fun q => w.heap.size ≤ q) (fun _ _ h => h.elim)).trans Hmm.out (fun q _ e => by show w.heap.size ≤ q; omega)).mono (fun q hq e => by omega)⟩
  have he : newE p s k = 0 := by unfold newE sizB; rw [if_pos]; rw [Bool.and_eq_true, Bool.and_eq_true, inB_iff, inB_iff, inB_iff]; omega
  rw [he]
  clear he
  obtain ⟨P, rfl⟩ : ∃ P : Nat, p = P := ⟨p.toNat, by omega⟩
  obtain ⟨S, rfl⟩ : ∃ S : Nat, s = S := ⟨s.toNat, by omega⟩
  have HT : Hid (newT P S k = ⟨List.replicate P emT, List.replicate S noT, k, 0⟩) := Lib.hid rfl
  have hn2 : Nw w (w1.alloc (.cells #[.slice none 0 0, .slice none 0 0, .int .i64 k, .int .i64 0] 27)) k none 0 0 none 0 0 := by
    have hb := TBx.new w1 ⟨none, 0, 0, none, 0, 0, ⟨[], [], k, 0⟩⟩
    rw [Hz1.out] at hb
    exact ⟨hb, HB.out.keep ((Mod.refl _ _).alloc _), OwN.nil _ _ _ _, OwN.nil _ _ _ _, HM.out.alloc _, by rw [World.size_alloc, Hz1.out]; omega, fun q e => by simp [blkOf] at e⟩
  have hs1 := Hz1.out
  go_enter Try.func10, Try.ntmps10
  go_wp2_with fail
  go_loopw [9] (fun i wr => ∃ (j : Nat) (A : Option Addr) (c : Nat), j ≤ P ∧ i = .int .i64 j ∧ Nw w wr k A j c none 0 0) (fun i _ => P - (intOf i).toNat)
  case atStart => exact ⟨0, none, 0, Nat.zero_le _, rfl, hn2⟩
  case round =>
    obtain ⟨j, A, c, hj, rfl, hnw⟩ := hrel
    clear hn2
    by_cases hlt : j < P
    · have hjI : (j : Int) < (P : Int) := by omega
      obtain ⟨c0, c1, c2, c3⟩ := hnw.bx.cells
      have hsrc : SrcN (wr.alloc (.cells #[.int .i64 (-1), .int .i64 0, .int .i64 0] 34)) (some ⟨wr.heap.size, 0, none⟩) 1 3 (trs [emT]) := SrcN.lit wr [.int .i64 (-1), .int .i64 0, .int .i64 0] 34 (by simp [Value.oneCell'])
      have ho4 : Ow3 (wr.alloc (.cells #[.int .i64 (-1), .int .i64 0, .int .i64 0] 34)) (w.heap.size + 2) 34 A j c (List.replicate j emT) := hnw.pg.keep ((Mod.refl _ wr).alloc _)
      have hbase : w.heap.size + 2 ≤ (wr.alloc (.cells #[.int .i64 (-1), .int .i64 0, .int .i64 0] 34)).heap.size := by have := hnw.sz; rw [World.size_alloc]; omega
      have HN := Lib.hid hnw
      clear hnw
      go_wp2_with (at_builtin; refine wpList_appN (.tmp 42) (.tmp 44) plElem rfl rfl rfl rfl ho4 hsrc (by omega) (by unfold maxLen; omega) hbase ?_; intro A5 c5 w5 ho5 hg5 hat5; rw [← trs_append, ← List.replicate_succ'] at ho5; have hmod : Mod (fun q => blkOf A = some q) wr w5 := (((Mod.refl (fun q => blkOf A = some q) wr).alloc _)).grown hg5 (fun q e _ => e); have hn5 := HN.out |> fun h => Nw.addP h ho5 hmod (by rcases hat5 with e | e; exact .inl e; exact .inr ⟨_, e, by rw [World.size_alloc]; omega⟩); have hbx5 := (HN.out.boxes hmod (fun q e => (HN.out.pg.lt q e).1)).1; have f5 := hbx5.frozen 0; obtain ⟨e0, e1, e2, e3⟩ := hbx5.cells; clear hsrc ho4 hbase ho5 hg5 hat5 hmod hbx5 c0 c1 c2 c3)
      go_roundw
      case rel => exact ⟨j + 1, A5, c5, by omega, by go_num, hn5⟩
      case measure => simp [intOf]; omega
    · obtain rfl : j = P := by omega
      go_wp2
      go_loopw [10] (fun i wv => ∃ (q : Nat) (B : Option Addr) (d : Nat), q ≤ S ∧ i = .int .i64 q ∧ Nw w wv k A j c B q d) (fun i _ => S - (intOf i).toNat)
      case atStart => exact ⟨0, none, 0, Nat.zero_le _, rfl, hnw⟩
      case round =>
        clear hnw
        obtain ⟨q, B, d, hq, rfl, hnw⟩ := hrel
        by_cases hlt2 : q < S
        · have hjI : (q : Int) < (S : Int) := by omega
          obtain ⟨c0, c1, c2, c3⟩ := hnw.bx.cells
          have hsrc : SrcN (wr.alloc (.cells #[.int .i64 0, .int .i64 0, .int .i64 0] 45)) (some ⟨wr.heap.size, 0, none⟩) 1 3 (trs [noT]) := SrcN.lit wr [.int .i64 0, .int .i64 0, .int .i64 0] 45 (by simp [Value.oneCell'])
          have ho4 : Ow3 (wr.alloc (.cells #[.int .i64 0, .int .i64 0, .int .i64 0] 45)) (w.heap.size + 2) 45 B q d (List.replicate q noT) := hnw.sg.keep ((Mod.refl _ wr).alloc _)
          have hbase : w.heap.size + 2 ≤ (wr.alloc (.cells #[.int .i64 0, .int .i64 0, .int .i64 0] 45)).heap.size := by have := hnw.sz; rw [World.size_alloc]; omega
          have HN := Lib.hid hnw
          clear hnw
          go_wp2_with (at_builtin; refine wpList_appN (.tmp 53) (.tmp 55) sgElem rfl rfl rfl rfl ho4 hsrc (by omega) (by unfold maxLen; omega) hbase ?_; intro A5 c5 w5 ho5 hg5 hat5; rw [← trs_append, ← List.replicate_succ'] at ho5; have hmod : Mod (fun q => blkOf B = some q) wr w5 := (((Mod.refl (fun q => blkOf B = some q) wr).alloc _)).grown hg5 (fun q e _ => e); have hn5 := HN.out |> fun h => Nw.addS h ho5 hmod (by rcases hat5 with e | e; exact .inl e; exact .inr ⟨_, e, by rw [World.size_alloc]; omega⟩); have hbx5 := (HN.out.boxes hmod (fun q e => (HN.out.sg.lt q e).1)).1; have f5 := hbx5.frozen 1; obtain ⟨e0, e1, e2, e3⟩ := hbx5.cells; clear hsrc ho4 hbase ho5 hg5 hat5 hmod hbx5 c0 c1 c2 c3)
          go_roundw
          case rel => exact ⟨q + 1, A5, c5, by omega, by go_num, hn5⟩
          case measure => simp [intOf]; omega
        · obtain rfl : q = S := by omega
          have HN := Lib.hid hnw
          obtain ⟨c0, c1, c2, c3⟩ := hnw.bx.cells
          have fz0 := hnw.res.frozen 0
          have fz1 := hnw.res.frozen 1
          have fz2 := hnw.res.frozen 2
          have fz3 := hnw.res.frozen 3
          obtain ⟨z0c, z1c, z2c, z3c⟩ := hnw.res.cells
          have hset := hnw.res.set (⟨A, j, c, B, q, d, ⟨List.replicate j emT, List.replicate q noT, k, 0⟩⟩ : TV)
          have hmm := stT_mod wr w.heap.size (⟨A, j, c, B, q, d, ⟨List.replicate j emT, List.replicate q noT, k, 0⟩⟩ : TV)
          obtain ⟨wf, hwf⟩ : ∃ wf, stT wr w.heap.size (⟨A, j, c, B, q, d, ⟨List.replicate j emT, List.replicate q noT, k, 0⟩⟩ : TV) = wf := ⟨_, rfl⟩
          unfold stT at hwf hmm
          have hwf : (((wr.setCell ⟨w.heap.size, 0, none⟩ (.slice A j c)).setCell ⟨w.heap.size, 1, none⟩ (.slice B q d)).setCell ⟨w.heap.size, 2, none⟩ (.int .i64 k)).setCell ⟨w.heap.size, 3, none⟩ (.int .i64 0) = wf := hwf
          have Hset : Hid (TBx wf w.heap.size (⟨A, j, c, B, q, d, ⟨List.replicate j emT, List.replicate q noT, k, 0⟩⟩ : TV)) := hwf ▸ hset
          have Hmm : Hid (Mod (fun q => q = w.heap.size) wr wf) := hwf ▸ hmm
          clear hset hmm hnw
          go_wp2
          clear hwf fz0 fz1 fz2 fz3 z0c z1c z2c z3c c0 c1 c2 c3
          obtain ⟨q0, q1, q2, q3⟩ := Hset.out.cells
          refine bodyPost_ret (v := .tuple #[.agg #[.slice A j c, .slice B q d, .int .i64 k, .int .i64 0], .int .i64 0]) (by simp [results, Try.results10, go_sem, q0, q1, q2, q3]) rfl ?_
          exact ⟨⟨A, j, c, B, q, d, ⟨List.replicate j emT, List.replicate q noT, k, 0⟩⟩, rfl, ⟨(HN.out.pg.mod Hmm.out (fun r hr e => by have := (HN.out.pg.lt r hr).1; omega)).tl, (HN.out.sg.mod Hmm.out (fun r hr e => by have := (HN.out.sg.lt r hr).1; omega)).tl⟩, by rw [if_pos rfl, HT.out], ((HN.out.old.mono (G := fun q => w.heap.size ≤ q) (fun _ _ h => h.elim)).trans Hmm.out (fun q _ e => by show w.heap.size ≤ q; omega)).mono (fun q hq e => by omega)⟩
end Go.Proofs.Ythbcgbbcoanbdaa
