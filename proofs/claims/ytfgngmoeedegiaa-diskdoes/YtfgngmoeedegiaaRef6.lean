/-
  The document's own answer (bobbinref03): Crash.
-/
import Derived.Test.YtfgngmoeedegiaaRef5
import Derived.Deep.RegionHeld3
namespace Go.Proofs.Ytfgngmoeedegiaa
open Go Go.RowKit

theorem crashGo_snoc (f : Nat → Nat) (W : List (Nat × List UInt8)) : ∀ (i : Nat) (y : Nat × List UInt8) (D : List (List UInt8)), crashGo f i (W ++ [y]) D = (crashGo f i W D).set y.1 (partOf ((crashGo f i W D).getD y.1 []) y.2 (f (i + W.length))) := by
  induction W with
  | nil => intro i y D; rfl
  | cons z W ih =>
    intro i y D
    rw [List.cons_append]
    show crashGo f (i + 1) (W ++ [y]) _ = (crashGo f (i + 1) W _).set _ _
    rw [ih, List.length_cons, show i + 1 + W.length = i + (W.length + 1) by omega]
    rfl
theorem crashGo_take (f : Nat → Nat) (W : List (Nat × List UInt8)) (D : List (List UInt8)) (j : Nat) (y : Nat × List UInt8) (h : W[j]? = some y) :
    crashGo f 0 (W.take (j + 1)) D = (crashGo f 0 (W.take j) D).set y.1 (partOf ((crashGo f 0 (W.take j) D).getD y.1 []) y.2 (f j)) := by
  obtain ⟨hj, e⟩ := List.getElem?_eq_some_iff.1 h
  rw [List.take_succ_eq_append_getElem hj, e, crashGo_snoc, Nat.zero_add, List.length_take, Nat.min_eq_left (by omega)]

/-- The sectors that are being made, the first writes done. -/
structure RAft (w : World) (M : Nat → Prop) (base g n c : Nat) (D' : List Sct) : Prop where
  own : OwV w base 39 (some ⟨g, 0, none⟩) n c (D'.map Sct.v)
  secs : ∀ s ∈ D', s.At w (fun k => M k ∨ k = g)
theorem RAft.len {w : World} {M : Nat → Prop} {base g n c : Nat} {D' : List Sct} (h : RAft w M base g n c D') : D'.length = n := by have := h.own.len; simpa using this
/-- One sector is replaced. -/
theorem RAft.put {w w1 : World} {M : Nat → Prop} {base g n c i : Nat} {D' : List Sct} (h : RAft w M base g n c D') (hM : ∀ k, M k → k < base) (hb : base ≤ w.heap.size) {A : Option Addr} {cc : Nat} {ys : List UInt8} (hf : FreshR w w1 A 256 cc ys) :
    RAft (w1.setCell ⟨g, i, none⟩ (.slice A 256 cc)) M base g n c (D'.set i ⟨A, cc, ys⟩) := by
  have hgl := (h.own.lt g rfl).2
  have hm2 : Mod (fun k => k = g) w1 (w1.setCell ⟨g, i, none⟩ (.slice A 256 cc)) := (Mod.refl _ w1).one _ _
  refine ⟨?_, fun s hs => ?_⟩
  · rw [← map_set_v]
    exact (h.own.mod hf.2 (fun _ _ => id)).set i (.slice A 256 cc)
  · rcases List.mem_or_eq_of_mem_set hs with q | q
    · have h1 := (h.secs s q).keep hf.2
      exact ⟨h1.1.mod hm2 (fun k hk _ e => h1.2 k hk (.inr e)), h1.2⟩
    · subst q
      have hnew : ∀ k, blkOf A = some k → w.heap.size ≤ k := fun k hk => hf.new hk
      refine ⟨hf.sl.mod hm2 (fun k hk _ e => by have := hnew k hk; omega), fun k hk e => ?_⟩
      have := hnew k hk
      rcases e with e | e
      · have := hM k e; omega
      · omega

set_option maxRecDepth 100000 in
set_option maxHeartbeats 8000000 in
theorem refCrash_ok (w : World) (M : Nat → Prop) (hM : ∀ k, M k → k < w.heap.size) (d : Dk) (r : RV) (h : r.At w M) (hd : Alike d r.dk) (hW : r.W.length ≤ 1000) (hpos : 0 < r.D.length)
    (kA : Option Addr) (kn kc : Nat) (ks : List Bool) (torn kk : Int) (hk : Bl w kA kn kc ks) (hkn : kn ≤ 9223372036854775807) :
    Calls Try.prog 20 #[r.v, .agg #[.slice kA kn kc, .int .i64 torn, .int .i64 kk]] w fun e w' => ∃ r' : RV, e = .returned r'.v ∧ r'.At w' M ∧ Alike (d.crash (keptN ks torn kk)) r'.dk ∧ Mod (fun _ => False) w w' := by
  rw [RV.v_eq]
  have Hd := Lib.hid hd
  have H := Lib.hid h
  have HM := Lib.hid hM
  have Hk := Lib.hid hk
  have hfew := h.few
  obtain ⟨w3, hw3⟩ : ∃ w3, w3 = ((w.alloc (.cells #[.slice r.DA r.D.length r.dc, .slice r.WA r.W.length r.wc, .bool r.armed, .bool r.dead, .int .i64 r.left] 31)).alloc (.cells #[.slice kA kn kc, .int .i64 torn, .int .i64 kk] 36)).alloc (.cells #[.slice none 0 0, .slice none 0 0, .bool false, .bool false, .int .i64 0] 31) := ⟨_, rfl⟩
  have hm3 : Mod (fun _ => False) w w3 := by rw [hw3]; exact (((Mod.refl _ w).alloc _).alloc _).alloc _
  have hs3 : w3.heap.size = w.heap.size + 3 := by rw [hw3]; simp
  have hbr : w3.heap[w.heap.size]? = some (.cells (rowOf r) 31 (0, 0)) := by
    rw [hw3]
    exact (Below.heap_alloc _ _ _ (by simp; omega)).trans ((Below.heap_alloc _ _ _ (by simp)).trans (heap_alloc_new w _))
  have hbc : w3.heap[w.heap.size + 1]? = some (.cells #[.slice kA kn kc, .int .i64 torn, .int .i64 kk] 36 (0, 0)) := by
    rw [hw3]
    refine (Below.heap_alloc _ _ _ (by simp)).trans ?_
    have := heap_alloc_new (w.alloc (.cells #[.slice r.DA r.D.length r.dc, .slice r.WA r.W.length r.wc, .bool r.armed, .bool r.dead, .int .i64 r.left] 31)) (.cells #[.slice kA kn kc, .int .i64 torn, .int .i64 kk] 36)
    rw [World.size_alloc] at this
    exact this
  have hbz : w3.heap[w.heap.size + 1 + 1]? = some (.cells zrow31 31 (0, 0)) := by
    rw [hw3]
    have := heap_alloc_new ((w.alloc (.cells #[.slice r.DA r.D.length r.dc, .slice r.WA r.W.length r.wc, .bool r.armed, .bool r.dead, .int .i64 r.left] 31)).alloc (.cells #[.slice kA kn kc, .int .i64 torn, .int .i64 kk] 36)) (.cells #[.slice none 0 0, .slice none 0 0, .bool false, .bool false, .int .i64 0] 31)
    simp only [World.size_alloc] at this
    exact this
  have c30 : w3.cell? ⟨w.heap.size, 0, none⟩ = some (.slice r.DA r.D.length r.dc) := by rw [cell_of_row _ _ _ _ _ _ hbr]; rfl
  have hat3 := h.keep hm3
  have hownA : OwV w3 w.heap.size 39 none 0 0 [] := OwV.nil _ _ _
  have hsrcA := Src.rows (fun hp => by obtain ⟨b, o, e, _, hc⟩ := hat3.d hp; exact ⟨b, o, e, hc⟩)
  have hbbA : (0 + r.D.length) * 24 ≤ 140737488355328 := by omega
  have hmlA : 0 + r.D.length ≤ maxLen := by unfold maxLen; omega
  have hbaseA : w.heap.size ≤ w3.heap.size := hm3.size
  have Hw3 := Lib.hid hw3
  have Hm3 := Lib.hid hm3
  have Hs3 := Lib.hid hs3
  have Hbr := Lib.hid hbr
  have Hbc := Lib.hid hbc
  have Hbz := Lib.hid hbz
  rw [hw3] at hownA hsrcA hbaseA c30
  clear hd h hM hk hw3 hm3 hs3 hbr hbc hbz hat3
  go_enter Try.func20, Try.ntmps20
  go_wp2_with (at_builtin; refine wpList_app (.const (.slice none 0 0)) (.tmp 12) rowElem rfl rfl rfl rfl hownA hsrcA hbbA hmlA hbaseA ?_)
  intro A4 c4 w4 ho4 hg4 hb4
  have hm4 : Mod (fun _ => False) w3 w4 := by rw [Hw3.out]; exact (Mod.refl _ _).grown hg4 (fun k e => by cases e)
  have ho4' : OwV w4 w.heap.size 39 A4 r.D.length c4 (r.D.map Sct.v) := by simpa using ho4
  obtain ⟨g4, hA4, hg4b, _⟩ := ho4'.rows hpos
  subst hA4
  have hg4s : w.heap.size + 3 ≤ g4 := by
    rcases hb4 with e | e
    · cases e
    · have hs3 := Hs3.out
      rw [Hw3.out] at hs3
      have e1 : blkOf (some (⟨g4, 0, none⟩ : Addr)) = some g4 := rfl
      rw [e1] at e
      injection e with e
      rw [e]
      simp [World.size_alloc] at hs3 ⊢
  have Hbr4 := Lib.hid ((hm4.block _ (Array.getElem?_eq_some_iff.1 Hbr.out).1 id).trans Hbr.out)
  have Hbc4 := Lib.hid ((hm4.block _ (Array.getElem?_eq_some_iff.1 Hbc.out).1 id).trans Hbc.out)
  have Hbz4 := Lib.hid ((hm4.block _ (Array.getElem?_eq_some_iff.1 Hbz.out).1 id).trans Hbz.out)
  have Hm04 := Lib.hid (Hm3.out.trans hm4 (fun _ _ h => h))
  have Ha4 : Hid (RAft w4 M w.heap.size g4 r.D.length c4 r.D) := by
    refine ⟨ho4', fun s hs => ?_⟩
    have h1 := (H.out.secs s hs)
    refine ⟨h1.1.mod Hm04.out (fun _ _ _ => id), fun k hk e => ?_⟩
    rcases e with e | e
    · exact h1.2 k hk e
    · obtain ⟨b, o, hA, hb⟩ := h1.1.lt (by omega)
      rw [hA] at hk
      simp [blkOf] at hk
      omega
  have Hg4s := Lib.hid hg4s
  have hMw := HM.out
  clear hm4 ho4 ho4' hg4 hb4 hownA hsrcA hbbA hmlA hbaseA c30 hg4b hg4s Hbr Hbc Hbz Hm3 Hs3
  go_wp2_with fail
  obtain ⟨B1, hB1⟩ : ∃ B1, B1 = w.heap.size := ⟨_, rfl⟩
  rw [← hB1]
  have HB1 := Lib.hid hB1
  have HMw := Lib.hid hMw
  clear hB1 hMw
  go_loopw [6] (fun i wr => ∃ (j : Nat) (D' : List Sct), j ≤ r.W.length ∧ i = .int .i64 j ∧ Mod (fun k => k = g4) w4 wr ∧ RAft wr M w.heap.size g4 r.D.length c4 D' ∧ D'.map Sct.xs = crashGo (keptN ks torn kk) 0 ((r.W.map fun y => (y.1, y.2.xs)).take j) (r.D.map Sct.xs)) (fun i _ => r.W.length - (intOf i).toNat)
  case atStart => exact ⟨0, r.D, by omega, rfl, Mod.refl _ _, Ha4.out, rfl⟩
  case round =>
    obtain ⟨j, D', hj, rfl, hm, haft, hcr⟩ := hrel
    have hg4s := Hg4s.out
    have hb1 := HB1.out
    have hbr : wr.heap[B1]? = some (.cells (rowOf r) 31 (0, 0)) := by rw [hb1]; exact (hm.block _ (Array.getElem?_eq_some_iff.1 Hbr4.out).1 (by omega)).trans Hbr4.out
    have hbc : wr.heap[B1 + 1]? = some (.cells #[.slice kA kn kc, .int .i64 torn, .int .i64 kk] 36 (0, 0)) := by rw [hb1]; exact (hm.block _ (Array.getElem?_eq_some_iff.1 Hbc4.out).1 (by omega)).trans Hbc4.out
    have hbz : wr.heap[B1 + 1 + 1]? = some (.cells zrow31 31 (0, 0)) := by rw [hb1]; exact (hm.block _ (Array.getElem?_eq_some_iff.1 Hbz4.out).1 (by omega)).trans Hbz4.out
    have hm0r : Mod (fun _ => False) w wr := Hm04.out.trans hm (fun k hk e => by omega)
    have c1 : wr.cell? ⟨B1, 1, none⟩ = some (.slice r.WA r.W.length r.wc) := by rw [cell_of_row _ _ _ _ _ _ hbr]; rfl
    by_cases hlt : j < r.W.length
    · obtain ⟨y, hy⟩ : ∃ y, r.W[j]? = some y := ⟨_, List.getElem?_eq_getElem hlt⟩
      have hatr := H.out.keep hm0r
      obtain ⟨bW, oW, hWA, _, hWc⟩ := hatr.wt (by omega)
      obtain ⟨cy0, cy1⟩ := hWc j y hy
      have cy1' : wr.cell? ⟨bW, oW + j * 2 + 1, none⟩ = some (.slice y.2.A 256 y.2.c) := cy1
      have hyl := (hatr.wsecs y (List.mem_of_getElem? hy)).1
      have hysl := (hatr.wsecs y (List.mem_of_getElem? hy)).2.1
      obtain ⟨s0, hs0⟩ : ∃ s0, D'[y.1]? = some s0 := ⟨_, List.getElem?_eq_getElem (by rw [haft.len]; exact hyl)⟩
      obtain ⟨⟨u, cu, hu⟩, fu⟩ := haft.own.spot y.1 hyl
      rw [List.getElem?_map, hs0] at hu
      injection hu with hu
      have cu' : wr.cell? ⟨g4, y.1, none⟩ = some (.slice s0.A 256 s0.c) := by rw [← hu] at cu; exact cu
      have hs0sl := (haft.secs s0 (List.mem_of_getElem? hs0)).1
      have k0 : wr.cell? ⟨B1 + 1, 0, none⟩ = some (.slice kA kn kc) := by rw [cell_of_row _ _ _ _ _ _ hbc]; rfl
      have k1 : wr.cell? ⟨B1 + 1, 1, none⟩ = some (.int .i64 torn) := by rw [cell_of_row _ _ _ _ _ _ hbc]; rfl
      have k2 : wr.cell? ⟨B1 + 1, 2, none⟩ = some (.int .i64 kk) := by rw [cell_of_row _ _ _ _ _ _ hbc]; rfl
      have htk : (r.W.map fun y => (y.1, y.2.xs))[j]? = some (y.1, y.2.xs) := by rw [List.getElem?_map, hy]; rfl
      -- what this round leaves
      have Hput : Hid (∀ (q : Nat) (w5 : World) (A5 : Option Addr) (c5 : Nat), FreshR (wr.drewN q) w5 A5 256 c5 (partOf s0.xs y.2.xs (keptN ks torn kk j)) → ∃ D2 : List Sct, Mod (fun k => k = g4) w4 (w5.setCell ⟨g4, y.1, none⟩ (.slice A5 256 c5)) ∧ RAft (w5.setCell ⟨g4, y.1, none⟩ (.slice A5 256 c5)) M w.heap.size g4 r.D.length c4 D2 ∧
          D2.map Sct.xs = crashGo (keptN ks torn kk) 0 ((r.W.map fun y => (y.1, y.2.xs)).take (j + 1)) (r.D.map Sct.xs)) := by
        intro q w5 A5 c5 hf
        have hq : RAft (wr.drewN q) M w.heap.size g4 r.D.length c4 D' := ⟨haft.own.drewN q, fun s hs => (haft.secs s hs).keep ((Mod.refl _ wr).drewN q)⟩
        refine ⟨D'.set y.1 ⟨A5, c5, partOf s0.xs y.2.xs (keptN ks torn kk j)⟩, ?_, hq.put HMw.out hm0r.size hf, ?_⟩
        · exact ((hm.drewN q).trans (hf.2.mono (fun _ _ h => h.elim)) (fun _ _ e => e)).one _ _
        · rw [crashGo_take _ _ _ _ _ htk, ← hcr, List.map_set, List.getD_eq_getElem?_getD, List.getElem?_map, hs0]
          rfl
      have HWA := Lib.hid hWA
      have Hy := Lib.hid hysl
      have Hs0 := Lib.hid hs0sl
      have hbl := (Hk.out.keep hm0r)
      have hpart := fun (q : Nat) => refPart_ok (wr.drewN q) s0.A y.2.A s0.c y.2.c s0.xs y.2.xs (hs0sl.drewN q) (hysl.drewN q) (keptN ks torn kk j) (keptN_le _ _ _ _)
      rw [hWA] at c1
      have hlocW : bW < wr.heap.size := World.block_lt_of_cell? wr _ cy0
      have hlocg : g4 < wr.heap.size := (haft.own.lt g4 rfl).2
      have hlocB : B1 < wr.heap.size := (Array.getElem?_eq_some_iff.1 hbr).1
      have HS : Hid (∀ (q : Nat) (w' : World), Mod (fun _ => False) (wr.drewN q) w' → w'.cell? ⟨B1, 1, none⟩ = some (.slice (some ⟨bW, oW, none⟩) r.W.length r.wc) ∧ w'.cell? ⟨bW, oW + j * 2 + 1, none⟩ = some (.slice y.2.A 256 y.2.c) ∧ w'.cell? ⟨g4, y.1, none⟩ = some (.slice s0.A 256 s0.c)) := by
        intro q w' hm'
        exact ⟨(World.cell?_of_block (hm'.block B1 hlocB id)).trans c1, (World.cell?_of_block (hm'.block bW hlocW id)).trans cy1', (World.cell?_of_block (hm'.block g4 hlocg id)).trans cu'⟩
      have Hst : Hid (∀ (q : Nat) (w' : World), Mod (fun _ => False) (wr.drewN q) w' → w'.cell? ⟨g4, y.1, none⟩ = some (.slice s0.A 256 s0.c) ∧ w'.frozen? ⟨g4, y.1, none⟩ = false) := by
        intro q w' hm'
        refine ⟨(HS.out q w' hm').2.2, ?_⟩
        have hb := hm'.block g4 hlocg id
        unfold World.frozen? at fu ⊢
        simp only at hb fu ⊢
        rw [hb]
        exact fu
      clear hcr haft hm hm0r hatr hWc cy1 hy hs0 hu cu htk hysl hs0sl hbr hbc hbz hg4s hb1 hWA fu hlocW hlocg hlocB
      by_cases ht : (j : Int) = torn
      · have hbt : ((j : Int) == torn) = true := by simpa using ht
        by_cases n0 : kk < 0
        · have hkv : (keptN ks torn kk j : Int) = 0 := by unfold keptN; rw [if_pos ht]; omega
          have hd0 : decide (kk < 0) = true := by simpa using n0
          simp only [hkv] at hpart
          have Hpart := Lib.hid hpart
          clear hpart hkv ht n0
          by_cases hz : kn = 0
          · subst hz
            clear hbl
            go_wp2_with fail
            go_quiet (fail)
            go_wp2_with fail
            go_region_held3 (fun w' => w'.cell? ⟨B1, 1, none⟩ = some (.slice (some ⟨bW, oW, none⟩) r.W.length r.wc) ∧ w'.cell? ⟨bW, oW + j * 2 + 1, none⟩ = some (.slice y.2.A 256 y.2.c) ∧ w'.cell? ⟨g4, y.1, none⟩ = some (.slice s0.A 256 s0.c)) (first | exact HS.out (nq + 1) _ hf.2 | exact HS.out (nq + 1) _ (Mod.refl _ _)) ((go_at_call 38; refine (Hpart.out (nq + 1)).mono ?_; rintro e w5 ⟨A5, c5, rfl, hf⟩))
            all_goals
              obtain ⟨D2, p1, p2, p3⟩ := Hput.out (nq + 1) w5 A5 c5 hf
              obtain ⟨t1, t2⟩ := Hst.out (nq + 1) w5 hf.2
              have P1 := Lib.hid p1
              have P2 := Lib.hid p2
              have P3 := Lib.hid p3
              clear hf p1 p2 p3
              go_wp2
              go_roundw
              case rel => exact ⟨j + 1, D2, by omega, by go_num, P1.out, P2.out, P3.out⟩
              case measure => simp [intOf]; omega
          · have hkp : 0 < kn := by omega
            obtain ⟨bk, ok, hkA, hkc⟩ := hbl.2.2 hkp
            have hck := hkc (j % kn) (Nat.mod_lt _ hkp)
            have hmd : j % kn < kn := Nat.mod_lt _ hkp
            rw [hkA] at k0
            have hdk : decide ((0 : Int) < kn) = true := by simp; omega
            have hrk : Int.tmod (j : Int) kn = ((j % kn : Nat) : Int) := by rw [Int.tmod_eq_emod_of_nonneg (by omega)]; rfl
            generalize ks.getD (j % kn) false = qk at *
            generalize j % kn = rk at *
            clear hkc hbl hkA
            cases qk with
            | true =>
              go_wp2_with fail
              go_quiet (fail)
              go_wp2_with fail
              go_region_held3 (fun w' => w'.cell? ⟨B1, 1, none⟩ = some (.slice (some ⟨bW, oW, none⟩) r.W.length r.wc) ∧ w'.cell? ⟨bW, oW + j * 2 + 1, none⟩ = some (.slice y.2.A 256 y.2.c) ∧ w'.cell? ⟨g4, y.1, none⟩ = some (.slice s0.A 256 s0.c)) (first | exact HS.out (nq + 1) _ hf.2 | exact HS.out (nq + 1) _ (Mod.refl _ _)) ((go_at_call 38; refine (Hpart.out (nq + 1)).mono ?_; rintro e w5 ⟨A5, c5, rfl, hf⟩))
              all_goals
                obtain ⟨D2, p1, p2, p3⟩ := Hput.out (nq + 1) w5 A5 c5 hf
                obtain ⟨t1, t2⟩ := Hst.out (nq + 1) w5 hf.2
                have P1 := Lib.hid p1
                have P2 := Lib.hid p2
                have P3 := Lib.hid p3
                clear hf p1 p2 p3
                go_wp2
                go_roundw
                case rel => exact ⟨j + 1, D2, by omega, by go_num, P1.out, P2.out, P3.out⟩
                case measure => simp [intOf]; omega
            | false =>
              go_wp2_with fail
              go_quiet (fail)
              go_wp2_with fail
              go_region_held3 (fun w' => w'.cell? ⟨B1, 1, none⟩ = some (.slice (some ⟨bW, oW, none⟩) r.W.length r.wc) ∧ w'.cell? ⟨bW, oW + j * 2 + 1, none⟩ = some (.slice y.2.A 256 y.2.c) ∧ w'.cell? ⟨g4, y.1, none⟩ = some (.slice s0.A 256 s0.c)) (first | exact HS.out (nq + 1) _ hf.2 | exact HS.out (nq + 1) _ (Mod.refl _ _)) ((go_at_call 38; refine (Hpart.out (nq + 1)).mono ?_; rintro e w5 ⟨A5, c5, rfl, hf⟩))
              all_goals
                obtain ⟨D2, p1, p2, p3⟩ := Hput.out (nq + 1) w5 A5 c5 hf
                obtain ⟨t1, t2⟩ := Hst.out (nq + 1) w5 hf.2
                have P1 := Lib.hid p1
                have P2 := Lib.hid p2
                have P3 := Lib.hid p3
                clear hf p1 p2 p3
                go_wp2
                go_roundw
                case rel => exact ⟨j + 1, D2, by omega, by go_num, P1.out, P2.out, P3.out⟩
                case measure => simp [intOf]; omega
        · have hd0 : decide (kk < 0) = false := by simpa using n0
          by_cases n1 : 256 < kk
          · have hkv : (keptN ks torn kk j : Int) = 256 := by unfold keptN; rw [if_pos ht]; omega
            have hd1 : decide (256 < kk) = true := by simpa using n1
            simp only [hkv] at hpart
            have Hpart := Lib.hid hpart
            clear hpart hkv ht n0
            by_cases hz : kn = 0
            · subst hz
              clear hbl
              go_wp2_with fail
              go_quiet (fail)
              go_wp2_with fail
              go_region_held3 (fun w' => w'.cell? ⟨B1, 1, none⟩ = some (.slice (some ⟨bW, oW, none⟩) r.W.length r.wc) ∧ w'.cell? ⟨bW, oW + j * 2 + 1, none⟩ = some (.slice y.2.A 256 y.2.c) ∧ w'.cell? ⟨g4, y.1, none⟩ = some (.slice s0.A 256 s0.c)) (first | exact HS.out (nq + 1) _ hf.2 | exact HS.out (nq + 1) _ (Mod.refl _ _)) ((go_at_call 38; refine (Hpart.out (nq + 1)).mono ?_; rintro e w5 ⟨A5, c5, rfl, hf⟩))
              all_goals
                obtain ⟨D2, p1, p2, p3⟩ := Hput.out (nq + 1) w5 A5 c5 hf
                obtain ⟨t1, t2⟩ := Hst.out (nq + 1) w5 hf.2
                have P1 := Lib.hid p1
                have P2 := Lib.hid p2
                have P3 := Lib.hid p3
                clear hf p1 p2 p3
                go_wp2
                go_roundw
                case rel => exact ⟨j + 1, D2, by omega, by go_num, P1.out, P2.out, P3.out⟩
                case measure => simp [intOf]; omega
            · have hkp : 0 < kn := by omega
              obtain ⟨bk, ok, hkA, hkc⟩ := hbl.2.2 hkp
              have hck := hkc (j % kn) (Nat.mod_lt _ hkp)
              have hmd : j % kn < kn := Nat.mod_lt _ hkp
              rw [hkA] at k0
              have hdk : decide ((0 : Int) < kn) = true := by simp; omega
              have hrk : Int.tmod (j : Int) kn = ((j % kn : Nat) : Int) := by rw [Int.tmod_eq_emod_of_nonneg (by omega)]; rfl
              generalize ks.getD (j % kn) false = qk at *
              generalize j % kn = rk at *
              clear hkc hbl hkA
              cases qk with
              | true =>
                go_wp2_with fail
                go_quiet (fail)
                go_wp2_with fail
                go_region_held3 (fun w' => w'.cell? ⟨B1, 1, none⟩ = some (.slice (some ⟨bW, oW, none⟩) r.W.length r.wc) ∧ w'.cell? ⟨bW, oW + j * 2 + 1, none⟩ = some (.slice y.2.A 256 y.2.c) ∧ w'.cell? ⟨g4, y.1, none⟩ = some (.slice s0.A 256 s0.c)) (first | exact HS.out (nq + 1) _ hf.2 | exact HS.out (nq + 1) _ (Mod.refl _ _)) ((go_at_call 38; refine (Hpart.out (nq + 1)).mono ?_; rintro e w5 ⟨A5, c5, rfl, hf⟩))
                all_goals
                  obtain ⟨D2, p1, p2, p3⟩ := Hput.out (nq + 1) w5 A5 c5 hf
                  obtain ⟨t1, t2⟩ := Hst.out (nq + 1) w5 hf.2
                  have P1 := Lib.hid p1
                  have P2 := Lib.hid p2
                  have P3 := Lib.hid p3
                  clear hf p1 p2 p3
                  go_wp2
                  go_roundw
                  case rel => exact ⟨j + 1, D2, by omega, by go_num, P1.out, P2.out, P3.out⟩
                  case measure => simp [intOf]; omega
              | false =>
                go_wp2_with fail
                go_quiet (fail)
                go_wp2_with fail
                go_region_held3 (fun w' => w'.cell? ⟨B1, 1, none⟩ = some (.slice (some ⟨bW, oW, none⟩) r.W.length r.wc) ∧ w'.cell? ⟨bW, oW + j * 2 + 1, none⟩ = some (.slice y.2.A 256 y.2.c) ∧ w'.cell? ⟨g4, y.1, none⟩ = some (.slice s0.A 256 s0.c)) (first | exact HS.out (nq + 1) _ hf.2 | exact HS.out (nq + 1) _ (Mod.refl _ _)) ((go_at_call 38; refine (Hpart.out (nq + 1)).mono ?_; rintro e w5 ⟨A5, c5, rfl, hf⟩))
                all_goals
                  obtain ⟨D2, p1, p2, p3⟩ := Hput.out (nq + 1) w5 A5 c5 hf
                  obtain ⟨t1, t2⟩ := Hst.out (nq + 1) w5 hf.2
                  have P1 := Lib.hid p1
                  have P2 := Lib.hid p2
                  have P3 := Lib.hid p3
                  clear hf p1 p2 p3
                  go_wp2
                  go_roundw
                  case rel => exact ⟨j + 1, D2, by omega, by go_num, P1.out, P2.out, P3.out⟩
                  case measure => simp [intOf]; omega
          · have hkv : (keptN ks torn kk j : Int) = kk := by unfold keptN; rw [if_pos ht]; omega
            have hd1 : decide (256 < kk) = false := by simpa using n1
            simp only [hkv] at hpart
            have Hpart := Lib.hid hpart
            clear hpart hkv ht n0
            by_cases hz : kn = 0
            · subst hz
              clear hbl
              go_wp2_with fail
              go_quiet (fail)
              go_wp2_with fail
              go_region_held3 (fun w' => w'.cell? ⟨B1, 1, none⟩ = some (.slice (some ⟨bW, oW, none⟩) r.W.length r.wc) ∧ w'.cell? ⟨bW, oW + j * 2 + 1, none⟩ = some (.slice y.2.A 256 y.2.c) ∧ w'.cell? ⟨g4, y.1, none⟩ = some (.slice s0.A 256 s0.c)) (first | exact HS.out (nq + 1) _ hf.2 | exact HS.out (nq + 1) _ (Mod.refl _ _)) ((go_at_call 38; refine (Hpart.out (nq + 1)).mono ?_; rintro e w5 ⟨A5, c5, rfl, hf⟩))
              all_goals
                obtain ⟨D2, p1, p2, p3⟩ := Hput.out (nq + 1) w5 A5 c5 hf
                obtain ⟨t1, t2⟩ := Hst.out (nq + 1) w5 hf.2
                have P1 := Lib.hid p1
                have P2 := Lib.hid p2
                have P3 := Lib.hid p3
                clear hf p1 p2 p3
                go_wp2
                go_roundw
                case rel => exact ⟨j + 1, D2, by omega, by go_num, P1.out, P2.out, P3.out⟩
                case measure => simp [intOf]; omega
            · have hkp : 0 < kn := by omega
              obtain ⟨bk, ok, hkA, hkc⟩ := hbl.2.2 hkp
              have hck := hkc (j % kn) (Nat.mod_lt _ hkp)
              have hmd : j % kn < kn := Nat.mod_lt _ hkp
              rw [hkA] at k0
              have hdk : decide ((0 : Int) < kn) = true := by simp; omega
              have hrk : Int.tmod (j : Int) kn = ((j % kn : Nat) : Int) := by rw [Int.tmod_eq_emod_of_nonneg (by omega)]; rfl
              generalize ks.getD (j % kn) false = qk at *
              generalize j % kn = rk at *
              clear hkc hbl hkA
              cases qk with
              | true =>
                go_wp2_with fail
                go_quiet (fail)
                go_wp2_with fail
                go_region_held3 (fun w' => w'.cell? ⟨B1, 1, none⟩ = some (.slice (some ⟨bW, oW, none⟩) r.W.length r.wc) ∧ w'.cell? ⟨bW, oW + j * 2 + 1, none⟩ = some (.slice y.2.A 256 y.2.c) ∧ w'.cell? ⟨g4, y.1, none⟩ = some (.slice s0.A 256 s0.c)) (first | exact HS.out (nq + 1) _ hf.2 | exact HS.out (nq + 1) _ (Mod.refl _ _)) ((go_at_call 38; refine (Hpart.out (nq + 1)).mono ?_; rintro e w5 ⟨A5, c5, rfl, hf⟩))
                all_goals
                  obtain ⟨D2, p1, p2, p3⟩ := Hput.out (nq + 1) w5 A5 c5 hf
                  obtain ⟨t1, t2⟩ := Hst.out (nq + 1) w5 hf.2
                  have P1 := Lib.hid p1
                  have P2 := Lib.hid p2
                  have P3 := Lib.hid p3
                  clear hf p1 p2 p3
                  go_wp2
                  go_roundw
                  case rel => exact ⟨j + 1, D2, by omega, by go_num, P1.out, P2.out, P3.out⟩
                  case measure => simp [intOf]; omega
              | false =>
                go_wp2_with fail
                go_quiet (fail)
                go_wp2_with fail
                go_region_held3 (fun w' => w'.cell? ⟨B1, 1, none⟩ = some (.slice (some ⟨bW, oW, none⟩) r.W.length r.wc) ∧ w'.cell? ⟨bW, oW + j * 2 + 1, none⟩ = some (.slice y.2.A 256 y.2.c) ∧ w'.cell? ⟨g4, y.1, none⟩ = some (.slice s0.A 256 s0.c)) (first | exact HS.out (nq + 1) _ hf.2 | exact HS.out (nq + 1) _ (Mod.refl _ _)) ((go_at_call 38; refine (Hpart.out (nq + 1)).mono ?_; rintro e w5 ⟨A5, c5, rfl, hf⟩))
                all_goals
                  obtain ⟨D2, p1, p2, p3⟩ := Hput.out (nq + 1) w5 A5 c5 hf
                  obtain ⟨t1, t2⟩ := Hst.out (nq + 1) w5 hf.2
                  have P1 := Lib.hid p1
                  have P2 := Lib.hid p2
                  have P3 := Lib.hid p3
                  clear hf p1 p2 p3
                  go_wp2
                  go_roundw
                  case rel => exact ⟨j + 1, D2, by omega, by go_num, P1.out, P2.out, P3.out⟩
                  case measure => simp [intOf]; omega
      · have hbt : ((j : Int) == torn) = false := by simpa using ht
        by_cases hz : kn = 0
        · subst hz
          have hl0 := List.eq_nil_of_length_eq_zero hbl.1
          have hkv : (keptN ks torn kk j : Int) = 0 := by unfold keptN; rw [if_neg ht, hl0]; rfl
          simp only [hkv] at hpart
          have Hpart := Lib.hid hpart
          clear hpart hkv ht hbl hl0
          go_wp2_with fail
          go_quiet (fail)
          go_wp2_with fail
          go_region_held3 (fun w' => w'.cell? ⟨B1, 1, none⟩ = some (.slice (some ⟨bW, oW, none⟩) r.W.length r.wc) ∧ w'.cell? ⟨bW, oW + j * 2 + 1, none⟩ = some (.slice y.2.A 256 y.2.c) ∧ w'.cell? ⟨g4, y.1, none⟩ = some (.slice s0.A 256 s0.c)) (first | exact HS.out (nq + 1) _ hf.2 | exact HS.out (nq + 1) _ (Mod.refl _ _)) ((go_at_call 38; refine (Hpart.out (nq + 1)).mono ?_; rintro e w5 ⟨A5, c5, rfl, hf⟩))
          all_goals
            obtain ⟨D2, p1, p2, p3⟩ := Hput.out (nq + 1) w5 A5 c5 hf
            obtain ⟨t1, t2⟩ := Hst.out (nq + 1) w5 hf.2
            have P1 := Lib.hid p1
            have P2 := Lib.hid p2
            have P3 := Lib.hid p3
            clear hf p1 p2 p3
            go_wp2
            go_roundw
            case rel => exact ⟨j + 1, D2, by omega, by go_num, P1.out, P2.out, P3.out⟩
            case measure => simp [intOf]; omega
        · have hkp : 0 < kn := by omega
          obtain ⟨bk, ok, hkA, hkc⟩ := hbl.2.2 hkp
          have hck := hkc (j % kn) (Nat.mod_lt _ hkp)
          have hmd : j % kn < kn := Nat.mod_lt _ hkp
          have hkv : keptN ks torn kk j = if ks.getD (j % kn) false then 256 else 0 := by unfold keptN; rw [if_neg ht, hbl.1]
          rw [hkA] at k0
          have hdk : decide ((0 : Int) < kn) = true := by simp; omega
          have hrk : Int.tmod (j : Int) kn = ((j % kn : Nat) : Int) := by rw [Int.tmod_eq_emod_of_nonneg (by omega)]; rfl
          generalize ks.getD (j % kn) false = qk at *
          generalize j % kn = rk at *
          clear hkc hbl hkA ht
          cases qk with
          | true =>
            have hkv2 : (keptN ks torn kk j : Int) = 256 := by rw [hkv]; rfl
            simp only [hkv2] at hpart
            have Hpart := Lib.hid hpart
            clear hpart hkv hkv2
            go_wp2_with fail
            go_quiet (fail)
            go_wp2_with fail
            go_region_held3 (fun w' => w'.cell? ⟨B1, 1, none⟩ = some (.slice (some ⟨bW, oW, none⟩) r.W.length r.wc) ∧ w'.cell? ⟨bW, oW + j * 2 + 1, none⟩ = some (.slice y.2.A 256 y.2.c) ∧ w'.cell? ⟨g4, y.1, none⟩ = some (.slice s0.A 256 s0.c)) (first | exact HS.out (nq + 1) _ hf.2 | exact HS.out (nq + 1) _ (Mod.refl _ _)) ((go_at_call 38; refine (Hpart.out (nq + 1)).mono ?_; rintro e w5 ⟨A5, c5, rfl, hf⟩))
            all_goals
              obtain ⟨D2, p1, p2, p3⟩ := Hput.out (nq + 1) w5 A5 c5 hf
              obtain ⟨t1, t2⟩ := Hst.out (nq + 1) w5 hf.2
              have P1 := Lib.hid p1
              have P2 := Lib.hid p2
              have P3 := Lib.hid p3
              clear hf p1 p2 p3
              go_wp2
              go_roundw
              case rel => exact ⟨j + 1, D2, by omega, by go_num, P1.out, P2.out, P3.out⟩
              case measure => simp [intOf]; omega
          | false =>
            have hkv2 : (keptN ks torn kk j : Int) = 0 := by rw [hkv]; rfl
            simp only [hkv2] at hpart
            have Hpart := Lib.hid hpart
            clear hpart hkv hkv2
            go_wp2_with fail
            go_quiet (fail)
            go_wp2_with fail
            go_region_held3 (fun w' => w'.cell? ⟨B1, 1, none⟩ = some (.slice (some ⟨bW, oW, none⟩) r.W.length r.wc) ∧ w'.cell? ⟨bW, oW + j * 2 + 1, none⟩ = some (.slice y.2.A 256 y.2.c) ∧ w'.cell? ⟨g4, y.1, none⟩ = some (.slice s0.A 256 s0.c)) (first | exact HS.out (nq + 1) _ hf.2 | exact HS.out (nq + 1) _ (Mod.refl _ _)) ((go_at_call 38; refine (Hpart.out (nq + 1)).mono ?_; rintro e w5 ⟨A5, c5, rfl, hf⟩))
            all_goals
              obtain ⟨D2, p1, p2, p3⟩ := Hput.out (nq + 1) w5 A5 c5 hf
              obtain ⟨t1, t2⟩ := Hst.out (nq + 1) w5 hf.2
              have P1 := Lib.hid p1
              have P2 := Lib.hid p2
              have P3 := Lib.hid p3
              clear hf p1 p2 p3
              go_wp2
              go_roundw
              case rel => exact ⟨j + 1, D2, by omega, by go_num, P1.out, P2.out, P3.out⟩
              case measure => simp [intOf]; omega
    · obtain rfl : j = r.W.length := by omega
      have HF : Hid (∀ wf, Mod (fun k => k = B1 + 1 + 1) wr wf → ∃ r' : RV, Value.agg #[.slice (some ⟨g4, 0, none⟩) r.D.length c4, .slice none 0 0, .bool false, .bool false, .int .i64 0] = r'.v ∧ r'.At wf M ∧ Alike (d.crash (keptN ks torn kk)) r'.dk ∧ Mod (fun _ => False) w wf) := by
        intro wf hwf
        have hmf : Mod (fun _ => False) w wf := hm0r.trans hwf (fun k hk e => by omega)
        have hof := haft.own.mod hwf (fun k hk e => by simp [blkOf] at hk; omega)
        obtain ⟨g, e, hgb, hc⟩ := hof.rows hpos
        injection e with e; injection e with e; subst e
        have hlen := haft.len
        refine ⟨⟨some ⟨g4, 0, none⟩, c4, D', none, 0, [], false, false, 0⟩, ?_, ⟨fun _ => ⟨g4, 0, rfl, fun q => by have := HMw.out _ q; omega, hc⟩, fun hp => absurd hp (by simp), fun s hs => ?_, by simp, ?_, ?_, Nat.le_refl _⟩, ?_, hmf⟩
        · rw [RV.v_eq]; dsimp only; rw [hlen]; rfl
        · have h1 := haft.secs s hs
          refine ⟨h1.1.mod hwf (fun k hk _ e => ?_), fun k hk q => h1.2 k hk (.inl q)⟩
          obtain ⟨bb, oo, hA, hcc⟩ := h1.1.2.2 (by omega)
          rw [hA] at hk
          have hbb : bb = B1 + 1 + 1 := by simp [blkOf] at hk; omega
          have hc5 := hcc 5 (by omega)
          rw [hbb, cell_of_row _ _ _ _ _ _ hbz] at hc5
          have hno : (zrow31)[oo + 5]? = none := Array.getElem?_eq_none (by simp)
          rw [hno] at hc5
          cases hc5
        · show D'.length ≤ 4096; rw [hlen]; exact hfew
        · show D'.length ≤ c4; rw [hlen]; exact hof.cap
        · refine ⟨?_, rfl, rfl, rfl, fun q => by cases q⟩
          show crashGo (keptN ks torn kk) 0 d.pend d.dur = D'.map Sct.xs
          rw [hcr, List.take_of_length_le (by rw [List.length_map]; omega), Hd.out.pend, Hd.out.dur]
          rfl
      have z0 : wr.cell? ⟨B1 + 1 + 1, 0, none⟩ = some (.slice none 0 0) := by rw [cell_of_row _ _ _ _ _ _ hbz]; rfl
      have z1 : wr.cell? ⟨B1 + 1 + 1, 1, none⟩ = some (.slice none 0 0) := by rw [cell_of_row _ _ _ _ _ _ hbz]; rfl
      have z2 : wr.cell? ⟨B1 + 1 + 1, 2, none⟩ = some (.bool false) := by rw [cell_of_row _ _ _ _ _ _ hbz]; rfl
      have z3 : wr.cell? ⟨B1 + 1 + 1, 3, none⟩ = some (.bool false) := by rw [cell_of_row _ _ _ _ _ _ hbz]; rfl
      have z4 : wr.cell? ⟨B1 + 1 + 1, 4, none⟩ = some (.int .i64 0) := by rw [cell_of_row _ _ _ _ _ _ hbz]; rfl
      have zf := frozen_of_block hbz
      clear hbr hbc hbz haft hm hm0r hcr hg4s hb1
      go_wp2
      refine bodyPost_ret (v := .agg #[.slice (some ⟨g4, 0, none⟩) r.D.length c4, .slice none 0 0, .bool false, .bool false, .int .i64 0]) (by simp [results, Try.results20, go_sem, z0, z1, z2, z3, z4]) rfl ?_
      obtain ⟨r', e, h1, h2, h3⟩ := HF.out _ ((((((Mod.refl (fun k => k = B1 + 1 + 1) wr).one 0 (.slice (some ⟨g4, 0, none⟩) r.D.length c4)).one 1 (.slice none 0 0)).one 2 (.bool false)).one 3 (.bool false)).one 4 (.int .i64 0))
      exact ⟨r', by rw [e], h1, h2, h3⟩
end Go.Proofs.Ytfgngmoeedegiaa
