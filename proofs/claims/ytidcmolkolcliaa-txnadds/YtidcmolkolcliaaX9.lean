/-
  Package txn: Kept; the reference's.
-/
import Derived.Test.YtidcmolkolcliaaXKp
namespace Go.Proofs.Ytidcmolkolcliaa
open Go Go.RowKit

theorem keptL_take_le {page : Int} {t : Tp} (h : smallT t) (j : Nat) : 0 ≤ keptL page (t.L.take j) ∧ keptL page (t.L.take j) ≤ 2080 := by
  refine ⟨keptL_ge _ _, ?_⟩
  have h1 := keptL_le (page := page) (L := t.L.take j) (fun c hc => h.2 c (List.mem_of_mem_take hc))
  have h2 := h.1
  have h3 : (t.L.take j).length ≤ 20 := by simp; omega
  omega
theorem kept_take_le {page : Int} {l : List Tp} (h : ∀ t ∈ l, smallT t) (hl : l.length ≤ 1000) (j : Nat) : 0 ≤ kept page (l.take j) ∧ kept page (l.take j) ≤ 2080000 := by
  refine ⟨kept_ge _ _, ?_⟩
  have h1 := kept_le (page := page) (l := l.take j) (fun c hc => h c (List.mem_of_mem_take hc))
  have h3 : (l.take j).length ≤ 1000 := by simp; omega
  omega
theorem sizV_le {v : Vp} (h : v.2.length ≤ 100) : 0 ≤ sizV v ∧ sizV v ≤ 104 := by unfold sizV; split <;> omega
theorem take_all {α : Type} (l : List α) {n : Nat} (h : l.length = n) : l.take n = l := by rw [← h, List.take_length]
set_option maxRecDepth 100000 in
set_option maxHeartbeats 3200000 in
theorem kept_ok (w : World) (A : Option Addr) (n c : Nat) (l : List TxD) (h : Xs w A n c l) (hn : n ≤ 1000) (hs : ∀ t ∈ l, smallT t.p) (page : Int) :
    Calls Try.prog 25 #[.slice A n c, .int .i64 page] w fun e w' => e = .returned (.int .i64 (kept page (pt l))) ∧ Mod (fun _ => False) w w' := by
  have HX := Lib.hid h
  have Hll := Lib.hid h.len
  have Hsm := Lib.hid hs
  have Hsp : Hid (∀ t ∈ pt l, smallT t) := fun t ht => by
    obtain ⟨x, hx, rfl⟩ := List.mem_map.1 ht
    exact hs x hx
  have Hpl : Hid ((pt l).length ≤ 1000) := by show _ ≤ _; rw [pt_len, h.len]; exact hn
  have hcap := h.cap
  clear h hs
  go_enter Try.func25, Try.ntmps25
  go_wp2
  go_loopw [5, 12] (fun s k wr => ∃ i : Nat, k = .int .i64 i ∧ s = .int .i64 (kept page ((pt l).take i)) ∧ i ≤ n ∧ Mod (fun _ => False) w wr) (fun _ k _ => n - (intOf k).toNat)
  case atStart => exact ⟨0, rfl, rfl, by omega, Mod.refl _ _⟩
  case round =>
    rename World => V0
    obtain ⟨i, rfl, rfl, hi, hm⟩ := hrel
    have HM := Lib.hid hm
    clear hm
    by_cases hlt : i < n
    · obtain ⟨x, hx⟩ : ∃ x, l[i]? = some x := ⟨_, List.getElem?_eq_getElem (by rw [Hll.out]; omega)⟩
      have HXr := Lib.hid (HX.out.keep HM.out)
      have hxa := HXr.out.ats x (List.mem_of_getElem? hx)
      have hsx := Hsm.out x (List.mem_of_getElem? hx)
      obtain ⟨b, o, hA, hcs⟩ := HXr.out.cells (by omega)
      have Hcx := Lib.hid (hcs i x hx)
      obtain ⟨s0, s1, s2, s3, s4, s5⟩ := hcs i x hx
      have Hsu : Hid (kept page ((pt l).take (i + 1)) = kept page ((pt l).take i) + keptL page x.p.L) := kept_succ (pt_at hx)
      have Hk := Lib.hid (kept_take_le (page := page) Hsp.out Hpl.out i)
      have Hxa := Lib.hid hxa
      have Hsx := Lib.hid hsx
      have Hnx : Hid (x.L.length = x.n) := hxa.L.len
      have hn20 : x.n ≤ 20 := by have h1 := hsx.1; rw [hxa.nL] at h1; exact h1
      have hxcap := hxa.L.cap
      have l1 : i ≤ c := by omega
      have HXp : Hid (x.p.L = pc x.L) := rfl
      generalize kept page ((pt l).take i) = K at *
      rw [hA]
      clear hcs hA hxa hsx hx
      obtain ⟨w1, hw1⟩ : ∃ w1, V0.alloc (.cells #[.int .i64 x.id, .int .i64 x.st, .int .i64 x.f, .int .i64 x.l, .slice x.A x.n x.c, .slice x.B x.m x.d] 25) = w1 := ⟨_, rfl⟩
      have HI1 : Hid (x.In w1 V0.heap.size) := by rw [← hw1]; exact TxD.In.new V0 x
      have hm1 : Mod (fun _ => False) V0 w1 := by rw [← hw1]; exact (Mod.refl _ V0).alloc _
      have HM1 := Lib.hid hm1
      clear hm1
      generalize hg1 : V0.heap.size = g1 at *
      obtain ⟨c0, c1, c2, c3, c4, c5⟩ := HI1.out.cells
      go_wp2_with fail
      clear hw1 hg1 s0 s1 s2 s3 s4 s5
      go_loopw [5, 19] (fun s k W => ∃ j : Nat, k = .int .i64 j ∧ s = .int .i64 (K + keptL page ((pc x.L).take j)) ∧ j ≤ x.n ∧ Mod (fun _ => False) V0 W) (fun _ k _ => x.n - (intOf k).toNat)
      case atStart => exact ⟨0, rfl, by simp [keptL], by omega, HM1.out⟩
      case round =>
        obtain ⟨j, rfl, rfl, hj, hmj⟩ := hrel
        have HMj := Lib.hid hmj
        clear hmj
        by_cases hjt : j < x.n
        · obtain ⟨y, hy⟩ : ∃ y, x.L[j]? = some y := ⟨_, List.getElem?_eq_getElem (by rw [Hnx.out]; exact hjt)⟩
          have hxj := Hxa.out.keep HMj.out
          obtain ⟨b2, o2, hA2, hcs2⟩ := hxj.L.cells (by omega)
          have hya := hxj.L.ats y (List.mem_of_getElem? hy)
          obtain ⟨u0, u1, u2, u3, u4, u5, u6⟩ := hcs2 j y hy
          have hsy : smallC y.p := Hsx.out.2 y.p (List.mem_map_of_mem (List.mem_of_getElem? hy))
          have Hsu2 : Hid (keptL page ((pc x.L).take (j + 1)) = keptL page ((pc x.L).take j) + gain page y.p) := keptL_succ (pc_at hy)
          have hk2 : 0 ≤ keptL page ((pc x.L).take j) ∧ keptL page ((pc x.L).take j) ≤ 2080 := keptL_take_le (page := page) Hsx.out j
          have ho := sizV_le hsy.1
          have hv := sizV_le hsy.2
          have lo : y.o.vs.length = y.o.m := hya.o.len
          have lv : y.v.vs.length = y.v.m := hya.v.len
          have mo : y.o.m ≤ 100 := by have : y.o.vs.length ≤ 100 := hsy.1; omega
          have mv : y.v.m ≤ 100 := by have : y.v.vs.length ≤ 100 := hsy.2; omega
          have V1 := Lib.hid (fun V => size_ok V y.o lo (by omega))
          have V2 := Lib.hid (fun V => size_ok V y.v lv (by omega))
          have Hgn : Hid (gain page y.p = if y.page = page then max 0 (sizV y.o.p - sizV y.v.p) else 0) := rfl
          have ho' : 0 ≤ sizV y.o.p ∧ sizV y.o.p ≤ 104 := ho
          have hv' : 0 ≤ sizV y.v.p ∧ sizV y.v.p ≤ 104 := hv
          have hK := Hk.out
          have HBd := Lib.hid (And.intro hK (And.intro hk2 (And.intro ho' hv')))
          generalize keptL page ((pc x.L).take j) = Kj at *
          generalize sizV y.o.p = zo at *
          generalize sizV y.v.p = zv at *
          have ew1 : IntKind.i64.wrap (zo - zv) = zo - zv := by rw [IntKind.wrap_i64]; omega
          have ew2 : IntKind.i64.wrap (K + Kj + max 0 (zo - zv)) = K + Kj + max 0 (zo - zv) := by rw [IntKind.wrap_i64]; omega
          have ew3 : IntKind.i64.wrap (K + Kj + (zo - zv)) = K + Kj + (zo - zv) := by rw [IntKind.wrap_i64]; omega
          have l2 : j < x.c := by omega
          rw [hA2] at c4 ⊢
          clear ho hv ho' hv' hk2 hK mo mv lo lv hsy hya hcs2 hxj hy hA2
          obtain ⟨w2, hw2⟩ : ∃ w2, wr.alloc (.cells #[.int .i64 y.lsn, .int .i64 y.page, .int .i64 y.key, .bool y.o.is, .slice y.o.B y.o.m y.o.d, .bool y.v.is, .slice y.v.B y.v.m y.v.d] 30) = w2 := ⟨_, rfl⟩
          have HI2 : Hid (y.In w2 wr.heap.size) := by rw [← hw2]; exact ChD.In.new wr y
          have hm2 : Mod (fun _ => False) wr w2 := by rw [← hw2]; exact (Mod.refl _ wr).alloc _
          have HM2 := Lib.hid (HMj.out.trans hm2 (fun _ _ h => h))
          clear hm2
          generalize hg : wr.heap.size = g at *
          obtain ⟨d0, d1, d2, d3, d4, d5, d6⟩ := HI2.out.cells
          by_cases hp : y.page = page
          · have hpd : (y.page == page) = true := by simp [hp]
            have Hsu3 : Hid (keptL page ((pc x.L).take (j + 1)) = Kj + max 0 (zo - zv)) := by show _ = _; rw [Hsu2.out, Hgn.out, if_pos hp]
            clear hp
            go_wp2_with fail
            have HD : Hid (Mod (fun _ => False) w2 w2.drew) := (Mod.refl _ w2).drew
            refine wp_region_held (S := (fun W : World => W.cell? ⟨g, 0, none⟩ = some (.int .i64 y.lsn) ∧ W.cell? ⟨g, 1, none⟩ = some (.int .i64 y.page) ∧ W.cell? ⟨g, 2, none⟩ = some (.int .i64 y.key) ∧ W.cell? ⟨g, 3, none⟩ = some (.bool y.o.is) ∧ W.cell? ⟨g, 4, none⟩ = some (.slice y.o.B y.o.m y.o.d) ∧ W.cell? ⟨g, 5, none⟩ = some (.bool y.v.is) ∧ W.cell? ⟨g, 6, none⟩ = some (.slice y.v.B y.v.m y.v.d))) (by kernel_rfl) ?_
            have hI := (show (fun W : World => W.cell? ⟨g, 0, none⟩ = some (.int .i64 y.lsn) ∧ W.cell? ⟨g, 1, none⟩ = some (.int .i64 y.page) ∧ W.cell? ⟨g, 2, none⟩ = some (.int .i64 y.key) ∧ W.cell? ⟨g, 3, none⟩ = some (.bool y.o.is) ∧ W.cell? ⟨g, 4, none⟩ = some (.slice y.o.B y.o.m y.o.d) ∧ W.cell? ⟨g, 5, none⟩ = some (.bool y.v.is) ∧ W.cell? ⟨g, 6, none⟩ = some (.slice y.v.B y.v.m y.v.d)) _ from (HI2.out.keep HD.out).cells)
            refine rg_take (n := 10) (v := ?_) 0 (some 27) rfl rfl (by kernel_rfl) (by kernel_rfl) (by kernel_rfl) (fun _ _ _ h => h) (by rfl) hI ?_ ?_
            rotate_left
            · ((intro w hSw; (try dsimp only at hSw); go_simp); (try with_reducible rfl))
            try simp only [Act.put, List.setIfInBounds_toArray, List.set_cons_zero, List.set_cons_succ]
            refine rg_take (n := 9) (v := ?_) 1 (some 28) rfl rfl (by kernel_rfl) (by kernel_rfl) (by kernel_rfl) (fun _ _ _ h => h) (by rfl) hI ?_ ?_
            rotate_left
            · ((intro w hSw; (try dsimp only at hSw); go_simp); (try with_reducible rfl))
            try simp only [Act.put, List.setIfInBounds_toArray, List.set_cons_zero, List.set_cons_succ]
            refine rg_take (n := 8) (v := ?_) 2 (some 29) rfl rfl (by kernel_rfl) (by kernel_rfl) (by kernel_rfl) (fun _ _ _ h => h) (by rfl) hI ?_ ?_
            rotate_left
            · ((intro w hSw; (try dsimp only at hSw); go_simp); (try with_reducible rfl))
            try simp only [Act.put, List.setIfInBounds_toArray, List.set_cons_zero, List.set_cons_succ]
            refine rg_take (n := 7) (v := ?_) 4 (some 31) rfl rfl (by kernel_rfl) (by kernel_rfl) (by kernel_rfl) (fun _ _ _ h => h) (by rfl) hI ?_ ?_
            rotate_left
            · ((intro w hSw; (try dsimp only at hSw); go_simp); (try with_reducible rfl))
            try simp only [Act.put, List.setIfInBounds_toArray, List.set_cons_zero, List.set_cons_succ]
            refine rg_take (n := 6) (v := ?_) 5 (some 32) rfl rfl (by kernel_rfl) (by kernel_rfl) (by kernel_rfl) (fun _ _ _ h => h) (by rfl) hI ?_ ?_
            rotate_left
            · ((intro w hSw; (try dsimp only at hSw); go_simp); (try with_reducible rfl))
            try simp only [Act.put, List.setIfInBounds_toArray, List.set_cons_zero, List.set_cons_succ]
            refine rg_one (n := 5) 3 rfl (by kernel_rfl) (by rfl) ?_
            go_simp
            go_at_call 27
            refine (V1.out _).mono ?_
            rintro e w3 ⟨rfl, hm⟩
            have H3 := Lib.hid (HD.out.trans hm (fun _ _ h => h))
            clear hm
            clear hI
            have hI := (show (fun W : World => W.cell? ⟨g, 0, none⟩ = some (.int .i64 y.lsn) ∧ W.cell? ⟨g, 1, none⟩ = some (.int .i64 y.page) ∧ W.cell? ⟨g, 2, none⟩ = some (.int .i64 y.key) ∧ W.cell? ⟨g, 3, none⟩ = some (.bool y.o.is) ∧ W.cell? ⟨g, 4, none⟩ = some (.slice y.o.B y.o.m y.o.d) ∧ W.cell? ⟨g, 5, none⟩ = some (.bool y.v.is) ∧ W.cell? ⟨g, 6, none⟩ = some (.slice y.v.B y.v.m y.v.d)) _ from (HI2.out.keep H3.out).cells)
            refine ⟨hI, ?_⟩
            try simp only [Act.put, List.setIfInBounds_toArray, List.set_cons_zero, List.set_cons_succ]
            refine rg_one (n := 4) 6 rfl (by kernel_rfl) (by rfl) ?_
            go_simp
            go_at_call 27
            refine (V2.out _).mono ?_
            rintro e w4 ⟨rfl, hm⟩
            have H4 := Lib.hid (H3.out.trans hm (fun _ _ h => h))
            clear hm
            clear hI
            have hI := (show (fun W : World => W.cell? ⟨g, 0, none⟩ = some (.int .i64 y.lsn) ∧ W.cell? ⟨g, 1, none⟩ = some (.int .i64 y.page) ∧ W.cell? ⟨g, 2, none⟩ = some (.int .i64 y.key) ∧ W.cell? ⟨g, 3, none⟩ = some (.bool y.o.is) ∧ W.cell? ⟨g, 4, none⟩ = some (.slice y.o.B y.o.m y.o.d) ∧ W.cell? ⟨g, 5, none⟩ = some (.bool y.v.is) ∧ W.cell? ⟨g, 6, none⟩ = some (.slice y.v.B y.v.m y.v.d)) _ from (HI2.out.keep H4.out).cells)
            refine ⟨hI, ?_⟩
            try simp only [Act.put, List.setIfInBounds_toArray, List.set_cons_zero, List.set_cons_succ]
            refine rg_take (n := 3) (v := ?_) 7 (some 34) rfl rfl (by kernel_rfl) (by kernel_rfl) (by kernel_rfl) (fun _ _ _ h => h) (by rfl) hI ?_ ?_
            rotate_left
            · ((intro w hSw; (try dsimp only at hSw); go_simp); (try with_reducible rfl))
            try simp only [Act.put, List.setIfInBounds_toArray, List.set_cons_zero, List.set_cons_succ]
            refine rg_take (n := 2) (v := ?_) 8 (some 35) rfl rfl (by kernel_rfl) (by kernel_rfl) (by kernel_rfl) (fun _ _ _ h => h) (by rfl) hI ?_ ?_
            rotate_left
            · ((intro w hSw; (try dsimp only at hSw); go_simp); (try with_reducible rfl))
            try simp only [Act.put, List.setIfInBounds_toArray, List.set_cons_zero, List.set_cons_succ]
            refine rg_take (n := 1) (v := ?_) 9 (some 36) rfl rfl (by kernel_rfl) (by kernel_rfl) (by kernel_rfl) (fun _ _ _ h => h) (by rfl) hI ?_ ?_
            rotate_left
            · ((intro w hSw; (try dsimp only at hSw); go_simp); (try with_reducible rfl))
            try simp only [Act.put, List.setIfInBounds_toArray, List.set_cons_zero, List.set_cons_succ]
            refine rg_take (n := 0) (v := ?_) 10 (some 5) rfl rfl (by kernel_rfl) (by kernel_rfl) (by kernel_rfl) (fun _ _ _ h => h) (by rfl) hI ?_ ?_
            rotate_left
            · ((intro w hSw; (try dsimp only at hSw); go_simp); (try with_reducible rfl))
            try simp only [Act.put, List.setIfInBounds_toArray, List.set_cons_zero, List.set_cons_succ]
            refine wpAnyH_done (by kernel_rfl) ?_ _
            clear hI
            go_wp2
            go_roundw
            case rel => exact ⟨j + 1, by go_num, by rw [Hsu3.out]; obtain ⟨⟨_, _⟩, ⟨_, _⟩, ⟨_, _⟩, ⟨_, _⟩⟩ := HBd.out; congr 1; rw [IntKind.wrap_i64]; split <;> omega, by omega, HM2.out.trans H4.out (fun _ _ h => h)⟩
            case measure => simp [intOf]; omega
          · have hpd : (y.page == page) = false := by simpa using hp
            have Hsu3 : Hid (keptL page ((pc x.L).take (j + 1)) = Kj) := by show _ = _; rw [Hsu2.out, Hgn.out, if_neg hp, Int.add_zero]
            clear hp
            go_wp2
            go_roundw
            case rel => exact ⟨j + 1, by go_num, by rw [Hsu3.out], by omega, HM2.out⟩
            case measure => simp [intOf]; omega
        · obtain rfl : j = x.n := by omega
          have Hfin : Hid (keptL page ((pc x.L).take x.n) = keptL page x.p.L) := by show _ = _; rw [HXp.out, take_all _ ((pc_len _).trans Hnx.out)]
          go_wp2
          go_roundw
          case rel => exact ⟨i + 1, by go_num, by rw [Hsu.out, Hfin.out], by omega, HM.out.trans HMj.out (fun _ _ h => h)⟩
          case measure => simp [intOf]; omega
    · obtain rfl : i = n := by omega
      have Hfin : Hid (kept page ((pt l).take i) = kept page (pt l)) := by show _ = _; rw [take_all _ ((pt_len _).trans Hll.out)]
      go_wp2
      go_ret
      exact ⟨by rw [Hfin.out]; rfl, HM.out⟩
set_option maxRecDepth 100000 in
set_option maxHeartbeats 3200000 in
theorem rkept_ok (w : World) (A : Option Addr) (n c : Nat) (l : List TxD) (h : Xs w A n c l) (hn : n ≤ 1000) (hs : ∀ t ∈ l, smallT t.p) (page : Int) :
    Calls Try.prog 26 #[.slice A n c, .int .i64 page] w fun e w' => e = .returned (.int .i64 (kept page (pt l))) ∧ Mod (fun _ => False) w w' := by
  have HX := Lib.hid h
  have Hll := Lib.hid h.len
  have Hsm := Lib.hid hs
  have Hsp : Hid (∀ t ∈ pt l, smallT t) := fun t ht => by
    obtain ⟨x, hx, rfl⟩ := List.mem_map.1 ht
    exact hs x hx
  have Hpl : Hid ((pt l).length ≤ 1000) := by show _ ≤ _; rw [pt_len, h.len]; exact hn
  have hcap := h.cap
  clear h hs
  go_enter Try.func26, Try.ntmps26
  go_wp2
  go_loopw [5, 6] (fun s k wr => ∃ i : Nat, k = .int .i64 i ∧ s = .int .i64 (kept page ((pt l).take i)) ∧ i ≤ n ∧ Mod (fun _ => False) w wr) (fun _ k _ => n - (intOf k).toNat)
  case atStart => exact ⟨0, rfl, rfl, by omega, Mod.refl _ _⟩
  case round =>
    rename World => V0
    obtain ⟨i, rfl, rfl, hi, hm⟩ := hrel
    have HM := Lib.hid hm
    clear hm
    by_cases hlt : i < n
    · obtain ⟨x, hx⟩ : ∃ x, l[i]? = some x := ⟨_, List.getElem?_eq_getElem (by rw [Hll.out]; omega)⟩
      have HXr := Lib.hid (HX.out.keep HM.out)
      have hxa := HXr.out.ats x (List.mem_of_getElem? hx)
      have hsx := Hsm.out x (List.mem_of_getElem? hx)
      obtain ⟨b, o, hA, hcs⟩ := HXr.out.cells (by omega)
      have Hcx := Lib.hid (hcs i x hx)
      obtain ⟨s0, s1, s2, s3, s4, s5⟩ := hcs i x hx
      have Hsu : Hid (kept page ((pt l).take (i + 1)) = kept page ((pt l).take i) + keptL page x.p.L) := kept_succ (pt_at hx)
      have Hk := Lib.hid (kept_take_le (page := page) Hsp.out Hpl.out i)
      have Hxa := Lib.hid hxa
      have Hsx := Lib.hid hsx
      have Hnx : Hid (x.L.length = x.n) := hxa.L.len
      have hn20 : x.n ≤ 20 := by have h1 := hsx.1; rw [hxa.nL] at h1; exact h1
      have hxcap := hxa.L.cap
      have l1 : i ≤ c := by omega
      have HXp : Hid (x.p.L = pc x.L) := rfl
      generalize kept page ((pt l).take i) = K at *
      rw [hA]
      clear hcs hA hxa hsx hx
      go_wp2_with fail
      go_loopw [5, 7] (fun s k W => ∃ j : Nat, k = .int .i64 j ∧ s = .int .i64 (K + keptL page ((pc x.L).take j)) ∧ j ≤ x.n ∧ Mod (fun _ => False) V0 W) (fun _ k _ => x.n - (intOf k).toNat)
      case atStart => exact ⟨0, rfl, by simp [keptL], by omega, Mod.refl _ _⟩
      case round =>
        obtain ⟨j, rfl, rfl, hj, hmj⟩ := hrel
        have HMj := Lib.hid hmj
        clear hmj
        have Hc4 : Hid (∀ V, Mod (fun _ => False) V0 V → V.cell? ⟨b, o + i * 6 + 4, none⟩ = some (.slice x.A x.n x.c)) := fun V hV => (Hcx.out.keep (hV.block b Hcx.out.lt (fun h => h))).c4
        have t4 := Hc4.out _ HMj.out
        by_cases hjt : j < x.n
        · obtain ⟨y, hy⟩ : ∃ y, x.L[j]? = some y := ⟨_, List.getElem?_eq_getElem (by rw [Hnx.out]; exact hjt)⟩
          have hxj := Hxa.out.keep HMj.out
          obtain ⟨b2, o2, hA2, hcs2⟩ := hxj.L.cells (by omega)
          have hya := hxj.L.ats y (List.mem_of_getElem? hy)
          obtain ⟨u0, u1, u2, u3, u4, u5, u6⟩ := hcs2 j y hy
          have hsy : smallC y.p := Hsx.out.2 y.p (List.mem_map_of_mem (List.mem_of_getElem? hy))
          have Hsu2 : Hid (keptL page ((pc x.L).take (j + 1)) = keptL page ((pc x.L).take j) + gain page y.p) := keptL_succ (pc_at hy)
          have hk2 : 0 ≤ keptL page ((pc x.L).take j) ∧ keptL page ((pc x.L).take j) ≤ 2080 := keptL_take_le (page := page) Hsx.out j
          have ho := sizV_le hsy.1
          have hv := sizV_le hsy.2
          have lo : y.o.vs.length = y.o.m := hya.o.len
          have lv : y.v.vs.length = y.v.m := hya.v.len
          have mo : y.o.m ≤ 100 := by have : y.o.vs.length ≤ 100 := hsy.1; omega
          have mv : y.v.m ≤ 100 := by have : y.v.vs.length ≤ 100 := hsy.2; omega
          have V1 := Lib.hid (fun V => rsize_ok V y.o lo (by omega))
          have V2 := Lib.hid (fun V => rsize_ok V y.v lv (by omega))
          have Hgn : Hid (gain page y.p = if y.page = page then max 0 (sizV y.o.p - sizV y.v.p) else 0) := rfl
          have ho' : 0 ≤ sizV y.o.p ∧ sizV y.o.p ≤ 104 := ho
          have hv' : 0 ≤ sizV y.v.p ∧ sizV y.v.p ≤ 104 := hv
          have hK := Hk.out
          have HBd := Lib.hid (And.intro hK (And.intro hk2 (And.intro ho' hv')))
          generalize keptL page ((pc x.L).take j) = Kj at *
          generalize sizV y.o.p = zo at *
          generalize sizV y.v.p = zv at *
          have ew1 : IntKind.i64.wrap (zo - zv) = zo - zv := by rw [IntKind.wrap_i64]; omega
          have ew2 : IntKind.i64.wrap (K + Kj + max 0 (zo - zv)) = K + Kj + max 0 (zo - zv) := by rw [IntKind.wrap_i64]; omega
          have ew3 : IntKind.i64.wrap (K + Kj + (zo - zv)) = K + Kj + (zo - zv) := by rw [IntKind.wrap_i64]; omega
          have l2 : j < x.c := by omega
          rw [hA2] at t4
          clear ho hv ho' hv' hk2 hK mo mv lo lv hsy hya hcs2 hxj hy hA2
          obtain ⟨w2, hw2⟩ : ∃ w2, wr.alloc (.cells #[.int .i64 y.lsn, .int .i64 y.page, .int .i64 y.key, .bool y.o.is, .slice y.o.B y.o.m y.o.d, .bool y.v.is, .slice y.v.B y.v.m y.v.d] 30) = w2 := ⟨_, rfl⟩
          have HI2 : Hid (y.In w2 wr.heap.size) := by rw [← hw2]; exact ChD.In.new wr y
          have hm2 : Mod (fun _ => False) wr w2 := by rw [← hw2]; exact (Mod.refl _ wr).alloc _
          have HM2 := Lib.hid (HMj.out.trans hm2 (fun _ _ h => h))
          clear hm2
          generalize hg : wr.heap.size = g at *
          obtain ⟨d0, d1, d2, d3, d4, d5, d6⟩ := HI2.out.cells
          by_cases hp : y.page = page
          · have hpd : (y.page == page) = true := by simp [hp]
            by_cases hz : 0 < zo - zv
            · have hzd : decide (zv < zo) = true := decide_eq_true (by omega)
              have hz2 : zv < zo := by omega
              have Hsu3 : Hid (keptL page ((pc x.L).take (j + 1)) = Kj + (zo - zv)) := by show _ = _; rw [Hsu2.out, Hgn.out, if_pos hp]; omega
              clear hp hz
              go_wp2_with fail
              have HD : Hid (Mod (fun _ => False) w2 w2.drew) := (Mod.refl _ w2).drew
              refine wp_region_held (S := (fun W : World => W.cell? ⟨g, 0, none⟩ = some (.int .i64 y.lsn) ∧ W.cell? ⟨g, 1, none⟩ = some (.int .i64 y.page) ∧ W.cell? ⟨g, 2, none⟩ = some (.int .i64 y.key) ∧ W.cell? ⟨g, 3, none⟩ = some (.bool y.o.is) ∧ W.cell? ⟨g, 4, none⟩ = some (.slice y.o.B y.o.m y.o.d) ∧ W.cell? ⟨g, 5, none⟩ = some (.bool y.v.is) ∧ W.cell? ⟨g, 6, none⟩ = some (.slice y.v.B y.v.m y.v.d))) (by kernel_rfl) ?_
              have hI := (show (fun W : World => W.cell? ⟨g, 0, none⟩ = some (.int .i64 y.lsn) ∧ W.cell? ⟨g, 1, none⟩ = some (.int .i64 y.page) ∧ W.cell? ⟨g, 2, none⟩ = some (.int .i64 y.key) ∧ W.cell? ⟨g, 3, none⟩ = some (.bool y.o.is) ∧ W.cell? ⟨g, 4, none⟩ = some (.slice y.o.B y.o.m y.o.d) ∧ W.cell? ⟨g, 5, none⟩ = some (.bool y.v.is) ∧ W.cell? ⟨g, 6, none⟩ = some (.slice y.v.B y.v.m y.v.d)) _ from (HI2.out.keep HD.out).cells)
              refine rg_take (n := 7) (v := ?_) 0 (some 34) rfl rfl (by kernel_rfl) (by kernel_rfl) (by kernel_rfl) (fun _ _ _ h => h) (by rfl) hI ?_ ?_
              rotate_left
              · ((intro w hSw; (try dsimp only at hSw); go_simp); (try with_reducible rfl))
              try simp only [Act.put, List.setIfInBounds_toArray, List.set_cons_zero, List.set_cons_succ]
              refine rg_take (n := 6) (v := ?_) 1 (some 35) rfl rfl (by kernel_rfl) (by kernel_rfl) (by kernel_rfl) (fun _ _ _ h => h) (by rfl) hI ?_ ?_
              rotate_left
              · ((intro w hSw; (try dsimp only at hSw); go_simp); (try with_reducible rfl))
              try simp only [Act.put, List.setIfInBounds_toArray, List.set_cons_zero, List.set_cons_succ]
              refine rg_take (n := 5) (v := ?_) 3 (some 37) rfl rfl (by kernel_rfl) (by kernel_rfl) (by kernel_rfl) (fun _ _ _ h => h) (by rfl) hI ?_ ?_
              rotate_left
              · ((intro w hSw; (try dsimp only at hSw); go_simp); (try with_reducible rfl))
              try simp only [Act.put, List.setIfInBounds_toArray, List.set_cons_zero, List.set_cons_succ]
              refine rg_take (n := 4) (v := ?_) 4 (some 38) rfl rfl (by kernel_rfl) (by kernel_rfl) (by kernel_rfl) (fun _ _ _ h => h) (by rfl) hI ?_ ?_
              rotate_left
              · ((intro w hSw; (try dsimp only at hSw); go_simp); (try with_reducible rfl))
              try simp only [Act.put, List.setIfInBounds_toArray, List.set_cons_zero, List.set_cons_succ]
              refine rg_one (n := 3) 2 rfl (by kernel_rfl) (by rfl) ?_
              go_simp
              go_at_call 28
              refine (V1.out _).mono ?_
              rintro e w3 ⟨rfl, hm⟩
              have H3 := Lib.hid (HD.out.trans hm (fun _ _ h => h))
              clear hm
              clear hI
              have hI := (show (fun W : World => W.cell? ⟨g, 0, none⟩ = some (.int .i64 y.lsn) ∧ W.cell? ⟨g, 1, none⟩ = some (.int .i64 y.page) ∧ W.cell? ⟨g, 2, none⟩ = some (.int .i64 y.key) ∧ W.cell? ⟨g, 3, none⟩ = some (.bool y.o.is) ∧ W.cell? ⟨g, 4, none⟩ = some (.slice y.o.B y.o.m y.o.d) ∧ W.cell? ⟨g, 5, none⟩ = some (.bool y.v.is) ∧ W.cell? ⟨g, 6, none⟩ = some (.slice y.v.B y.v.m y.v.d)) _ from (HI2.out.keep H3.out).cells)
              refine ⟨hI, ?_⟩
              try simp only [Act.put, List.setIfInBounds_toArray, List.set_cons_zero, List.set_cons_succ]
              refine rg_one (n := 2) 5 rfl (by kernel_rfl) (by rfl) ?_
              go_simp
              go_at_call 28
              refine (V2.out _).mono ?_
              rintro e w4 ⟨rfl, hm⟩
              have H4 := Lib.hid (H3.out.trans hm (fun _ _ h => h))
              clear hm
              clear hI
              have hI := (show (fun W : World => W.cell? ⟨g, 0, none⟩ = some (.int .i64 y.lsn) ∧ W.cell? ⟨g, 1, none⟩ = some (.int .i64 y.page) ∧ W.cell? ⟨g, 2, none⟩ = some (.int .i64 y.key) ∧ W.cell? ⟨g, 3, none⟩ = some (.bool y.o.is) ∧ W.cell? ⟨g, 4, none⟩ = some (.slice y.o.B y.o.m y.o.d) ∧ W.cell? ⟨g, 5, none⟩ = some (.bool y.v.is) ∧ W.cell? ⟨g, 6, none⟩ = some (.slice y.v.B y.v.m y.v.d)) _ from (HI2.out.keep H4.out).cells)
              refine ⟨hI, ?_⟩
              try simp only [Act.put, List.setIfInBounds_toArray, List.set_cons_zero, List.set_cons_succ]
              refine rg_take (n := 1) (v := ?_) 6 (some 40) rfl rfl (by kernel_rfl) (by kernel_rfl) (by kernel_rfl) (fun _ _ _ h => h) (by rfl) hI ?_ ?_
              rotate_left
              · ((intro w hSw; (try dsimp only at hSw); go_simp); (try with_reducible rfl))
              try simp only [Act.put, List.setIfInBounds_toArray, List.set_cons_zero, List.set_cons_succ]
              refine rg_take (n := 0) (v := ?_) 7 (some 9) rfl rfl (by kernel_rfl) (by kernel_rfl) (by kernel_rfl) (fun _ _ _ h => h) (by rfl) hI ?_ ?_
              rotate_left
              · ((intro w hSw; (try dsimp only at hSw); go_simp); (try with_reducible rfl))
              try simp only [Act.put, List.setIfInBounds_toArray, List.set_cons_zero, List.set_cons_succ]
              refine wpAnyH_done (by kernel_rfl) ?_ _
              clear hI
              have t4' := Hc4.out _ (HM2.out.trans H4.out (fun _ _ h => h))
              obtain ⟨d0, d1, d2, d3, d4, d5, d6⟩ := (HI2.out.keep H4.out).cells
              go_wp2
              go_roundw
              case rel => exact ⟨j + 1, by go_num, by rw [Hsu3.out, Int.add_assoc], by omega, HM2.out.trans H4.out (fun _ _ h => h)⟩
              case measure => simp [intOf]; omega
            · have hzd : decide (zv < zo) = false := decide_eq_false (by omega)
              have hz2 : ¬ zv < zo := by omega
              have Hsu3 : Hid (keptL page ((pc x.L).take (j + 1)) = Kj) := by show _ = _; rw [Hsu2.out, Hgn.out, if_pos hp]; omega
              clear hp hz
              go_wp2_with fail
              have HD : Hid (Mod (fun _ => False) w2 w2.drew) := (Mod.refl _ w2).drew
              refine wp_region_held (S := (fun W : World => W.cell? ⟨g, 0, none⟩ = some (.int .i64 y.lsn) ∧ W.cell? ⟨g, 1, none⟩ = some (.int .i64 y.page) ∧ W.cell? ⟨g, 2, none⟩ = some (.int .i64 y.key) ∧ W.cell? ⟨g, 3, none⟩ = some (.bool y.o.is) ∧ W.cell? ⟨g, 4, none⟩ = some (.slice y.o.B y.o.m y.o.d) ∧ W.cell? ⟨g, 5, none⟩ = some (.bool y.v.is) ∧ W.cell? ⟨g, 6, none⟩ = some (.slice y.v.B y.v.m y.v.d))) (by kernel_rfl) ?_
              have hI := (show (fun W : World => W.cell? ⟨g, 0, none⟩ = some (.int .i64 y.lsn) ∧ W.cell? ⟨g, 1, none⟩ = some (.int .i64 y.page) ∧ W.cell? ⟨g, 2, none⟩ = some (.int .i64 y.key) ∧ W.cell? ⟨g, 3, none⟩ = some (.bool y.o.is) ∧ W.cell? ⟨g, 4, none⟩ = some (.slice y.o.B y.o.m y.o.d) ∧ W.cell? ⟨g, 5, none⟩ = some (.bool y.v.is) ∧ W.cell? ⟨g, 6, none⟩ = some (.slice y.v.B y.v.m y.v.d)) _ from (HI2.out.keep HD.out).cells)
              refine rg_take (n := 7) (v := ?_) 0 (some 34) rfl rfl (by kernel_rfl) (by kernel_rfl) (by kernel_rfl) (fun _ _ _ h => h) (by rfl) hI ?_ ?_
              rotate_left
              · ((intro w hSw; (try dsimp only at hSw); go_simp); (try with_reducible rfl))
              try simp only [Act.put, List.setIfInBounds_toArray, List.set_cons_zero, List.set_cons_succ]
              refine rg_take (n := 6) (v := ?_) 1 (some 35) rfl rfl (by kernel_rfl) (by kernel_rfl) (by kernel_rfl) (fun _ _ _ h => h) (by rfl) hI ?_ ?_
              rotate_left
              · ((intro w hSw; (try dsimp only at hSw); go_simp); (try with_reducible rfl))
              try simp only [Act.put, List.setIfInBounds_toArray, List.set_cons_zero, List.set_cons_succ]
              refine rg_take (n := 5) (v := ?_) 3 (some 37) rfl rfl (by kernel_rfl) (by kernel_rfl) (by kernel_rfl) (fun _ _ _ h => h) (by rfl) hI ?_ ?_
              rotate_left
              · ((intro w hSw; (try dsimp only at hSw); go_simp); (try with_reducible rfl))
              try simp only [Act.put, List.setIfInBounds_toArray, List.set_cons_zero, List.set_cons_succ]
              refine rg_take (n := 4) (v := ?_) 4 (some 38) rfl rfl (by kernel_rfl) (by kernel_rfl) (by kernel_rfl) (fun _ _ _ h => h) (by rfl) hI ?_ ?_
              rotate_left
              · ((intro w hSw; (try dsimp only at hSw); go_simp); (try with_reducible rfl))
              try simp only [Act.put, List.setIfInBounds_toArray, List.set_cons_zero, List.set_cons_succ]
              refine rg_one (n := 3) 2 rfl (by kernel_rfl) (by rfl) ?_
              go_simp
              go_at_call 28
              refine (V1.out _).mono ?_
              rintro e w3 ⟨rfl, hm⟩
              have H3 := Lib.hid (HD.out.trans hm (fun _ _ h => h))
              clear hm
              clear hI
              have hI := (show (fun W : World => W.cell? ⟨g, 0, none⟩ = some (.int .i64 y.lsn) ∧ W.cell? ⟨g, 1, none⟩ = some (.int .i64 y.page) ∧ W.cell? ⟨g, 2, none⟩ = some (.int .i64 y.key) ∧ W.cell? ⟨g, 3, none⟩ = some (.bool y.o.is) ∧ W.cell? ⟨g, 4, none⟩ = some (.slice y.o.B y.o.m y.o.d) ∧ W.cell? ⟨g, 5, none⟩ = some (.bool y.v.is) ∧ W.cell? ⟨g, 6, none⟩ = some (.slice y.v.B y.v.m y.v.d)) _ from (HI2.out.keep H3.out).cells)
              refine ⟨hI, ?_⟩
              try simp only [Act.put, List.setIfInBounds_toArray, List.set_cons_zero, List.set_cons_succ]
              refine rg_one (n := 2) 5 rfl (by kernel_rfl) (by rfl) ?_
              go_simp
              go_at_call 28
              refine (V2.out _).mono ?_
              rintro e w4 ⟨rfl, hm⟩
              have H4 := Lib.hid (H3.out.trans hm (fun _ _ h => h))
              clear hm
              clear hI
              have hI := (show (fun W : World => W.cell? ⟨g, 0, none⟩ = some (.int .i64 y.lsn) ∧ W.cell? ⟨g, 1, none⟩ = some (.int .i64 y.page) ∧ W.cell? ⟨g, 2, none⟩ = some (.int .i64 y.key) ∧ W.cell? ⟨g, 3, none⟩ = some (.bool y.o.is) ∧ W.cell? ⟨g, 4, none⟩ = some (.slice y.o.B y.o.m y.o.d) ∧ W.cell? ⟨g, 5, none⟩ = some (.bool y.v.is) ∧ W.cell? ⟨g, 6, none⟩ = some (.slice y.v.B y.v.m y.v.d)) _ from (HI2.out.keep H4.out).cells)
              refine ⟨hI, ?_⟩
              try simp only [Act.put, List.setIfInBounds_toArray, List.set_cons_zero, List.set_cons_succ]
              refine rg_take (n := 1) (v := ?_) 6 (some 40) rfl rfl (by kernel_rfl) (by kernel_rfl) (by kernel_rfl) (fun _ _ _ h => h) (by rfl) hI ?_ ?_
              rotate_left
              · ((intro w hSw; (try dsimp only at hSw); go_simp); (try with_reducible rfl))
              try simp only [Act.put, List.setIfInBounds_toArray, List.set_cons_zero, List.set_cons_succ]
              refine rg_take (n := 0) (v := ?_) 7 (some 9) rfl rfl (by kernel_rfl) (by kernel_rfl) (by kernel_rfl) (fun _ _ _ h => h) (by rfl) hI ?_ ?_
              rotate_left
              · ((intro w hSw; (try dsimp only at hSw); go_simp); (try with_reducible rfl))
              try simp only [Act.put, List.setIfInBounds_toArray, List.set_cons_zero, List.set_cons_succ]
              refine wpAnyH_done (by kernel_rfl) ?_ _
              clear hI
              have t4' := Hc4.out _ (HM2.out.trans H4.out (fun _ _ h => h))
              obtain ⟨d0, d1, d2, d3, d4, d5, d6⟩ := (HI2.out.keep H4.out).cells
              go_wp2
              go_roundw
              case rel => exact ⟨j + 1, by go_num, by rw [Hsu3.out], by omega, HM2.out.trans H4.out (fun _ _ h => h)⟩
              case measure => simp [intOf]; omega
          · have hpd : (y.page == page) = false := by simpa using hp
            have Hsu3 : Hid (keptL page ((pc x.L).take (j + 1)) = Kj) := by show _ = _; rw [Hsu2.out, Hgn.out, if_neg hp, Int.add_zero]
            clear hp
            go_wp2_with fail
            have HD : Hid (Mod (fun _ => False) w2 w2.drew) := (Mod.refl _ w2).drew
            refine wp_region_held (S := (fun W : World => W.cell? ⟨g, 0, none⟩ = some (.int .i64 y.lsn) ∧ W.cell? ⟨g, 1, none⟩ = some (.int .i64 y.page) ∧ W.cell? ⟨g, 2, none⟩ = some (.int .i64 y.key) ∧ W.cell? ⟨g, 3, none⟩ = some (.bool y.o.is) ∧ W.cell? ⟨g, 4, none⟩ = some (.slice y.o.B y.o.m y.o.d) ∧ W.cell? ⟨g, 5, none⟩ = some (.bool y.v.is) ∧ W.cell? ⟨g, 6, none⟩ = some (.slice y.v.B y.v.m y.v.d))) (by kernel_rfl) ?_
            have hI := (show (fun W : World => W.cell? ⟨g, 0, none⟩ = some (.int .i64 y.lsn) ∧ W.cell? ⟨g, 1, none⟩ = some (.int .i64 y.page) ∧ W.cell? ⟨g, 2, none⟩ = some (.int .i64 y.key) ∧ W.cell? ⟨g, 3, none⟩ = some (.bool y.o.is) ∧ W.cell? ⟨g, 4, none⟩ = some (.slice y.o.B y.o.m y.o.d) ∧ W.cell? ⟨g, 5, none⟩ = some (.bool y.v.is) ∧ W.cell? ⟨g, 6, none⟩ = some (.slice y.v.B y.v.m y.v.d)) _ from (HI2.out.keep HD.out).cells)
            refine rg_take (n := 7) (v := ?_) 0 (some 34) rfl rfl (by kernel_rfl) (by kernel_rfl) (by kernel_rfl) (fun _ _ _ h => h) (by rfl) hI ?_ ?_
            rotate_left
            · ((intro w hSw; (try dsimp only at hSw); go_simp); (try with_reducible rfl))
            try simp only [Act.put, List.setIfInBounds_toArray, List.set_cons_zero, List.set_cons_succ]
            refine rg_take (n := 6) (v := ?_) 1 (some 35) rfl rfl (by kernel_rfl) (by kernel_rfl) (by kernel_rfl) (fun _ _ _ h => h) (by rfl) hI ?_ ?_
            rotate_left
            · ((intro w hSw; (try dsimp only at hSw); go_simp); (try with_reducible rfl))
            try simp only [Act.put, List.setIfInBounds_toArray, List.set_cons_zero, List.set_cons_succ]
            refine rg_take (n := 5) (v := ?_) 3 (some 37) rfl rfl (by kernel_rfl) (by kernel_rfl) (by kernel_rfl) (fun _ _ _ h => h) (by rfl) hI ?_ ?_
            rotate_left
            · ((intro w hSw; (try dsimp only at hSw); go_simp); (try with_reducible rfl))
            try simp only [Act.put, List.setIfInBounds_toArray, List.set_cons_zero, List.set_cons_succ]
            refine rg_take (n := 4) (v := ?_) 4 (some 38) rfl rfl (by kernel_rfl) (by kernel_rfl) (by kernel_rfl) (fun _ _ _ h => h) (by rfl) hI ?_ ?_
            rotate_left
            · ((intro w hSw; (try dsimp only at hSw); go_simp); (try with_reducible rfl))
            try simp only [Act.put, List.setIfInBounds_toArray, List.set_cons_zero, List.set_cons_succ]
            refine rg_one (n := 3) 2 rfl (by kernel_rfl) (by rfl) ?_
            go_simp
            go_at_call 28
            refine (V1.out _).mono ?_
            rintro e w3 ⟨rfl, hm⟩
            have H3 := Lib.hid (HD.out.trans hm (fun _ _ h => h))
            clear hm
            clear hI
            have hI := (show (fun W : World => W.cell? ⟨g, 0, none⟩ = some (.int .i64 y.lsn) ∧ W.cell? ⟨g, 1, none⟩ = some (.int .i64 y.page) ∧ W.cell? ⟨g, 2, none⟩ = some (.int .i64 y.key) ∧ W.cell? ⟨g, 3, none⟩ = some (.bool y.o.is) ∧ W.cell? ⟨g, 4, none⟩ = some (.slice y.o.B y.o.m y.o.d) ∧ W.cell? ⟨g, 5, none⟩ = some (.bool y.v.is) ∧ W.cell? ⟨g, 6, none⟩ = some (.slice y.v.B y.v.m y.v.d)) _ from (HI2.out.keep H3.out).cells)
            refine ⟨hI, ?_⟩
            try simp only [Act.put, List.setIfInBounds_toArray, List.set_cons_zero, List.set_cons_succ]
            refine rg_one (n := 2) 5 rfl (by kernel_rfl) (by rfl) ?_
            go_simp
            go_at_call 28
            refine (V2.out _).mono ?_
            rintro e w4 ⟨rfl, hm⟩
            have H4 := Lib.hid (H3.out.trans hm (fun _ _ h => h))
            clear hm
            clear hI
            have hI := (show (fun W : World => W.cell? ⟨g, 0, none⟩ = some (.int .i64 y.lsn) ∧ W.cell? ⟨g, 1, none⟩ = some (.int .i64 y.page) ∧ W.cell? ⟨g, 2, none⟩ = some (.int .i64 y.key) ∧ W.cell? ⟨g, 3, none⟩ = some (.bool y.o.is) ∧ W.cell? ⟨g, 4, none⟩ = some (.slice y.o.B y.o.m y.o.d) ∧ W.cell? ⟨g, 5, none⟩ = some (.bool y.v.is) ∧ W.cell? ⟨g, 6, none⟩ = some (.slice y.v.B y.v.m y.v.d)) _ from (HI2.out.keep H4.out).cells)
            refine ⟨hI, ?_⟩
            try simp only [Act.put, List.setIfInBounds_toArray, List.set_cons_zero, List.set_cons_succ]
            refine rg_take (n := 1) (v := ?_) 6 (some 40) rfl rfl (by kernel_rfl) (by kernel_rfl) (by kernel_rfl) (fun _ _ _ h => h) (by rfl) hI ?_ ?_
            rotate_left
            · ((intro w hSw; (try dsimp only at hSw); go_simp); (try with_reducible rfl))
            try simp only [Act.put, List.setIfInBounds_toArray, List.set_cons_zero, List.set_cons_succ]
            refine rg_take (n := 0) (v := ?_) 7 (some 9) rfl rfl (by kernel_rfl) (by kernel_rfl) (by kernel_rfl) (fun _ _ _ h => h) (by rfl) hI ?_ ?_
            rotate_left
            · ((intro w hSw; (try dsimp only at hSw); go_simp); (try with_reducible rfl))
            try simp only [Act.put, List.setIfInBounds_toArray, List.set_cons_zero, List.set_cons_succ]
            refine wpAnyH_done (by kernel_rfl) ?_ _
            clear hI
            have t4' := Hc4.out _ (HM2.out.trans H4.out (fun _ _ h => h))
            obtain ⟨d0, d1, d2, d3, d4, d5, d6⟩ := (HI2.out.keep H4.out).cells
            go_wp2
            go_roundw
            case rel => exact ⟨j + 1, by go_num, by rw [Hsu3.out], by omega, HM2.out.trans H4.out (fun _ _ h => h)⟩
            case measure => simp [intOf]; omega
        · obtain rfl : j = x.n := by omega
          have Hfin : Hid (keptL page ((pc x.L).take x.n) = keptL page x.p.L) := by show _ = _; rw [HXp.out, take_all _ ((pc_len _).trans Hnx.out)]
          go_wp2
          go_roundw
          case rel => exact ⟨i + 1, by go_num, by rw [Hsu.out, Hfin.out], by omega, HM.out.trans HMj.out (fun _ _ h => h)⟩
          case measure => simp [intOf]; omega
    · obtain rfl : i = n := by omega
      have Hfin : Hid (kept page ((pt l).take i) = kept page (pt l)) := by show _ = _; rw [take_all _ ((pt_len _).trans Hll.out)]
      go_wp2
      go_ret
      exact ⟨by rw [Hfin.out]; rfl, HM.out⟩
end Go.Proofs.Ytidcmolkolcliaa
