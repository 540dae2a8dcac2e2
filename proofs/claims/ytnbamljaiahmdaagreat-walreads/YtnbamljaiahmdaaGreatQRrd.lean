/-
  The document's Read: its walk.
-/
import Derived.Test.YtnbamljaiahmdaaGreatQRrdC
namespace Go.Proofs.YtnbamljaiahmdaaGreat
open Go Go.RowKit Go.Shelf

/-- What a ring has at a log sector's place. -/
def ringAt (X : List By) (n : Nat) (q : Int) : List UInt8 := (X.map By.xs).getD (q % n).toNat []
structure RReA (w : World) (from_ : Int) (bs : List Bm) (e : Ending) (w' : World) : Prop where
  ex : ∃ A c L, e = .returned (.tuple #[.slice A L.length c, .int .i64 (from_ + bs.length), .int .i64 (lastE bs)]) ∧ OwN w' w.heap.size 71 15 A L.length c (lgC L) ∧ (∀ y ∈ L, y.r.o.Own w' w.heap.size ∧ y.r.v.Own w' w.heap.size) ∧ L.map LgD.p = outM bs
  old : Mod (fun _ => False) w w'

theorem openErr_no {n : Nat} {s : List UInt8} (h : openErr n s ≠ 0) : openBytes n s = [] := by
  unfold openBytes
  by_cases hb : openB n s = true
  · exfalso
    apply h
    unfold openErr
    have : n = 256 := by simp only [openB, Bool.and_eq_true, decide_eq_true_eq] at hb; exact hb.1
    rw [if_pos this, if_pos hb]
  · rw [if_neg hb]
theorem bats_stop_of {R : Int → List UInt8} {k : Nat} {q : Int} {b : Bm} {l bs : List Bm} (h : bs = l ++ batsM R k q b) (ha : accM R q b = none) : bs = l := by
  rw [h, batsM_end R ha, List.append_nil]

set_option maxRecDepth 100000 in
set_option maxHeartbeats 8000000 in
theorem rread_ok (w : World) (base : Nat) (A : Option Addr) (n c : Nat) (X : List By) (hR : Rg w base A n c X) (hn1 : 1 ≤ n) (hn : n ≤ 4096) (from_ : Int) (h0 : 0 ≤ from_) (h1 : from_ ≤ 16777215) :
    Calls Tryz.prog 9 #[.slice A n c, .int .i64 from_] w (RReA w from_ (batsM (ringAt X n) n from_ .zero)) := by
  obtain ⟨bs, hbs⟩ : ∃ bs, batsM (ringAt X n) n from_ .zero = bs := ⟨_, rfl⟩
  have Hbs := Lib.hid hbs
  have HR := Lib.hid hR
  rw [hbs]
  clear hbs hR
  go_enter Tryz.func9, Tryz.ntmps9
  go_wp2_with fail
  go_loopw [7, 8, 9, 10] (fun out ep fi sq wr => ∃ (i cc : Nat) (B : Option Addr) (L : List LgD) (b : Bm) (l : List Bm), i ≤ n ∧ sq = .int .i64 (from_ + i) ∧ ep = .int .i64 b.e ∧ fi = .int .i64 b.f ∧ out = .slice B L.length cc ∧ Rll w wr B cc L ∧ L.map LgD.p = outM l ∧ bs = l ++ batsM (ringAt X n) (n - i) (from_ + i) b ∧ l.length = i ∧ lastE l = b.e ∧ ((i = 0 ∧ b.e = 0) ∨ (0 < i ∧ 1 ≤ b.e)) ∧ L.length ≤ 60 * i ∧ b.e ≤ 65535) (fun _ _ _ sq _ => (from_ + n - intOf sq).toNat)
  case atStart => exact ⟨0, 0, none, [], .zero, [], by omega, by simp, rfl, rfl, rfl, Rll.nil w, rfl, by rw [← Hbs.out]; simp, rfl, rfl, .inl ⟨rfl, rfl⟩, by simp, by decide⟩
  case round =>
    obtain ⟨i, cc, B, L, b, l, hi, rfl, rfl, rfl, rfl, hL, hout, hbs, hll, hle, hb, hlen, hbe⟩ := hrel
    have HL := Lib.hid hL
    have Hout := Lib.hid hout
    have Hbs2 := Lib.hid hbs
    have Hll := Lib.hid hll
    have Hle := Lib.hid hle
    have Hb := Lib.hid hb
    clear hL hout hbs hll hle hb
    have hi2 : (i : Int) ≤ n := by omega
    have hn2 : (n : Int) ≤ 4096 := by omega
    by_cases hlt : i < n
    · have hlt2 : (i : Int) < n := by omega
      have hrem : Int.tmod (from_ + i) n = (from_ + i) % n := Int.tmod_eq_emod_of_nonneg (by omega)
      have hr0 : 0 ≤ (from_ + (i : Int)) % n := Int.emod_nonneg _ (by omega)
      have hr1 : (from_ + (i : Int)) % n < n := Int.emod_lt_of_pos _ (by omega)
      obtain ⟨k, hk⟩ : ∃ k : Nat, (from_ + (i : Int)) % n = k := ⟨((from_ + (i : Int)) % n).toNat, by omega⟩
      rw [hk] at hrem hr0 hr1
      have hne : ((n : Int) == 0) = false := by simp; omega
      obtain ⟨x, hx⟩ : ∃ x, X[k]? = some x := ⟨_, List.getElem?_eq_getElem (by rw [HR.out.len]; omega)⟩
      have Hat : Hid (ringAt X n (from_ + i) = x.xs) := by
        show _ = _
        unfold ringAt
        rw [hk, Int.toNat_natCast, List.getD_eq_getElem?_getD, List.getElem?_map, hx]
        rfl
      obtain ⟨g, hA, hcell, hsl, hcm⟩ := (HR.out.keep HL.out.old).at hx
      subst hA
      have Ho := Lib.hid (refOpen_any wr x.A x.n x.c x.xs hsl hcm)
      have hxl : x.xs.length = x.n := hsl.len
      have Hxl := Lib.hid hxl
      clear hx hsl hcm hxl hk
      go_wp2_with fail
      refine Ho.out.mono ?_
      rintro e w5 ⟨A5, m5, c5, rfl, hm256, hc5, hg5, hm5⟩
      have HU := Lib.hid (runpack_ok w5 A5 m5 c5 _ hg5 hc5)
      have HL5 := Lib.hid (HL.out.keep hm5)
      clear hg5 hm5 hc5 Ho HL
      obtain ⟨oe, hoe⟩ : ∃ oe, openErr x.n x.xs = oe := ⟨_, rfl⟩
      obtain ⟨os, hos⟩ : ∃ os, openStamp x.n x.xs = os := ⟨_, rfl⟩
      obtain ⟨ob, hob⟩ : ∃ ob, openBytes x.n x.xs = ob := ⟨_, rfl⟩
      rw [hoe, hos]
      rw [hob] at HU
      rw [← Hxl.out] at hoe hos hob
      have Hoe := Lib.hid hoe
      have Hos := Lib.hid hos
      have Hob := Lib.hid hob
      clear hoe hos hob
      go_wp2_with fail
      refine HU.out.mono ?_
      rintro e w6 ⟨hans, hm6⟩
      cases hu : unpackM ob with
      | none =>
        rw [hu] at hans
        obtain rfl : e = .returned (.tuple #[.agg BtD.zero.cells, .int .i64 7]) := hans
        have HE : Hid (bs = l) := by
          show _ = _
          by_cases hoe : oe = 0
          · exact bats_stop_of Hbs2.out (accM_no1 (by rw [Hat.out]; exact rd_un (by rw [Hoe.out]; exact hoe) (by rw [Hob.out]; exact hu)))
          · exact bats_stop_of Hbs2.out (accM_no1 (by rw [Hat.out]; exact rd_err (by rw [Hoe.out]; exact hoe)))
        obtain ⟨w7, hw7⟩ : ∃ w7, w6.alloc (.cells BtD.zero.cells 68) = w7 := ⟨_, rfl⟩
        have hma : Mod (fun _ => False) w6 w7 := by rw [← hw7]; exact (Mod.refl _ w6).alloc _
        have HL6 := Lib.hid ((HL5.out.keep hm6).keep hma)
        have hI := BtD.In.new w6 BtD.zero
        rw [hw7] at hI
        have r0 := hI.c0
        have r1 := hI.c1
        have r2 := hI.c2
        have r3 := hI.c3
        clear hm6 hma hI HU HL5 hu
        by_cases hoe : oe = 0
        · have hb1 : (oe != 0) = false := by simp [hoe]
          clear hoe
          go_wp2
          go_ret3
          exact ⟨⟨B, cc, L, by rw [HE.out, Hll.out, Hle.out]; rfl, HL6.out.row, HL6.out.own, by rw [HE.out]; exact Hout.out⟩, HL6.out.old⟩
        · have hb1 : (oe != 0) = true := by simpa using hoe
          clear hoe
          go_wp2
          go_ret3
          exact ⟨⟨B, cc, L, by rw [HE.out, Hll.out, Hle.out]; rfl, HL6.out.row, HL6.out.own, by rw [HE.out]; exact Hout.out⟩, HL6.out.old⟩
      | some l2 =>
        rw [hu] at hans
        obtain ⟨B2, m2, d2, L2, rfl, hrow2, hown2, hl2⟩ := hans
        have hoe0 : oe = 0 := by
          rcases Decidable.em (oe = 0) with e | e
          · exact e
          · have h1 := openErr_no (by rw [Hoe.out]; exact e)
            rw [Hob.out] at h1
            rw [h1] at hu
            cases hu
        subst hoe0
        obtain ⟨hh, h60⟩ := unpack_head hu
        have hbd := headOk_bd hh
        obtain ⟨E, hE⟩ : ∃ E, hdE ob = E := ⟨_, rfl⟩
        obtain ⟨S, hS⟩ : ∃ S, hdS ob = S := ⟨_, rfl⟩
        obtain ⟨F, hF⟩ : ∃ F, hdF ob = F := ⟨_, rfl⟩
        rw [hE, hS, hF] at hbd
        rw [hE, hS, hF]
        obtain ⟨bd1, bd2, bd3, bd4, bd5, bd6⟩ := hbd
        have HyM : Hid (S = from_ + i → os = E * 16777216 + (from_ + i) → 1 ≤ E → batM (ringAt X n (from_ + i)) (from_ + i) = some ⟨E, from_ + i, F, l2⟩) := by
          intro a1 a2 a3
          have := rd_yes (q := from_ + i) Hoe.out (by rw [Hob.out]; exact hu) (by rw [Hob.out, hS]; exact a1) (by rw [Hob.out, Hos.out, hE]; exact a2) (by rw [Hob.out, hE]; exact a3)
          rw [Hat.out, this, Hob.out, hE, hF]
        have HnS : Hid (S ≠ from_ + i → batM (ringAt X n (from_ + i)) (from_ + i) = none) := fun a => by rw [Hat.out]; exact rd_seq Hoe.out (by rw [Hob.out, hS]; exact a)
        have HnT : Hid (os ≠ E * 16777216 + (from_ + i) → batM (ringAt X n (from_ + i)) (from_ + i) = none) := fun a => by rw [Hat.out]; exact rd_stamp Hoe.out (by rw [Hob.out, Hos.out, hE]; exact a)
        have HnE : Hid (E < 1 → batM (ringAt X n (from_ + i)) (from_ + i) = none) := fun a => by rw [Hat.out]; exact rd_epoch Hoe.out (by rw [Hob.out, hE]; exact a)
        obtain ⟨w7, hw7⟩ : ∃ w7, w6.alloc (.cells #[.int .i64 E, .int .i64 S, .int .i64 F, .slice B2 m2 d2] 68) = w7 := ⟨_, rfl⟩
        have hma : Mod (fun _ => False) w6 w7 := by rw [← hw7]; exact (Mod.refl _ w6).alloc _
        have Hs5 : Hid (w.heap.size ≤ w5.heap.size) := HL5.out.old.size
        have HL7 := Lib.hid ((HL5.out.keep hm6).keep hma)
        have hI : BtD.In w7 ⟨E, S, F, B2, m2, d2, L2⟩ w6.heap.size := by rw [← hw7]; exact BtD.In.new w6 ⟨E, S, F, B2, m2, d2, L2⟩
        have HI := Lib.hid hI
        have r0 := hI.c0
        have r1 := hI.c1
        have r2 := hI.c2
        have r3 := hI.c3
        have Hrow7 := Lib.hid (hrow2.mod hma (fun _ _ => id))
        have Hown7 : Hid (∀ y ∈ L2, y.o.Own w7 w5.heap.size ∧ y.v.Own w7 w5.heap.size) := fun y hy => ⟨OwV.mod (hown2 y hy).1 hma (fun _ _ => id), OwV.mod (hown2 y hy).2 hma (fun _ _ => id)⟩
        have Hl2 := Lib.hid hl2
        have H60 := Lib.hid h60
        clear hm6 hma hI HU HL5 hu hrow2 hown2 hl2 hh h60 hE hS hF
        by_cases hc1 : S ≠ from_ + i
        · have HE : Hid (bs = l) := bats_stop_of Hbs2.out (accM_no1 (HnS.out hc1))
          have hb1 : (S != from_ + i) = true := by simpa using hc1
          go_wp2
          go_ret3
          subst hw7
          exact ⟨⟨B, cc, L, by rw [HE.out, Hll.out, Hle.out]; rfl, HL7.out.row, HL7.out.own, by rw [HE.out]; exact Hout.out⟩, HL7.out.old⟩
        obtain rfl : S = from_ + i := by omega
        by_cases hc2 : os ≠ E * 16777216 + (from_ + i)
        · have HE : Hid (bs = l) := bats_stop_of Hbs2.out (accM_no1 (HnT.out hc2))
          have hb2 : (os != E * 16777216 + (from_ + i)) = true := by simpa using hc2
          go_wp2
          go_ret3
          subst hw7
          exact ⟨⟨B, cc, L, by rw [HE.out, Hll.out, Hle.out]; rfl, HL7.out.row, HL7.out.own, by rw [HE.out]; exact Hout.out⟩, HL7.out.old⟩
        obtain rfl : os = E * 16777216 + (from_ + i) := by omega
        by_cases hc3 : E < 1
        · have HE : Hid (bs = l) := bats_stop_of Hbs2.out (accM_no1 (HnE.out hc3))
          have hb3 : decide (E < 1) = true := by simpa using hc3
          go_wp2
          go_ret3
          subst hw7
          exact ⟨⟨B, cc, L, by rw [HE.out, Hll.out, Hle.out]; rfl, HL7.out.row, HL7.out.own, by rw [HE.out]; exact Hout.out⟩, HL7.out.old⟩
        have hb3 : decide (E < 1) = false := by simp; omega
        have HyB := Lib.hid (HyM.out rfl rfl (by omega))
        by_cases hc4 : E < b.e
        · have HE : Hid (bs = l) := bats_stop_of Hbs2.out (accM_no2 HyB.out (fol_less (by have := Hb.out; omega) hc4))
          have hb4 : decide (E < b.e) = true := by simpa using hc4
          go_wp2
          go_ret3
          subst hw7
          exact ⟨⟨B, cc, L, by rw [HE.out, Hll.out, Hle.out]; rfl, HL7.out.row, HL7.out.own, by rw [HE.out]; exact Hout.out⟩, HL7.out.old⟩
        have hb4 : decide (E < b.e) = false := by simp; omega
        by_cases hc5 : 0 < i ∧ E = b.e ∧ F ≠ b.f
        · obtain ⟨a1, a2, a3⟩ := hc5
          have HE : Hid (bs = l) := bats_stop_of Hbs2.out (accM_no2 HyB.out (by rw [fol_same (by have := Hb.out; omega) a2]; simpa using a3))
          have hg1 : decide (from_ < from_ + (i : Int)) = true := by simp; omega
          have hg2 : (E == b.e) = true := by simpa using a2
          have hg3 : (F != b.f) = true := by simpa using a3
          clear a1 a2 a3
          go_wp2
          go_ret3
          subst hw7
          exact ⟨⟨B, cc, L, by rw [HE.out, Hll.out, Hle.out]; rfl, HL7.out.row, HL7.out.own, by rw [HE.out]; exact Hout.out⟩, HL7.out.old⟩
        by_cases hc6 : 0 < i ∧ b.e < E ∧ F ≠ from_ + i
        · obtain ⟨a1, a2, a3⟩ := hc6
          have HE : Hid (bs = l) := bats_stop_of Hbs2.out (accM_no2 HyB.out (by rw [fol_more (by have := Hb.out; omega) a2]; simpa using a3))
          have hg1 : decide (from_ < from_ + (i : Int)) = true := by simp; omega
          have hg2 : (E == b.e) = false := by simp; omega
          have hg3 : decide (b.e < E) = true := by simpa using a2
          have hg4 : (F != from_ + i) = true := by simpa using a3
          clear a1 a2 a3
          go_wp2
          go_ret3
          subst hw7
          exact ⟨⟨B, cc, L, by rw [HE.out, Hll.out, Hle.out]; rfl, HL7.out.row, HL7.out.own, by rw [HE.out]; exact Hout.out⟩, HL7.out.old⟩
        have bdE : Hid (E ≤ 65535) := by show E ≤ 65535; omega
        have bdE1 : Hid (1 ≤ E) := by show 1 ≤ E; omega
        by_cases hi0 : i = 0
        · have hg1 : decide (from_ < from_ + (i : Int)) = false := by simp; omega
          have hfo := fol_first (b := b) (x := ⟨E, from_ + i, F, l2⟩) (by have := Hb.out; omega)
          have Hfo := Lib.hid hfo
          clear hi0 hfo
          have hRin : Rin w w7 w6.heap.size ⟨E, from_ + i, F, B2, m2, d2, L2⟩ w5.heap.size B cc L := ⟨HL7.out, HI.out, Hrow7.out, Hown7.out, Hs5.out⟩
          have HRin := Lib.hid hRin
          have hacc : accM (ringAt X n) (from_ + i) b = some ⟨E, from_ + i, F, l2⟩ := accM_yes HyB.out Hfo.out
          have Hacc := Lib.hid hacc
          have hL2 : L2.length = m2 := by have h1 := Hrow7.out.1; rw [recsC_len] at h1; omega
          have hl2l : l2.length = m2 := by rw [← Hl2.out, List.length_map, hL2]
          have HL2l := Lib.hid hL2
          have Hl2l := Lib.hid hl2l
          have hm60 : m2 ≤ 60 := by have := H60.out; omega
          have hLb : L.length ≤ 245760 := by omega
          subst hw7
          clear hRin hacc hL2 hl2l r0 r1 r2 r3 hb3 hb4 HL7 HI Hrow7 Hown7 HnS HnT HnE HyM
          go_wp2_with fail
          go_loopw [7, 16] (fun out k wr2 => ∃ (j c' : Nat) (B' : Option Addr) (L' : List LgD), j ≤ m2 ∧ k = .int .i64 j ∧ out = .slice B' L'.length c' ∧ Rin w wr2 w6.heap.size ⟨E, from_ + i, F, B2, m2, d2, L2⟩ w5.heap.size B' c' L' ∧ L'.map LgD.p = outM l ++ (rowsM ⟨E, from_ + i, F, l2⟩).take j ∧ L'.length = L.length + j) (fun _ k _ => m2 - (intOf k).toNat)
          case atStart => exact ⟨0, cc, B, L, by omega, rfl, rfl, HRin.out, by rw [List.take_zero, List.append_nil]; exact Hout.out, rfl⟩
          case round =>
            obtain ⟨j, c2, B', L', hj, rfl, rfl, hRi, hmp, hlen2⟩ := hrel
            have hlenb : L'.length ≤ 245820 := by omega
            have Hlen2 := Lib.hid hlen2
            clear hlen2
            have HRi := Lib.hid hRi
            have Hmp := Lib.hid hmp
            clear hRi hmp
            have q3 := HRi.out.bat.c3
            have hj2 : (j : Int) ≤ 60 := by omega
            by_cases hjt : j < m2
            · have hjt2 : (j : Int) < m2 := by omega
              obtain ⟨y, hy⟩ : ∃ y, L2[j]? = some y := ⟨_, List.getElem?_eq_getElem (by have := HL2l.out; omega)⟩
              obtain ⟨gb, ob, hBA, hcells⟩ := HRi.out.rs.cells (by show 0 < m2; omega)
              have hBA : B2 = some ⟨gb, ob, none⟩ := hBA
              subst hBA
              obtain ⟨k0, k1, k2, k3, k4, k5, k6, k7, k8, k9, k10, k11, k12, k13⟩ := hcells j y hy
              have Hy := Lib.hid hy
              have hmY : Mod (fun _ => False) wr (wr.alloc (.cells (⟨(from_ + i) * 256 + j, y⟩ : LgD).cells 71)) := (Mod.refl _ wr).alloc _
              have HRY := Lib.hid (HRi.out.keep hmY)
              have hsrc : SrcN (wr.alloc (.cells (⟨(from_ + i) * 256 + j, y⟩ : LgD).cells 71)) (some ⟨wr.heap.size, 0, none⟩) 1 15 (⟨(from_ + i) * 256 + j, y⟩ : LgD).cells.toList := SrcN.lit wr (⟨(from_ + i) * 256 + j, y⟩ : LgD).cells.toList 71 (lg_one _)
              have hown := HRY.out.list.row
              have hbase := HRY.out.list.old.size
              clear hy hcells hmY
              go_wp2_with (at_builtin; refine wpList_appN (.tmp 113) (.tmp 124) lgElem rfl rfl rfl rfl hown hsrc (by omega) (by unfold maxLen; omega) hbase ?_)
              intro A8 c8 w8 hown8 hg8 _
              have hR8 := HRY.out.push ((from_ + i) * 256 + j) (List.mem_of_getElem? Hy.out) hown8 hg8
              have HR8 := Lib.hid hR8
              have Hmp8 : Hid ((L' ++ [(⟨(from_ + i) * 256 + j, y⟩ : LgD)]).map LgD.p = outM l ++ (rowsM ⟨E, from_ + i, F, l2⟩).take (j + 1)) := by
                show _ = _
                rw [rowsM_take ⟨E, from_ + i, F, l2⟩ (i := j) (r := y.p) (by show l2[j]? = _; rw [← Hl2.out, List.getElem?_map, Hy.out]; rfl), List.map_append, Hmp.out, List.append_assoc]
                show _ ++ (_ ++ [((from_ + i) * 256 + j, y.p)]) = _ ++ (_ ++ [(256 * (from_ + i) + j, y.p)])
                rw [Int.mul_comm (from_ + i) 256]
              clear hown8 hg8 hR8 hown hsrc hbase HRY HRi Hmp k0 k1 k2 k3 k4 k5 k6 k7 k8 k9 k10 k11 k12 k13 q3 Hy
              go_wp2
              go_roundw
              case rel => exact ⟨j + 1, c8, A8, L' ++ [(⟨(from_ + i) * 256 + j, y⟩ : LgD)], by omega, by go_num, by rw [List.length_append]; rfl, HR8.out, Hmp8.out, by rw [List.length_append, List.length_singleton]; have := Hlen2.out; omega⟩
              case measure => simp [intOf]; omega
            · obtain rfl : j = m2 := by omega
              have q0 := HRi.out.bat.c0
              have q2 := HRi.out.bat.c2
              have Hmp9 : Hid (L'.map LgD.p = outM (l ++ [⟨E, from_ + i, F, l2⟩])) := by
                show _ = _
                rw [outM_snoc, Hmp.out, List.take_of_length_le (by rw [rowsM_len]; show l2.length ≤ _; rw [Hl2l.out]; exact Nat.le_refl _)]
              have hbs9 : bs = (l ++ [⟨E, from_ + i, F, l2⟩]) ++ batsM (ringAt X n) (n - (i + 1)) (from_ + ((i + 1 : Nat) : Int)) ⟨E, from_ + i, F, l2⟩ := Hbs.out.symm.trans (bats_step (Hbs.out.trans Hbs2.out) hlt Hacc.out)
              have Hbs9 := Lib.hid hbs9
              have HR9 := Lib.hid HRi.out.list
              clear hbs9 HRi Hmp
              go_wp2
              go_roundw
              case rel => exact ⟨i + 1, c2, B', L', ⟨E, from_ + i, F, l2⟩, l ++ [⟨E, from_ + i, F, l2⟩], by omega, by simp; omega, rfl, rfl, rfl, HR9.out, Hmp9.out, Hbs9.out, by rw [List.length_append, Hll.out]; rfl, lastE_snoc _ _, .inr ⟨by omega, by show 1 ≤ E; have := bdE1.out; omega⟩, by have := Hlen2.out; omega, bdE.out⟩
              case measure => simp [intOf]; omega
        by_cases hse : E = b.e
        · obtain rfl : F = b.f := by
            rcases Decidable.em (F = b.f) with h | h
            · exact h
            · exact absurd ⟨by omega, hse, h⟩ hc5
          subst hse
          have hg1 : decide (from_ < from_ + (i : Int)) = true := by simp; omega
          have hRin : Rin w w7 w6.heap.size ⟨b.e, from_ + i, b.f, B2, m2, d2, L2⟩ w5.heap.size B cc L := ⟨HL7.out, HI.out, Hrow7.out, Hown7.out, Hs5.out⟩
          have HRin := Lib.hid hRin
          have hacc : accM (ringAt X n) (from_ + i) b = some ⟨b.e, from_ + i, b.f, l2⟩ := accM_yes HyB.out (by rw [fol_same (b := b) (x := ⟨b.e, from_ + i, b.f, l2⟩) (by have := Hb.out; omega) rfl]; exact decide_eq_true rfl)
          have Hacc := Lib.hid hacc
          have hL2 : L2.length = m2 := by have h1 := Hrow7.out.1; rw [recsC_len] at h1; omega
          have hl2l : l2.length = m2 := by rw [← Hl2.out, List.length_map, hL2]
          have HL2l := Lib.hid hL2
          have Hl2l := Lib.hid hl2l
          have hm60 : m2 ≤ 60 := by have := H60.out; omega
          have hLb : L.length ≤ 245760 := by omega
          subst hw7
          clear hRin hacc hL2 hl2l r0 r1 r2 r3 hb3 hb4 HL7 HI Hrow7 Hown7 HnS HnT HnE HyM
          go_wp2_with fail
          go_loopw [7, 16] (fun out k wr2 => ∃ (j c' : Nat) (B' : Option Addr) (L' : List LgD), j ≤ m2 ∧ k = .int .i64 j ∧ out = .slice B' L'.length c' ∧ Rin w wr2 w6.heap.size ⟨b.e, from_ + i, b.f, B2, m2, d2, L2⟩ w5.heap.size B' c' L' ∧ L'.map LgD.p = outM l ++ (rowsM ⟨b.e, from_ + i, b.f, l2⟩).take j ∧ L'.length = L.length + j) (fun _ k _ => m2 - (intOf k).toNat)
          case atStart => exact ⟨0, cc, B, L, by omega, rfl, rfl, HRin.out, by rw [List.take_zero, List.append_nil]; exact Hout.out, rfl⟩
          case round =>
            obtain ⟨j, c2, B', L', hj, rfl, rfl, hRi, hmp, hlen2⟩ := hrel
            have hlenb : L'.length ≤ 245820 := by omega
            have Hlen2 := Lib.hid hlen2
            clear hlen2
            have HRi := Lib.hid hRi
            have Hmp := Lib.hid hmp
            clear hRi hmp
            have q3 := HRi.out.bat.c3
            have hj2 : (j : Int) ≤ 60 := by omega
            by_cases hjt : j < m2
            · have hjt2 : (j : Int) < m2 := by omega
              obtain ⟨y, hy⟩ : ∃ y, L2[j]? = some y := ⟨_, List.getElem?_eq_getElem (by have := HL2l.out; omega)⟩
              obtain ⟨gb, ob, hBA, hcells⟩ := HRi.out.rs.cells (by show 0 < m2; omega)
              have hBA : B2 = some ⟨gb, ob, none⟩ := hBA
              subst hBA
              obtain ⟨k0, k1, k2, k3, k4, k5, k6, k7, k8, k9, k10, k11, k12, k13⟩ := hcells j y hy
              have Hy := Lib.hid hy
              have hmY : Mod (fun _ => False) wr (wr.alloc (.cells (⟨(from_ + i) * 256 + j, y⟩ : LgD).cells 71)) := (Mod.refl _ wr).alloc _
              have HRY := Lib.hid (HRi.out.keep hmY)
              have hsrc : SrcN (wr.alloc (.cells (⟨(from_ + i) * 256 + j, y⟩ : LgD).cells 71)) (some ⟨wr.heap.size, 0, none⟩) 1 15 (⟨(from_ + i) * 256 + j, y⟩ : LgD).cells.toList := SrcN.lit wr (⟨(from_ + i) * 256 + j, y⟩ : LgD).cells.toList 71 (lg_one _)
              have hown := HRY.out.list.row
              have hbase := HRY.out.list.old.size
              clear hy hcells hmY
              go_wp2_with (at_builtin; refine wpList_appN (.tmp 113) (.tmp 124) lgElem rfl rfl rfl rfl hown hsrc (by omega) (by unfold maxLen; omega) hbase ?_)
              intro A8 c8 w8 hown8 hg8 _
              have hR8 := HRY.out.push ((from_ + i) * 256 + j) (List.mem_of_getElem? Hy.out) hown8 hg8
              have HR8 := Lib.hid hR8
              have Hmp8 : Hid ((L' ++ [(⟨(from_ + i) * 256 + j, y⟩ : LgD)]).map LgD.p = outM l ++ (rowsM ⟨b.e, from_ + i, b.f, l2⟩).take (j + 1)) := by
                show _ = _
                rw [rowsM_take ⟨b.e, from_ + i, b.f, l2⟩ (i := j) (r := y.p) (by show l2[j]? = _; rw [← Hl2.out, List.getElem?_map, Hy.out]; rfl), List.map_append, Hmp.out, List.append_assoc]
                show _ ++ (_ ++ [((from_ + i) * 256 + j, y.p)]) = _ ++ (_ ++ [(256 * (from_ + i) + j, y.p)])
                rw [Int.mul_comm (from_ + i) 256]
              clear hown8 hg8 hR8 hown hsrc hbase HRY HRi Hmp k0 k1 k2 k3 k4 k5 k6 k7 k8 k9 k10 k11 k12 k13 q3 Hy
              go_wp2
              go_roundw
              case rel => exact ⟨j + 1, c8, A8, L' ++ [(⟨(from_ + i) * 256 + j, y⟩ : LgD)], by omega, by go_num, by rw [List.length_append]; rfl, HR8.out, Hmp8.out, by rw [List.length_append, List.length_singleton]; have := Hlen2.out; omega⟩
              case measure => simp [intOf]; omega
            · obtain rfl : j = m2 := by omega
              have q0 := HRi.out.bat.c0
              have q2 := HRi.out.bat.c2
              have Hmp9 : Hid (L'.map LgD.p = outM (l ++ [⟨b.e, from_ + i, b.f, l2⟩])) := by
                show _ = _
                rw [outM_snoc, Hmp.out, List.take_of_length_le (by rw [rowsM_len]; show l2.length ≤ _; rw [Hl2l.out]; exact Nat.le_refl _)]
              have hbs9 : bs = (l ++ [⟨b.e, from_ + i, b.f, l2⟩]) ++ batsM (ringAt X n) (n - (i + 1)) (from_ + ((i + 1 : Nat) : Int)) ⟨b.e, from_ + i, b.f, l2⟩ := Hbs.out.symm.trans (bats_step (Hbs.out.trans Hbs2.out) hlt Hacc.out)
              have Hbs9 := Lib.hid hbs9
              have HR9 := Lib.hid HRi.out.list
              clear hbs9 HRi Hmp
              go_wp2
              go_roundw
              case rel => exact ⟨i + 1, c2, B', L', ⟨b.e, from_ + i, b.f, l2⟩, l ++ [⟨b.e, from_ + i, b.f, l2⟩], by omega, by simp; omega, rfl, rfl, rfl, HR9.out, Hmp9.out, Hbs9.out, by rw [List.length_append, Hll.out]; rfl, lastE_snoc _ _, .inr ⟨by omega, by show 1 ≤ b.e; have := bdE1.out; omega⟩, by have := Hlen2.out; omega, bdE.out⟩
              case measure => simp [intOf]; omega
        have hmr : b.e < E := by omega
        obtain rfl : F = from_ + i := by
          rcases Decidable.em (F = from_ + i) with h | h
          · exact h
          · exact absurd ⟨by omega, hmr, h⟩ hc6
        clear hc5 hc6
        have hg1 : decide (from_ < from_ + (i : Int)) = true := by simp; omega
        have hg2 : (E == b.e) = false := by simp; omega
        have hg3 : decide (b.e < E) = true := decide_eq_true hmr
        have hRin : Rin w w7 w6.heap.size ⟨E, from_ + i, (from_ + i), B2, m2, d2, L2⟩ w5.heap.size B cc L := ⟨HL7.out, HI.out, Hrow7.out, Hown7.out, Hs5.out⟩
        have HRin := Lib.hid hRin
        have hacc : accM (ringAt X n) (from_ + i) b = some ⟨E, from_ + i, (from_ + i), l2⟩ := accM_yes HyB.out (by rw [fol_more (by have := Hb.out; omega) hmr]; exact decide_eq_true rfl)
        have Hacc := Lib.hid hacc
        have hL2 : L2.length = m2 := by have h1 := Hrow7.out.1; rw [recsC_len] at h1; omega
        have hl2l : l2.length = m2 := by rw [← Hl2.out, List.length_map, hL2]
        have HL2l := Lib.hid hL2
        have Hl2l := Lib.hid hl2l
        have hm60 : m2 ≤ 60 := by have := H60.out; omega
        have hLb : L.length ≤ 245760 := by omega
        subst hw7
        clear hRin hacc hL2 hl2l r0 r1 r2 r3 hb3 hb4 HL7 HI Hrow7 Hown7 HnS HnT HnE HyM
        go_wp2_with fail
        go_loopw [7, 16] (fun out k wr2 => ∃ (j c' : Nat) (B' : Option Addr) (L' : List LgD), j ≤ m2 ∧ k = .int .i64 j ∧ out = .slice B' L'.length c' ∧ Rin w wr2 w6.heap.size ⟨E, from_ + i, (from_ + i), B2, m2, d2, L2⟩ w5.heap.size B' c' L' ∧ L'.map LgD.p = outM l ++ (rowsM ⟨E, from_ + i, (from_ + i), l2⟩).take j ∧ L'.length = L.length + j) (fun _ k _ => m2 - (intOf k).toNat)
        case atStart => exact ⟨0, cc, B, L, by omega, rfl, rfl, HRin.out, by rw [List.take_zero, List.append_nil]; exact Hout.out, rfl⟩
        case round =>
          obtain ⟨j, c2, B', L', hj, rfl, rfl, hRi, hmp, hlen2⟩ := hrel
          have hlenb : L'.length ≤ 245820 := by omega
          have Hlen2 := Lib.hid hlen2
          clear hlen2
          have HRi := Lib.hid hRi
          have Hmp := Lib.hid hmp
          clear hRi hmp
          have q3 := HRi.out.bat.c3
          have hj2 : (j : Int) ≤ 60 := by omega
          by_cases hjt : j < m2
          · have hjt2 : (j : Int) < m2 := by omega
            obtain ⟨y, hy⟩ : ∃ y, L2[j]? = some y := ⟨_, List.getElem?_eq_getElem (by have := HL2l.out; omega)⟩
            obtain ⟨gb, ob, hBA, hcells⟩ := HRi.out.rs.cells (by show 0 < m2; omega)
            have hBA : B2 = some ⟨gb, ob, none⟩ := hBA
            subst hBA
            obtain ⟨k0, k1, k2, k3, k4, k5, k6, k7, k8, k9, k10, k11, k12, k13⟩ := hcells j y hy
            have Hy := Lib.hid hy
            have hmY : Mod (fun _ => False) wr (wr.alloc (.cells (⟨(from_ + i) * 256 + j, y⟩ : LgD).cells 71)) := (Mod.refl _ wr).alloc _
            have HRY := Lib.hid (HRi.out.keep hmY)
            have hsrc : SrcN (wr.alloc (.cells (⟨(from_ + i) * 256 + j, y⟩ : LgD).cells 71)) (some ⟨wr.heap.size, 0, none⟩) 1 15 (⟨(from_ + i) * 256 + j, y⟩ : LgD).cells.toList := SrcN.lit wr (⟨(from_ + i) * 256 + j, y⟩ : LgD).cells.toList 71 (lg_one _)
            have hown := HRY.out.list.row
            have hbase := HRY.out.list.old.size
            clear hy hcells hmY
            go_wp2_with (at_builtin; refine wpList_appN (.tmp 113) (.tmp 124) lgElem rfl rfl rfl rfl hown hsrc (by omega) (by unfold maxLen; omega) hbase ?_)
            intro A8 c8 w8 hown8 hg8 _
            have hR8 := HRY.out.push ((from_ + i) * 256 + j) (List.mem_of_getElem? Hy.out) hown8 hg8
            have HR8 := Lib.hid hR8
            have Hmp8 : Hid ((L' ++ [(⟨(from_ + i) * 256 + j, y⟩ : LgD)]).map LgD.p = outM l ++ (rowsM ⟨E, from_ + i, (from_ + i), l2⟩).take (j + 1)) := by
              show _ = _
              rw [rowsM_take ⟨E, from_ + i, (from_ + i), l2⟩ (i := j) (r := y.p) (by show l2[j]? = _; rw [← Hl2.out, List.getElem?_map, Hy.out]; rfl), List.map_append, Hmp.out, List.append_assoc]
              show _ ++ (_ ++ [((from_ + i) * 256 + j, y.p)]) = _ ++ (_ ++ [(256 * (from_ + i) + j, y.p)])
              rw [Int.mul_comm (from_ + i) 256]
            clear hown8 hg8 hR8 hown hsrc hbase HRY HRi Hmp k0 k1 k2 k3 k4 k5 k6 k7 k8 k9 k10 k11 k12 k13 q3 Hy
            go_wp2
            go_roundw
            case rel => exact ⟨j + 1, c8, A8, L' ++ [(⟨(from_ + i) * 256 + j, y⟩ : LgD)], by omega, by go_num, by rw [List.length_append]; rfl, HR8.out, Hmp8.out, by rw [List.length_append, List.length_singleton]; have := Hlen2.out; omega⟩
            case measure => simp [intOf]; omega
          · obtain rfl : j = m2 := by omega
            have q0 := HRi.out.bat.c0
            have q2 := HRi.out.bat.c2
            have Hmp9 : Hid (L'.map LgD.p = outM (l ++ [⟨E, from_ + i, (from_ + i), l2⟩])) := by
              show _ = _
              rw [outM_snoc, Hmp.out, List.take_of_length_le (by rw [rowsM_len]; show l2.length ≤ _; rw [Hl2l.out]; exact Nat.le_refl _)]
            have hbs9 : bs = (l ++ [⟨E, from_ + i, (from_ + i), l2⟩]) ++ batsM (ringAt X n) (n - (i + 1)) (from_ + ((i + 1 : Nat) : Int)) ⟨E, from_ + i, (from_ + i), l2⟩ := Hbs.out.symm.trans (bats_step (Hbs.out.trans Hbs2.out) hlt Hacc.out)
            have Hbs9 := Lib.hid hbs9
            have HR9 := Lib.hid HRi.out.list
            clear hbs9 HRi Hmp
            go_wp2
            go_roundw
            case rel => exact ⟨i + 1, c2, B', L', ⟨E, from_ + i, (from_ + i), l2⟩, l ++ [⟨E, from_ + i, (from_ + i), l2⟩], by omega, by simp; omega, rfl, rfl, rfl, HR9.out, Hmp9.out, Hbs9.out, by rw [List.length_append, Hll.out]; rfl, lastE_snoc _ _, .inr ⟨by omega, by show 1 ≤ E; have := bdE1.out; omega⟩, by have := Hlen2.out; omega, bdE.out⟩
            case measure => simp [intOf]; omega
    · obtain rfl : i = n := by omega
      have HE : Hid (bs = l) := by show _ = _; rw [Hbs2.out, Nat.sub_self]; simp [batsM]
      go_wp2
      go_ret3
      exact ⟨⟨B, cc, L, by rw [HE.out, Hll.out, Hle.out]; rfl, HL.out.row, HL.out.own, by rw [HE.out]; exact Hout.out⟩, HL.out.old⟩
end Go.Proofs.YtnbamljaiahmdaaGreat
