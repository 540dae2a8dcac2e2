/-
  OmapDoes: any calls of a map answer, and leave in it, what the document says.
-/
import Derived.Test.YtallokaboldflaaCallsW
namespace Go.Proofs.Ytallokaboldflaa
open Go Go.RowKit

theorem toldL_nat (m : Nat) (L : List Pr) : toldL (m : Int) L = L.take m := by
  unfold toldL
  rw [if_neg (by omega)]
  rfl

/-- A round: the map, the document's list, the law's own copy of the call. -/
structure Rnd (w0 w : World) (x : MV) (L : List Pr) (gb : Nat) (y : OpD) (A : Option Addr) (n c : Nat) (r : List Pr) : Prop where
  live : Live w0 w x L
  want : Want w x A n c r
  box : w.heap[gb]? = some (.cells #[.bool y.del, .int .i64 y.k, .string y.v] 30 (0, 0))
  apart : ¬ x.M gb
section
variable {w0 w w' : World} {x x' : MV} {L L' r r' : List Pr} {gb : Nat} {y : OpD} {A A' : Option Addr} {n c n' c' : Nat}
theorem Rnd.keep (h : Rnd w0 w x L gb y A n c r) (hm : Mod (fun _ => False) w w') : Rnd w0 w' x L gb y A n c r :=
  ⟨h.live.keep hm, h.want.keep hm, (hm.block gb (Array.getElem?_eq_some_iff.1 h.box).1 id).trans h.box, h.apart⟩
theorem Rnd.step (h : Rnd w0 w x L gb y A n c r) (hL : Live w0 w' x' L') (hm : Mod x.M w w') (hx : ∀ k, x'.M k → x.M k ∨ w.heap.size ≤ k) : Rnd w0 w' x' L' gb y A n c r :=
  ⟨hL, h.want.step hm hx, (hm.block gb (Array.getElem?_eq_some_iff.1 h.box).1 h.apart).trans h.box, fun hM => (hx gb hM).elim h.apart (fun hge => by have := (Array.getElem?_eq_some_iff.1 h.box).1; omega)⟩
theorem Rnd.list (h : Rnd w0 w x L gb y A n c r) (hp : Pl w' A' n' c' r') (hn : ∀ k, blkOf A' = some k → w.heap.size ≤ k) (hm : Mod (fun _ => False) w w') : Rnd w0 w' x L gb y A' n' c' r' :=
  ⟨h.live.keep hm, Want.of h.live hp hn, (h.keep hm).box, h.apart⟩
theorem Rnd.cells (h : Rnd w0 w x L gb y A n c r) : w.cell? ⟨gb, 0, none⟩ = some (.bool y.del) ∧ w.cell? ⟨gb, 1, none⟩ = some (.int .i64 y.k) ∧ w.cell? ⟨gb, 2, none⟩ = some (.string y.v) := by
  refine ⟨?_, ?_, ?_⟩ <;> (rw [cell_of_row _ _ _ _ _ _ h.box]; rfl)
theorem rnd_new (h : Live w0 w x L) (hW : Want w x A n c r) (y : OpD) : Rnd w0 (w.alloc (.cells #[.bool y.del, .int .i64 y.k, .string y.v] 30)) x L w.heap.size y A n c r :=
  ⟨h.keep ((Mod.refl _ w).alloc _), hW.keep ((Mod.refl _ w).alloc _), heap_alloc_new w _, fun hM => by have := (h.low hM).2; omega⟩
end

set_option maxRecDepth 100000 in
set_option maxHeartbeats 4000000 in
theorem does_walk (A : Option Addr) (n c : Nat) (l : List OpD) (w : World) (hl : OpsAt w A n c l) (k most : Int) :
    Calls Try.prog 3 #[.slice A n c, .int .i64 k, .int .i64 most] w fun e w' => e = .returned (.bool true) ∧ Below w.heap.size w w' := by
  have Hl := Lib.hid hl
  have Hn := Lib.hid hl.1
  clear hl
  go_enter Try.func3, Try.ntmps3
  go_wp2_with fail
  refine (awake_ok _).mono ?_
  rintro e w1 ⟨rfl, hm1⟩
  have Hm1 := Lib.hid hm1
  clear hm1
  by_cases hbig : 100 < n
  · have hb : decide ((100 : Int) < n) = true := by simp; omega
    go_wp2
    go_ret
    exact ⟨rfl, Hm1.out.below (Nat.le_refl _) (fun _ _ => id)⟩
  have hb : decide ((100 : Int) < n) = false := by simp; omega
  have hn60 : n ≤ 100 := by omega
  clear hbig
  by_cases hneg : most < 0
  · have hb2 : decide (most < 0) = true := by simpa using hneg
    go_wp2
    go_ret
    exact ⟨rfl, Hm1.out.below (Nat.le_refl _) (fun _ _ => id)⟩
  obtain ⟨m, rfl⟩ : ∃ m : Nat, most = m := ⟨most.toNat, by omega⟩
  have hb2 : decide ((m : Int) < 0) = false := by simp
  clear hneg
  go_wp2_with fail
  have H0 := Lib.hid (live_new w w1 Hm1.out)
  obtain ⟨g, hg⟩ : ∃ g, g = w1.heap.size := ⟨_, rfl⟩
  rw [← hg]
  have Hg := Lib.hid hg
  clear hg hb hb2
  go_loopw [9, 10] (fun r i wr => ∃ (j : Nat) (x : MV) (A1 : Option Addr) (c1 : Nat), j ≤ n ∧ i = .int .i64 j ∧ x.p = g ∧ Live w wr x ((l.take j).foldl opDo []) ∧ r = .slice A1 ((l.take j).foldl opDo []).length c1 ∧ Want wr x A1 ((l.take j).foldl opDo []).length c1 ((l.take j).foldl opDo [])) (fun _ i _ => n - (intOf i).toNat)
  case atStart => exact ⟨0, _, none, 0, by omega, rfl, Hg.out.symm, H0.out, rfl, ⟨Pl.nil _ _ _, fun _ e => by simp [blkOf] at e, fun _ e => by simp [blkOf] at e⟩⟩
  case round =>
    obtain ⟨j, x, A1, c1, hj, rfl, hp, hL, rfl, hW⟩ := hrel
    have HL := Lib.hid hL
    have HW := Lib.hid hW
    have Hlen := Lib.hid (foldTake_lenD l j 100 (by omega))
    have Hsrt := Lib.hid hL.srt
    clear hL hW
    by_cases hlt : j < n
    · obtain ⟨y, hy⟩ : ∃ y, l[j]? = some y := ⟨_, List.getElem?_eq_getElem (by rw [Hn.out]; omega)⟩
      obtain ⟨b, o, rfl, hc⟩ := (Hl.out.keep HL.out.old).2.2.2 (by omega)
      obtain ⟨c0, c1', c2⟩ := hc j y hy
      have Hsn := Lib.hid (foldl_take_succ (f := opDo) (b := ([] : List Pr)) hy)
      obtain ⟨L, hLe⟩ : ∃ L, (l.take j).foldl opDo [] = L := ⟨_, rfl⟩
      rw [hLe] at HL HW Hlen Hsn Hsrt ⊢
      clear hc hy hLe
      have HR := Lib.hid (rnd_new HL.out HW.out y)
      clear HL HW
      go_wp2_with fail
      obtain ⟨gb, hgb⟩ : ∃ gb, gb = wr.heap.size := ⟨_, rfl⟩
      rw [← hgb] at HR ⊢
      obtain ⟨wb, hwb⟩ : ∃ wb, wb = wr.alloc (.cells #[.bool y.del, .int .i64 y.k, .string y.v] 30) := ⟨_, rfl⟩
      rw [← hwb] at HR ⊢
      clear hgb hwb c0 c1' c2
      have Hrg := Lib.hid (refGet_ok wb _ _ _ L HR.out.want.pl Hsrt.out (by have := Hlen.out; omega) y.k)
      refine Hrg.out.mono ?_
      rintro e wb' ⟨rfl, rfl⟩
      obtain ⟨hv, hhv⟩ : ∃ hv, (mGet y.k L).getD ⟨#[]⟩ = hv := ⟨_, rfl⟩
      obtain ⟨hs, hhs⟩ : ∃ hs, (mGet y.k L).isSome = hs := ⟨_, rfl⟩
      have hgv : gotV (mGet y.k L) = .tuple #[.string hv, .bool hs] := by unfold gotV; rw [hhv, hhs]
      rw [hgv]
      clear Hrg hgv hhv
      obtain ⟨d0, d1, d2⟩ := HR.out.cells
      cases hd : y.del with
      | true =>
        rw [hd] at d0
        have Hdo : Hid (opDo L y = mDel y.k L) := by unfold opDo; rw [if_pos hd]; rfl
        have Hs := Lib.hid (live_del w _ _ _ HR.out.live (by have := Hlen.out; omega) y.k)
        rw [hp, hhs, ← Hdo.out] at Hs
        obtain ⟨L', hL'⟩ : ∃ L', opDo L y = L' := ⟨_, rfl⟩
        have Hlen' : Hid (L'.length ≤ 101) := by
          show _ ≤ _
          have h1 := opDo_len [y] L
          simp only [List.foldl_cons, List.foldl_nil, List.length_cons, List.length_nil] at h1
          rw [hL'] at h1
          have := Hlen.out
          omega
        have Hsrt' : Hid (Srt L') := by rw [← hL']; exact opDo_srt [y] L Hsrt.out
        rw [hL'] at Hs Hdo Hsn
        clear hd hhs hL'
        go_wp2_with fail
        refine Hs.out.mono ?_
        rintro e w3 ⟨rfl, x', hp', hL3, hM3, hN3⟩
        have HR3 := Lib.hid (HR.out.step hL3 hM3 hN3)
        clear hL3 hM3 hN3 Hs HR d0 d1 d2 hp
        obtain ⟨d0, d1, d2⟩ := HR3.out.cells
        have Hrd := Lib.hid (refDel_ok w3 _ _ _ L HR3.out.want.pl Hsrt.out (by have := Hlen.out; omega) y.k)
        rw [← Hdo.out] at Hrd
        have hs2 : (hs != hs) = false := by simp
        go_wp2_with fail
        refine Hrd.out.mono ?_
        rintro e w5 ⟨A5, n5, c5, rfl, hpl5, hnew5, hm5⟩
        have HR5 := Lib.hid (HR3.out.list hpl5 hnew5 hm5)
        clear hpl5 hnew5 hm5 Hrd HR3 d0 d1 d2
        have Hget := Lib.hid (get_ok w5 _ L' HR5.out.live.rd Hsrt'.out (by have := Hlen'.out; omega) k)
        rw [hp'] at Hget
        go_wp2_with fail
        refine Hget.out.mono ?_
        rintro e w6 ⟨rfl, hm6⟩
        have HR6 := Lib.hid (HR5.out.keep hm6)
        clear hm6 HR5 Hget
        have Hrg := Lib.hid (refGet_ok w6 _ _ _ L' HR6.out.want.pl Hsrt'.out (by have := Hlen'.out; have := HR6.out.want.pl.len; omega) k)
        obtain ⟨sv, hsv⟩ : ∃ sv, (mGet k L').getD ⟨#[]⟩ = sv := ⟨_, rfl⟩
        obtain ⟨sb, hsb⟩ : ∃ sb, (mGet k L').isSome = sb := ⟨_, rfl⟩
        have hgv : gotV (mGet k L') = .tuple #[.string sv, .bool sb] := by unfold gotV; rw [hsv, hsb]
        rw [hgv] at Hrg ⊢
        have Hlen6 := Lib.hid (len_ok w6 _ _ HR6.out.live.rd)
        rw [hp'] at Hlen6
        clear hsv hsb hgv
        go_wp2_with fail
        refine Hrg.out.mono ?_
        rintro e w7 ⟨rfl, rfl⟩
        clear Hrg
        have hv1 : (sv.toList == sv.toList) = true := by simp
        have hv2 : (sb != sb) = false := by simp
        go_wp2_with fail
        refine Hlen6.out.mono ?_
        rintro e w8 ⟨rfl, rfl⟩
        clear Hlen6 hv1 hv2
        have Hpl := Lib.hid HR6.out.want.pl.len
        have hnn : n5 = L'.length := Hpl.out.symm
        subst hnn
        go_wp2
        go_roundw
        case rel => exact ⟨j + 1, x', A5, c5, by omega, by go_num, hp', by rw [Hsn.out]; exact HR6.out.live, by rw [Hsn.out], by rw [Hsn.out]; exact HR6.out.want⟩
        case measure => simp [intOf]; omega
      | false =>
        rw [hd] at d0
        have Hdo : Hid (opDo L y = mSet y.k y.v L) := by unfold opDo; rw [if_neg (by rw [hd]; decide)]; rfl
        have Hs := Lib.hid (live_set w _ _ _ HR.out.live (by have := Hlen.out; omega) y.k y.v)
        rw [hp, hhs, ← Hdo.out] at Hs
        obtain ⟨L', hL'⟩ : ∃ L', opDo L y = L' := ⟨_, rfl⟩
        have Hlen' : Hid (L'.length ≤ 101) := by
          show _ ≤ _
          have h1 := opDo_len [y] L
          simp only [List.foldl_cons, List.foldl_nil, List.length_cons, List.length_nil] at h1
          rw [hL'] at h1
          have := Hlen.out
          omega
        have Hsrt' : Hid (Srt L') := by rw [← hL']; exact opDo_srt [y] L Hsrt.out
        rw [hL'] at Hs Hdo Hsn
        clear hd hhs hL'
        go_wp2_with fail
        refine Hs.out.mono ?_
        rintro e w3 ⟨rfl, x', hp', hL3, hM3, hN3⟩
        have HR3 := Lib.hid (HR.out.step hL3 hM3 hN3)
        clear hL3 hM3 hN3 Hs HR d0 d1 d2 hp
        obtain ⟨d0, d1, d2⟩ := HR3.out.cells
        have Hrd := Lib.hid (refSet_ok w3 _ _ _ L HR3.out.want.pl Hsrt.out (by have := Hlen.out; omega) y.k y.v)
        rw [← Hdo.out] at Hrd
        have hs2 : ((!hs) == hs) = false := by cases hs <;> rfl
        go_wp2_with fail
        refine Hrd.out.mono ?_
        rintro e w5 ⟨A5, n5, c5, rfl, hpl5, hnew5, hm5⟩
        have HR5 := Lib.hid (HR3.out.list hpl5 hnew5 hm5)
        clear hpl5 hnew5 hm5 Hrd HR3 d0 d1 d2
        have Hget := Lib.hid (get_ok w5 _ L' HR5.out.live.rd Hsrt'.out (by have := Hlen'.out; omega) k)
        rw [hp'] at Hget
        go_wp2_with fail
        refine Hget.out.mono ?_
        rintro e w6 ⟨rfl, hm6⟩
        have HR6 := Lib.hid (HR5.out.keep hm6)
        clear hm6 HR5 Hget
        have Hrg := Lib.hid (refGet_ok w6 _ _ _ L' HR6.out.want.pl Hsrt'.out (by have := Hlen'.out; have := HR6.out.want.pl.len; omega) k)
        obtain ⟨sv, hsv⟩ : ∃ sv, (mGet k L').getD ⟨#[]⟩ = sv := ⟨_, rfl⟩
        obtain ⟨sb, hsb⟩ : ∃ sb, (mGet k L').isSome = sb := ⟨_, rfl⟩
        have hgv : gotV (mGet k L') = .tuple #[.string sv, .bool sb] := by unfold gotV; rw [hsv, hsb]
        rw [hgv] at Hrg ⊢
        have Hlen6 := Lib.hid (len_ok w6 _ _ HR6.out.live.rd)
        rw [hp'] at Hlen6
        clear hsv hsb hgv
        go_wp2_with fail
        refine Hrg.out.mono ?_
        rintro e w7 ⟨rfl, rfl⟩
        clear Hrg
        have hv1 : (sv.toList == sv.toList) = true := by simp
        have hv2 : (sb != sb) = false := by simp
        go_wp2_with fail
        refine Hlen6.out.mono ?_
        rintro e w8 ⟨rfl, rfl⟩
        clear Hlen6 hv1 hv2
        have Hpl := Lib.hid HR6.out.want.pl.len
        have hnn : n5 = L'.length := Hpl.out.symm
        subst hnn
        go_wp2
        go_roundw
        case rel => exact ⟨j + 1, x', A5, c5, by omega, by go_num, hp', by rw [Hsn.out]; exact HR6.out.live, by rw [Hsn.out], by rw [Hsn.out]; exact HR6.out.want⟩
        case measure => simp [intOf]; omega
    · obtain rfl : j = n := by omega
      have hall : l.take j = l := List.take_of_length_le (by rw [Hn.out]; omega)
      rw [hall] at HL HW Hlen Hsrt ⊢
      obtain ⟨L, hLe⟩ : ∃ L, l.foldl opDo [] = L := ⟨_, rfl⟩
      rw [hLe] at HL HW Hlen Hsrt ⊢
      clear hall hLe Hl Hn H0 Hg
      have Hf := Lib.hid (refFrom_ok wr _ _ _ L HW.out.pl Hsrt.out (by have := Hlen.out; omega) k)
      go_wp2_with fail
      refine Hf.out.mono ?_
      rintro e w3 ⟨A3, n3, c3, rfl, hpl3, _, hm3⟩
      have Hpl3 := Lib.hid hpl3
      have HW3 := Lib.hid (HW.out.keep hm3)
      have HL3 := Lib.hid (HL.out.keep hm3)
      have Hn3 := Lib.hid hpl3.len
      have hn3 : n3 ≤ 100 := by have := fromLen k L; have := Hlen.out; have := Hn3.out; omega
      obtain ⟨n1, hn1⟩ : ∃ n1, L.length = n1 := ⟨_, rfl⟩
      have Hn1 := Lib.hid hn1
      have hn1' : n1 ≤ 100 := by rw [← hn1]; exact Hlen.out
      rw [hn1] at HW3 ⊢
      have Ht := Lib.hid (tell_all w3 _ L HL3.out.rd Hsrt.out (by have := Hn1.out; omega) 0 m)
      rw [hp, toldL_nat] at Ht
      clear hn1 hpl3 hm3 HW HL Hf Hlen
      rcases Nat.lt_or_ge m n1 with h1 | h1 <;> rcases Nat.lt_or_ge m n3 with h2 | h2
      · have h1 : m < n1 := h1
        have h2 : m < n3 := h2
        obtain ⟨b1, o1, rfl, _⟩ := HW3.out.pl.2.2 (by omega)
        have H20 : Hid (Pl w3 (some ⟨b1, o1, none⟩) m c1 (L.take m)) := HW3.out.pl.take (by omega) (by have := HW3.out.pl.cap; omega)
        have hcap1 : m ≤ c1 := by have := HW3.out.pl.cap; omega
        obtain ⟨b3, o3, rfl, _⟩ := Hpl3.out.2.2 (by omega)
        have H21 : Hid (Pl w3 (some ⟨b3, o3, none⟩) m c3 ((mFrom k L).take m)) := Hpl3.out.take (by omega) (by have := Hpl3.out.cap; omega)
        have hcap3 : m ≤ c3 := by have := Hpl3.out.cap; omega
        go_wp2_with fail
        refine Ht.out.mono ?_
        rintro e w4 ⟨A4, n4, c4, rfl, hpl4, _, hm4⟩
        have HL4 := Lib.hid (HL3.out.keep hm4)
        have H21b := Lib.hid (H21.out.keep hm4)
        have hln := hpl4.len
        rw [List.length_take] at hln
        have Hsame := Lib.hid (same_ok w4 _ _ _ _ _ _ _ _ hpl4 (H20.out.keep hm4) (by have := Hn1.out; omega) (by omega))
        rw [eqP_self] at Hsame
        clear hpl4 hm4 Ht hln H20 H21 HL3
        go_wp2_with fail
        refine Hsame.out.mono ?_
        rintro e w5 ⟨rfl, z, rfl⟩
        have HL5 := Lib.hid (HL4.out.drewN z)
        have H21c : Hid (Pl (w4.drewN z) _ _ _ _) := H21b.out.keep ((Mod.refl _ w4).drewN z)
        clear Hsame HL4 H21b
        obtain ⟨w5, hw5⟩ : ∃ w5, w5 = w4.drewN z := ⟨_, rfl⟩
        rw [← hw5] at HL5 H21c ⊢
        clear hw5
        have Ht := Lib.hid (tell_from w5 _ L HL5.out.rd Hsrt.out (by have := Hn1.out; omega) k m)
        rw [hp, toldL_nat] at Ht
        go_wp2_with fail
        refine Ht.out.mono ?_
        rintro e w6 ⟨A6, n6, c6, rfl, hpl6, _, hm6⟩
        have HL6 := Lib.hid (HL5.out.keep hm6)
        have hln := hpl6.len
        rw [List.length_take] at hln
        have Hsame := Lib.hid (same_ok w6 _ _ _ _ _ _ _ _ hpl6 (H21c.out.keep hm6) (by have := Hn3.out; omega) (by omega))
        rw [eqP_self] at Hsame
        clear hpl6 hm6 Ht hln H21c HL5
        go_wp2_with fail
        refine Hsame.out.mono ?_
        rintro e w7 ⟨rfl, z', rfl⟩
        go_wp2
        go_ret
        exact ⟨rfl, (HL6.out.drewN z').old.below (Nat.le_refl _) (fun _ _ => id)⟩
      · have h1 : m < n1 := h1
        have h2 : ¬ m < n3 := by omega
        obtain ⟨b1, o1, rfl, _⟩ := HW3.out.pl.2.2 (by omega)
        have H20 : Hid (Pl w3 (some ⟨b1, o1, none⟩) m c1 (L.take m)) := HW3.out.pl.take (by omega) (by have := HW3.out.pl.cap; omega)
        have hcap1 : m ≤ c1 := by have := HW3.out.pl.cap; omega
        have H21 : Hid (Pl w3 A3 n3 c3 ((mFrom k L).take m)) := by rw [List.take_of_length_le (by have := Hn3.out; omega)]; exact Hpl3.out
        go_wp2_with fail
        refine Ht.out.mono ?_
        rintro e w4 ⟨A4, n4, c4, rfl, hpl4, _, hm4⟩
        have HL4 := Lib.hid (HL3.out.keep hm4)
        have H21b := Lib.hid (H21.out.keep hm4)
        have hln := hpl4.len
        rw [List.length_take] at hln
        have Hsame := Lib.hid (same_ok w4 _ _ _ _ _ _ _ _ hpl4 (H20.out.keep hm4) (by have := Hn1.out; omega) (by omega))
        rw [eqP_self] at Hsame
        clear hpl4 hm4 Ht hln H20 H21 HL3
        go_wp2_with fail
        refine Hsame.out.mono ?_
        rintro e w5 ⟨rfl, z, rfl⟩
        have HL5 := Lib.hid (HL4.out.drewN z)
        have H21c : Hid (Pl (w4.drewN z) _ _ _ _) := H21b.out.keep ((Mod.refl _ w4).drewN z)
        clear Hsame HL4 H21b
        obtain ⟨w5, hw5⟩ : ∃ w5, w5 = w4.drewN z := ⟨_, rfl⟩
        rw [← hw5] at HL5 H21c ⊢
        clear hw5
        have Ht := Lib.hid (tell_from w5 _ L HL5.out.rd Hsrt.out (by have := Hn1.out; omega) k m)
        rw [hp, toldL_nat] at Ht
        go_wp2_with fail
        refine Ht.out.mono ?_
        rintro e w6 ⟨A6, n6, c6, rfl, hpl6, _, hm6⟩
        have HL6 := Lib.hid (HL5.out.keep hm6)
        have hln := hpl6.len
        rw [List.length_take] at hln
        have Hsame := Lib.hid (same_ok w6 _ _ _ _ _ _ _ _ hpl6 (H21c.out.keep hm6) (by have := Hn3.out; omega) (by omega))
        rw [eqP_self] at Hsame
        clear hpl6 hm6 Ht hln H21c HL5
        go_wp2_with fail
        refine Hsame.out.mono ?_
        rintro e w7 ⟨rfl, z', rfl⟩
        go_wp2
        go_ret
        exact ⟨rfl, (HL6.out.drewN z').old.below (Nat.le_refl _) (fun _ _ => id)⟩
      · have h1 : ¬ m < n1 := by omega
        have h2 : m < n3 := h2
        have H20 : Hid (Pl w3 A1 n1 c1 (L.take m)) := by rw [List.take_of_length_le (by have := Hn1.out; omega)]; exact HW3.out.pl
        obtain ⟨b3, o3, rfl, _⟩ := Hpl3.out.2.2 (by omega)
        have H21 : Hid (Pl w3 (some ⟨b3, o3, none⟩) m c3 ((mFrom k L).take m)) := Hpl3.out.take (by omega) (by have := Hpl3.out.cap; omega)
        have hcap3 : m ≤ c3 := by have := Hpl3.out.cap; omega
        go_wp2_with fail
        refine Ht.out.mono ?_
        rintro e w4 ⟨A4, n4, c4, rfl, hpl4, _, hm4⟩
        have HL4 := Lib.hid (HL3.out.keep hm4)
        have H21b := Lib.hid (H21.out.keep hm4)
        have hln := hpl4.len
        rw [List.length_take] at hln
        have Hsame := Lib.hid (same_ok w4 _ _ _ _ _ _ _ _ hpl4 (H20.out.keep hm4) (by have := Hn1.out; omega) (by omega))
        rw [eqP_self] at Hsame
        clear hpl4 hm4 Ht hln H20 H21 HL3
        go_wp2_with fail
        refine Hsame.out.mono ?_
        rintro e w5 ⟨rfl, z, rfl⟩
        have HL5 := Lib.hid (HL4.out.drewN z)
        have H21c : Hid (Pl (w4.drewN z) _ _ _ _) := H21b.out.keep ((Mod.refl _ w4).drewN z)
        clear Hsame HL4 H21b
        obtain ⟨w5, hw5⟩ : ∃ w5, w5 = w4.drewN z := ⟨_, rfl⟩
        rw [← hw5] at HL5 H21c ⊢
        clear hw5
        have Ht := Lib.hid (tell_from w5 _ L HL5.out.rd Hsrt.out (by have := Hn1.out; omega) k m)
        rw [hp, toldL_nat] at Ht
        go_wp2_with fail
        refine Ht.out.mono ?_
        rintro e w6 ⟨A6, n6, c6, rfl, hpl6, _, hm6⟩
        have HL6 := Lib.hid (HL5.out.keep hm6)
        have hln := hpl6.len
        rw [List.length_take] at hln
        have Hsame := Lib.hid (same_ok w6 _ _ _ _ _ _ _ _ hpl6 (H21c.out.keep hm6) (by have := Hn3.out; omega) (by omega))
        rw [eqP_self] at Hsame
        clear hpl6 hm6 Ht hln H21c HL5
        go_wp2_with fail
        refine Hsame.out.mono ?_
        rintro e w7 ⟨rfl, z', rfl⟩
        go_wp2
        go_ret
        exact ⟨rfl, (HL6.out.drewN z').old.below (Nat.le_refl _) (fun _ _ => id)⟩
      · have h1 : ¬ m < n1 := by omega
        have h2 : ¬ m < n3 := by omega
        have H20 : Hid (Pl w3 A1 n1 c1 (L.take m)) := by rw [List.take_of_length_le (by have := Hn1.out; omega)]; exact HW3.out.pl
        have H21 : Hid (Pl w3 A3 n3 c3 ((mFrom k L).take m)) := by rw [List.take_of_length_le (by have := Hn3.out; omega)]; exact Hpl3.out
        go_wp2_with fail
        refine Ht.out.mono ?_
        rintro e w4 ⟨A4, n4, c4, rfl, hpl4, _, hm4⟩
        have HL4 := Lib.hid (HL3.out.keep hm4)
        have H21b := Lib.hid (H21.out.keep hm4)
        have hln := hpl4.len
        rw [List.length_take] at hln
        have Hsame := Lib.hid (same_ok w4 _ _ _ _ _ _ _ _ hpl4 (H20.out.keep hm4) (by have := Hn1.out; omega) (by omega))
        rw [eqP_self] at Hsame
        clear hpl4 hm4 Ht hln H20 H21 HL3
        go_wp2_with fail
        refine Hsame.out.mono ?_
        rintro e w5 ⟨rfl, z, rfl⟩
        have HL5 := Lib.hid (HL4.out.drewN z)
        have H21c : Hid (Pl (w4.drewN z) _ _ _ _) := H21b.out.keep ((Mod.refl _ w4).drewN z)
        clear Hsame HL4 H21b
        obtain ⟨w5, hw5⟩ : ∃ w5, w5 = w4.drewN z := ⟨_, rfl⟩
        rw [← hw5] at HL5 H21c ⊢
        clear hw5
        have Ht := Lib.hid (tell_from w5 _ L HL5.out.rd Hsrt.out (by have := Hn1.out; omega) k m)
        rw [hp, toldL_nat] at Ht
        go_wp2_with fail
        refine Ht.out.mono ?_
        rintro e w6 ⟨A6, n6, c6, rfl, hpl6, _, hm6⟩
        have HL6 := Lib.hid (HL5.out.keep hm6)
        have hln := hpl6.len
        rw [List.length_take] at hln
        have Hsame := Lib.hid (same_ok w6 _ _ _ _ _ _ _ _ hpl6 (H21c.out.keep hm6) (by have := Hn3.out; omega) (by omega))
        rw [eqP_self] at Hsame
        clear hpl6 hm6 Ht hln H21c HL5
        go_wp2_with fail
        refine Hsame.out.mono ?_
        rintro e w7 ⟨rfl, z', rfl⟩
        go_wp2
        go_ret
        exact ⟨rfl, (HL6.out.drewN z').old.below (Nat.le_refl _) (fun _ _ => id)⟩
end Go.Proofs.Ytallokaboldflaa
