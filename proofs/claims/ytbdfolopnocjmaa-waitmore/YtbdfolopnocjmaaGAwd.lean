/-
  wait.graph.awaited.
-/
import Derived.Test.YtbdfolopnocjmaaGCnt
namespace Go.Proofs.Ytbdfolopnocjmaa
open Go Go.RowKit

theorem zeroInt (w : World) : (zeroValue 3).run Try.prog w = .ok (.int .i64 0) w := by kernel_rfl

set_option maxRecDepth 100000 in
set_option maxHeartbeats 3200000 in
theorem awaited_ok (w : World) (b m : Nat) (f : Int → Option Value) (l : List Wp) (hg : Gr w b m f l) (he : (edg l).length ≤ 1000) (hk : ∀ x y, (x, y) ∈ edg l → I64 y) :
    Calls Try.prog 19 #[.map (some b)] w fun e w' => ∃ b', e = .returned (.map (some b')) ∧ Mp w' b' (tgts l).length (cnf (cin l (fun _ => true))) ∧ w.heap.size ≤ b' ∧ Mod (fun _ => False) w w' := by
  have hmm := @run_makeMap Try.prog
  obtain ⟨V, hV⟩ : ∃ V, w.alloc (.map #[] 0) = V := ⟨_, rfl⟩
  have hmV : Mod (fun _ => False) w V := by rw [← hV]; exact (Mod.refl _ w).alloc _
  have hsV : V.heap.size = w.heap.size + 1 := by rw [← hV]; simp
  have hmp0 : Mp V w.heap.size 0 (fun _ => none) := by rw [← hV]; exact mp_made w
  have HG := Lib.hid hg
  have HGV := Lib.hid (hg.keep hmV)
  have HK := Lib.hid hk
  have hblt := hg.mp.lt
  have HmV := Lib.hid hmV
  have HP0 := Lib.hid hmp0
  have HsV := Lib.hid hsV
  have Hbl := Lib.hid hblt
  clear hg hk hmV hmp0 hsV hblt
  go_enter Try.func19, Try.ntmps19
  go_wp2_with (first
    | (at_range; refine wpList_range_mp (b := b) rfl _ rfl Try.underlying35 rfl HGV.out.mp ?_; intro w0 cnt0 hr0 hm0 hs0; have HR0 := Lib.hid hr0; have Hm0 := Lib.hid hm0; clear hr0 hm0 hs0)
    | go_in)
  go_frame
  rw [HsV.out] at HR0 ⊢
  clear hV
  go_loopw [11] (fun _ wr => ∃ (left : Int → Bool) (cnt : Nat), Mr wr b (w.heap.size + 1) m f left cnt ∧ Mp wr w.heap.size (tgts l).length (cnf (cin l (fun a => !left a))) ∧ Mod (fun k => w.heap.size ≤ k) w wr)
    (fun _ wr => wr.rangeLeft b (w.heap.size + 1))
  case atStart =>
    refine ⟨_, cnt0, HR0.out, ?_, (HmV.out.trans Hm0.out (fun _ _ h => h)).mono (fun _ _ h => h.elim)⟩
    have h1 := (HP0.out.keep Hm0.out).mono (Nat.zero_le (tgts l).length)
    have h2 : (fun _ => none) = cnf (cin l (fun a => !(f a).isSome)) := by
      funext a
      symm
      rw [cnf_none, cin_zero]
      intro x hx
      have hxk := adj_key hx
      obtain ⟨A, k, c, e, _⟩ := HG.out.row x hxk
      rw [e]; rfl
    rw [← h2]
    exact h1
  case round =>
    obtain ⟨left, cnt, hr, hp, hm⟩ := hrel
    have HR := Lib.hid hr
    have HP := Lib.hid hp
    have HM := Lib.hid hm
    clear hr hp hm HR0 Hm0
    go_wp2_with (first
      | (at_next; refine wpList_next_mp rfl _ rfl rfl HR.out ?_ ?_)
      | go_in)
    · intro hl
      have HE : Hid (Mp wr w.heap.size (tgts l).length (cnf (cin l (fun _ => true)))) := by
        have := HP.out
        rw [cnf_all (fun a => cin_all (q := fun _ => true) (fun x => by rw [hl x]; rfl) a)] at this
        exact this
      clear hl
      go_wp2
      go_ret
      exact ⟨_, rfl, HE.out, Nat.le_refl _, ⟨HM.out.os, HM.out.tape, HM.out.output, HM.out.size, fun i hi _ => HM.out.block i hi (by omega)⟩⟩
    · intro x v w1 cnt1 hx hlx hfx hr1 hlt hm1 hs1 hen
      have hM1 : Mod (fun k => w.heap.size ≤ k) w w1 := HM.out.trans hm1 (fun i _ e => by omega)
      have hkx : x ∈ keys l := Classical.byContradiction fun hn => by rw [HG.out.no x hn] at hfx; cases hfx
      obtain ⟨A, k, c, e1, hil⟩ := HG.out.row x hkx
      rw [hfx] at e1
      injection e1 with e1
      subst e1
      have HIl := Lib.hid hil
      have hP1 : Mp w1 w.heap.size (tgts l).length (cnf (cin l (fun a => !left a))) := HP.out.mod hm1 (by omega)
      have hkl : k ≤ 1000 := by have := hil.len; have := adj_len l x; omega
      have HR1 := Lib.hid hr1
      have HM1 := Lib.hid hM1
      have HP1 := Lib.hid hP1
      have Hlx := Lib.hid hlx
      have Hcnt := Lib.hid hlt
      clear hfx hr1 hm1 hs1 hil hP1 hM1 hlx hkx HM HP hlt hx
      go_wp2
      go_loopw [17] (fun q wq => ∃ j : Nat, j ≤ k ∧ q = .int .i64 j ∧ Mr wq b (w.heap.size + 1) m f (fun a => left a && !(a == x)) cnt1 ∧ Mp wq w.heap.size (tgts l).length (cnf (fun y => cin l (fun a => !left a) y + ((adj l x).take j).count y)) ∧ Mod (fun k => w.heap.size ≤ k) w wq)
        (fun q _ => k - (intOf q).toNat)
      case atStart =>
        refine ⟨0, Nat.zero_le _, rfl, HR1.out, ?_, HM1.out⟩
        rw [cnf_all (d := cin l (fun a => !left a)) (fun a => by simp)]
        exact HP1.out
      case round =>
        obtain ⟨j, hj, rfl, hr2, hp2, hm2⟩ := hrel
        have HR2 := Lib.hid hr2
        have HP2 := Lib.hid hp2
        have HM2 := Lib.hid hm2
        clear hr2 hp2 hm2 HR1 HP1 HM1
        by_cases hlt : j < k
        · obtain ⟨B0, o, rfl, hc⟩ := (HIl.out.old HM2.out).2.2 (by omega)
          have hjl : j < (adj l x).length := by have := HIl.out.len; omega
          obtain ⟨t, ht⟩ : ∃ t, (adj l x)[j]? = some t := ⟨_, List.getElem?_eq_getElem hjl⟩
          have s0 := hc j t ht
          have hti : I64 t := HK.out x t (mem_adj.1 (List.mem_of_getElem? ht))
          have hlk := HP2.out.look (t := 40) Try.underlying40 (zeroInt _) hti
          rw [cnf_get] at hlk
          obtain ⟨q, hq⟩ : ∃ q : Int, (((cin l (fun a => !left a) t + ((adj l x).take j).count t : Nat)) : Int) = q := ⟨_, rfl⟩
          have hq0 : 0 ≤ q := by omega
          have hq1 : q ≤ 2000 := by have h1 := cin_le l (fun a => !left a) t; have h2 := count_le_edg l x t j; omega
          rw [hq] at hlk
          have Hq := Lib.hid hq
          have Ht := Lib.hid ht
          have Hti := Lib.hid hti
          clear hc hjl ht hq hti
          have hml : (tgts l).length < maxLen := by rw [tgts_len]; unfold maxLen; omega
          go_wp2_with (first
            | (at_mapUpdate; refine wpList_store_mp (val := .int .i64 (q + 1)) rfl _ _ _ rfl Try.underlying40 rfl HP2.out hml rfl rfl Hti.out ?_; intro w3 h3 h4 h5; have H3 := Lib.hid h3; have H4 := Lib.hid h4; clear h3 h4 h5)
            | go_in)
          go_roundw
          case rel =>
            refine ⟨j + 1, by omega, by go_num, HR2.out.mod H4.out (by have := Hbl.out; omega) (by omega), ?_, HM2.out.trans H4.out (fun i _ e => by omega)⟩
            have h6 := H3.out
            rw [← Hq.out, cnf_up (fun y => cin l (fun a => !left a) y + ((adj l x).take j).count y) t] at h6
            rw [cnf_all (d := fun y => cin l (fun a => !left a) y + ((adj l x).take (j + 1)).count y) (fun a => by rw [count_take_succ Ht.out]; omega)] at h6
            refine h6.few (tgts l) (fun a v hv => ?_)
            have h7 : ¬ (cnf (fun y => cin l (fun a => !left a) y + ((adj l x).take (j + 1)).count y) a = none) := by rw [hv]; intro h; cases h
            rw [cnf_none] at h7
            by_cases h8 : cin l (fun a => !left a) a = 0
            · have h9 : 0 < ((adj l x).take (j + 1)).count a := by omega
              exact mem_tgts.2 ⟨x, mem_adj.1 (List.mem_of_mem_take (List.count_pos_iff.1 h9))⟩
            · exact cin_tgts h8
          case measure => simp [intOf]; omega
        · obtain rfl : j = k := by omega
          go_wp2
          go_roundw
          case rel =>
            refine ⟨_, cnt1, HR2.out, ?_, HM2.out⟩
            have h6 := HP2.out
            rw [List.take_of_length_le (by have := HIl.out.len; omega)] at h6
            rw [cnf_all (d := cin l (fun a => !(left a && !(a == x)))) (fun a => (cin_more (by rw [Hlx.out]; rfl) (fun y => by cases left y <;> cases hxy : (y == x) <;> simp) a).symm)] at h6
            exact h6
          case measure => rw [HR2.out.left_, HR.out.left_]; exact Hcnt.out
end Go.Proofs.Ytbdfolopnocjmaa
