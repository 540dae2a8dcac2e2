/-
  wait.graph.alone.
-/
import Derived.Test.YtbdfolopnocjmaaGAwd
namespace Go.Proofs.Ytbdfolopnocjmaa
open Go Go.RowKit

set_option maxRecDepth 100000 in
set_option maxHeartbeats 3200000 in
theorem alone_ok (w : World) (b m ba N : Nat) (f : Int → Option Value) (c : Int → Nat) (l : List Wp) (hg : Gr w b m f l) (hl : l.length ≤ 1000) (hp : Mp w ba N (cnf c)) (hc : ∀ a, c a ≤ 1000) :
    Calls Try.prog 20 #[.map (some b), .map (some ba)] w fun e w' => ∃ A al c', e = .returned (.slice A al.length c') ∧ OwI w' w.heap.size A al.length c' al ∧ al.Nodup ∧ (∀ a, a ∈ al ↔ a ∈ keys l ∧ c a = 0) ∧ Mod (fun _ => False) w w' := by
  have HG := Lib.hid hg
  have HP := Lib.hid hp
  have HC := Lib.hid hc
  have Hbl := Lib.hid hg.mp.lt
  have Hbal := Lib.hid hp.lt
  clear hg hp hc
  go_enter Try.func20, Try.ntmps20
  go_wp2_with (first
    | (at_range; refine wpList_range_mp (b := b) rfl _ rfl Try.underlying35 rfl HG.out.mp ?_; intro w0 cnt0 hr0 hm0 hs0; have HR0 := Lib.hid hr0; have Hm0 := Lib.hid hm0; have Hs0 := Lib.hid hs0; clear hr0 hm0 hs0)
    | go_in)
  go_frame
  go_loopw [5, 9] (fun s _ wr => ∃ (left : Int → Bool) (cnt : Nat) (A : Option Addr) (al : List Int) (c' : Nat), s = .slice A al.length c' ∧ Mr wr b w.heap.size m f left cnt ∧ OwI wr (w.heap.size + 1) A al.length c' al ∧ al.Nodup ∧ (∀ a, a ∈ al ↔ a ∈ keys l ∧ left a = false ∧ c a = 0) ∧ Mod (fun k => w.heap.size ≤ k) w wr ∧ w.heap.size + 1 ≤ wr.heap.size)
    (fun _ _ wr => wr.rangeLeft b w.heap.size)
  case atStart =>
    refine ⟨_, cnt0, none, [], 0, rfl, HR0.out, OwI.nil _ _, List.nodup_nil, fun a => ⟨fun h => by simp at h, fun h => ?_⟩, Hm0.out.mono (fun _ _ h => h.elim), by rw [Hs0.out]; exact Nat.le_refl _⟩
    obtain ⟨h1, h2, _⟩ := h
    obtain ⟨A, k, c, e, _⟩ := HG.out.row a h1
    rw [e] at h2
    cases h2
  case round =>
    obtain ⟨left, cnt, A, al, c', rfl, hr, ho, hn, ha, hm, hs⟩ := hrel
    have HR := Lib.hid hr
    have HO := Lib.hid ho
    have HN := Lib.hid hn
    have HA := Lib.hid ha
    have HM := Lib.hid hm
    have HS := Lib.hid hs
    have Hal : Hid (al.length ≤ 1000) := by
      show _ ≤ _
      have := nodup_len al (keys l) hn (fun x hx => ((ha x).1 hx).1)
      have e : (keys l).length = l.length := by simp [keys]
      omega
    clear hr ho hn ha hm hs HR0 Hm0 Hs0
    go_wp2_with (first
      | (at_next; refine wpList_next_mp rfl _ rfl rfl HR.out ?_ ?_)
      | go_in)
    · intro hl
      have HA2 : Hid (∀ a, a ∈ al ↔ a ∈ keys l ∧ c a = 0) := fun a => by rw [HA.out a, hl a]; simp
      clear hl HA
      go_wp2
      go_ret
      exact ⟨A, al, c', rfl, OwV.rebase HO.out (fun k e => by have := (OwV.lt HO.out k e).1; omega), HN.out, HA2.out, ⟨HM.out.os, HM.out.tape, HM.out.output, HM.out.size, fun i hi _ => HM.out.block i hi (by omega)⟩⟩
    · intro x v w1 cnt1 hx hlx hfx hr1 hlt hm1 hs1 hen
      have hM1 : Mod (fun k => w.heap.size ≤ k) w w1 := HM.out.trans hm1 (fun i _ e => by omega)
      have hkx : x ∈ keys l := Classical.byContradiction fun hn => by rw [HG.out.no x hn] at hfx; cases hfx
      have ho1 : OwI w1 (w.heap.size + 1) A al.length c' al := OwV.mod HO.out hm1 (fun k e => by have := (OwV.lt HO.out k e).1; omega)
      have hlk := (HP.out.mod hM1 (by have := Hbal.out; omega)).look (t := 40) Try.underlying40 (zeroInt _) hx
      rw [cnf_get] at hlk
      have HR1 := Lib.hid hr1
      have HM1 := Lib.hid hM1
      have HO1 := Lib.hid ho1
      have Hlx := Lib.hid hlx
      have Hkx := Lib.hid hkx
      have Hcnt := Lib.hid hlt
      have HS1 : Hid (w.heap.size + 1 ≤ w1.heap.size) := by show _ ≤ _; rw [hs1]; exact HS.out
      clear hfx hr1 hm1 hs1 ho1 hM1 hlx hkx HM HO hlt hx HS
      by_cases h0 : c x = 0
      · rw [h0] at hlk
        have HO2 := Lib.hid (HO1.out.keep ((Mod.refl (fun _ => False) w1).alloc (.cells #[.int .i64 x] 3)))
        have Hsrc := Lib.hid (Src.one w1 (.int .i64 x) 3 rfl)
        have HR2 := Lib.hid (HR1.out.mod ((Mod.refl (fun _ => False) w1).alloc (.cells #[.int .i64 x] 3)) id id)
        have HM2 := Lib.hid (HM1.out.alloc (.cells #[.int .i64 x] 3))
        have hbs : w.heap.size + 1 ≤ (w1.alloc (.cells #[.int .i64 x] 3)).heap.size := by rw [World.size_alloc]; have := HS1.out; omega
        have Hbs := Lib.hid hbs
        have H0 := Lib.hid h0
        clear h0 hbs
        go_wp2_with (first
          | (at_builtin; refine wpList_app (.tmp 17) (.tmp 19) intElem rfl rfl rfl rfl HO2.out Hsrc.out (by have := Hal.out; omega) (by have := Hal.out; unfold maxLen; omega) Hbs.out ?_; intro A' c2 w3 h1 h2 h3; have H1 := Lib.hid h1; have H2 := Lib.hid h2; clear h1 h2 h3)
          | go_in)
        go_roundw
        case rel =>
          have hlow : ∀ i, blkOf A = some i → w.heap.size + 1 ≤ i := fun i e => (OwV.lt HO2.out i e).1
          have hmA := grown_mod H2.out
          have hxn : x ∉ al := fun h => by have := ((HA.out x).1 h).2.1; rw [Hlx.out] at this; cases this
          refine ⟨_, cnt1, A', al ++ [x], c2, by simp, HR2.out.mod hmA (fun e => by have := hlow _ e; have := Hbl.out; omega) (fun e => by have := hlow _ e; omega), ?_, ?_, fun a => ?_, HM2.out.trans hmA (fun i _ e => by have := hlow _ e; omega), Nat.le_trans Hbs.out hmA.size⟩
          · have := H1.out
            rw [List.length_append]
            unfold OwI
            rw [ivs_append]
            exact this
          · exact List.nodup_append.2 ⟨HN.out, by simp, fun y hy z hz => by rw [List.mem_singleton.1 hz]; exact fun e => hxn (by rw [← e]; exact hy)⟩
          · rw [List.mem_append, HA.out a, List.mem_singleton]
            by_cases hax : a = x
            · subst hax
              simp [Hkx.out, H0.out]
            · simp [hax]
        case measure => rw [(HR2.out.mod (grown_mod H2.out) (fun e => by have := (OwV.lt HO2.out _ e).1; have := Hbl.out; omega) (fun e => by have := (OwV.lt HO2.out _ e).1; omega)).left_, HR.out.left_]; exact Hcnt.out
      · have hne : (((c x : Nat) : Int) == 0) = false := by simp; exact h0
        have H0 := Lib.hid h0
        clear h0
        go_wp2
        go_roundw
        case rel =>
          refine ⟨_, cnt1, A, al, c', rfl, HR1.out, HO1.out, HN.out, fun a => ?_, HM1.out, HS1.out⟩
          rw [HA.out a]
          by_cases hax : a = x
          · subst hax
            simp [H0.out]
          · simp [hax]
        case measure => rw [HR1.out.left_, HR.out.left_]; exact Hcnt.out
end Go.Proofs.Ytbdfolopnocjmaa
