/-
  Package lock: Drop, Holds.
-/
import Derived.Test.YtpkjafadhnecfaaKFind
namespace Go.Proofs.Ytpkjafadhnecfaa
open Go Go.RowKit

theorem Ow3.rebase3 {w : World} {base base' : Nat} {e : TypeId} {A : Option Addr} {n c : Nat} {l : List Tr} (h : Ow3 w base e A n c l) (hb : ∀ k, blkOf A = some k → base' ≤ k) : Ow3 w base' e A n c l := by
  refine ⟨h.1, ?_⟩
  rcases h.2 with hn | ⟨g, cap, cur, hv, hbg, rest⟩
  · exact .inl hn
  · refine .inr ⟨g, cap, cur, hv, ?_, rest⟩
    injection hv with hA
    subst hA
    exact hb g rfl
theorem FdAns.past {w w1 w' : World} {l : List Tr} {e : Ending} (h : FdAns w1 w' l e) (hm : Mod (fun _ => False) w w1) : FdAns w w' l e := by
  obtain ⟨A, c, he, ho, hm'⟩ := h
  exact ⟨A, c, he, Ow3.rebase3 ho (fun k hk => by have := (ho.lt k hk).1; have := hm.size; omega), hm.trans hm' (fun _ _ h => h)⟩

set_option maxRecDepth 100000 in
theorem drop_ok (w : World) (A0 : Option Addr) (n c0 : Nat) (l : List Tr) (h : Tl w A0 n c0 l) (hn : n ≤ 1000) (tx : Int) :
    Calls Try.prog 17 #[.slice A0 n c0, .int .i64 tx] w fun e w' => FdAns w w' (l.filter (drF tx)) e := by
  obtain ⟨w1, hw1⟩ : ∃ w1, w.alloc (.cells #[.int .i64 tx] 3) = w1 := ⟨_, rfl⟩
  have hm1 : Mod (fun _ => False) w w1 := by rw [← hw1]; exact (Mod.refl _ w).alloc _
  have b1 : IB w1 w.heap.size tx := by rw [← hw1]; exact IB.new w tx 3
  have HF := Lib.hid (find_Drop w1 A0 n c0 l (h.keep hm1) hn w.heap.size (drF tx) (fun W hW s => drop1_ok W s tx _ (b1.keep hW)))
  have HM1 := Lib.hid hm1
  clear hm1 b1 h
  generalize l.filter (drF tx) = fs at *
  go_enter Try.func17, Try.ntmps17
  go_wp2_with fail
  refine HF.out.mono ?_
  rintro e w2 hF
  obtain ⟨F, cF, rfl, hF, hm2⟩ := hF.past HM1.out
  have HFo := Lib.hid hF
  have HM2 := Lib.hid hm2
  clear hw1 HF HM1 hF hm2
  go_wp2
  go_ret
  exact ⟨F, cF, rfl, HFo.out, HM2.out⟩

set_option maxRecDepth 100000 in
set_option maxHeartbeats 1600000 in
theorem holds_ok (w : World) (A0 : Option Addr) (n c0 : Nat) (l : List Tr) (h : Tl w A0 n c0 l) (hn : n ≤ 1000) (tx res : Int) :
    Calls Try.prog 19 #[.slice A0 n c0, .int .i64 tx, .int .i64 res] w fun e w' => e = .returned (.int .i64 ((hld l tx res : Nat) : Int)) ∧ Mod (fun _ => False) w w' := by
  have HX := Lib.hid h
  have HF0 := Lib.hid (fun W (hW : Mod (fun _ => False) w W) g k (hg : IB W g tx) (hk : IB W k res) => find_by W A0 n c0 l (h.keep hW) hn g k (owF tx res) (fun V hV s => by1_ok V s tx res g k (hg.keep hV) (hk.keep hV)))
  have Hlen : Hid ((l.filter (owF tx res)).length ≤ n) := by
    show _ ≤ _
    have := List.length_filter_le (owF tx res) l
    have := h.len
    omega
  have Hv : Hid (hld l tx res = orm (l.filter (owF tx res))) := rfl
  rw [Hv.out]
  obtain ⟨r, hr⟩ : ∃ r, orm (l.filter (owF tx res)) = r := ⟨_, rfl⟩
  rw [hr]
  have Hr0 := Lib.hid hr
  clear h Hv hr
  generalize l.filter (owF tx res) = fs at *
  unfold FdAns at HF0
  go_enter Try.func19, Try.ntmps19
  go_wp2_with fail
  refine (by_ok _ tx res).mono ?_
  rintro e w1 ⟨g, k, rfl, hg, hk, hm1⟩
  have HF := Lib.hid (HF0.out w1 hm1 g k hg hk)
  have HM1 := Lib.hid hm1
  clear HF0 hg hk hm1
  go_wp2_with fail
  refine HF.out.mono ?_
  rintro e w2 ⟨F, cF, rfl, hF, hm2⟩
  have HFl := Lib.hid hF.tl
  have HM2 := Lib.hid (HM1.out.trans hm2 (fun _ _ h => h))
  have hL := Hlen.out
  clear HF HM1 hF hm2
  go_wp2
  go_loopw [7, 16] (fun s i wr => ∃ (j : Nat) (z : Int), j ≤ fs.length ∧ i = .int .i64 j ∧ s = .int .i64 z ∧ m4 z = orm (fs.take j) ∧ Mod (fun _ => False) w2 wr) (fun _ i _ => fs.length - (intOf i).toNat)
  case atStart => exact ⟨0, 0, Nat.zero_le _, rfl, rfl, by simp [m4, orm], Mod.refl _ _⟩
  case round =>
    obtain ⟨j, z, hj, rfl, rfl, hz, hr⟩ := hrel
    have Hr := Lib.hid hr
    have Hz := Lib.hid hz
    clear hr hz
    by_cases hlt : j < fs.length
    · obtain ⟨b, o, hS, hc⟩ := (HFl.out.keep Hr.out).cells (by omega)
      rw [hS]
      obtain ⟨s0, s1, s2⟩ := hc j hlt
      have Hs : Hid (orm (fs.take (j + 1)) = orm (fs.take j) ||| m4 (atS fs j).c) := by
        show _ = _
        rw [← List.take_append_getElem hlt, ← atS_at hlt, orm_append, orm_one]
      generalize hT : atS fs j = s at *
      clear hT hc hS
      have Hr2 := Lib.hid (Hr.out.alloc (.cells #[.int .i64 s.a, .int .i64 s.b, .int .i64 s.c] 37))
      go_wp2
      clear s0 s1 s2
      go_roundw
      case rel => exact ⟨j + 1, _, by omega, by go_num, rfl, by rw [m4_or, Hz.out, Hs.out], Hr2.out⟩
      case measure => simp [intOf]; omega
    · obtain rfl : j = fs.length := by omega
      have Hf := Lib.hid (and_15 z)
      go_wp2
      go_ret
      refine ⟨?_, HM2.out.trans Hr.out (fun _ _ h => h)⟩
      have hz := Hz.out
      rw [List.take_length, Hr0.out] at hz
      rw [← hz, ← Hf.out]
      rfl
end Go.Proofs.Ytpkjafadhnecfaa
