/-
  A map in a law's own memory: every call in one form. The chapter's example (awake).
-/
import Derived.Test.YtallokaboldflaaRefs
namespace Go.Proofs.Ytallokaboldflaa
open Go Go.RowKit

/-- The map x, in memory laid since w0, holds l; nothing that lay at w0 has turned. -/
structure Live (w0 w : World) (x : MV) (l : List Pr) : Prop where
  at_ : x.At w w0.heap.size
  l : x.l = l
  old : Mod (fun _ => False) w0 w
section
variable {w0 w w' : World} {x x' : MV} {l l' : List Pr}
theorem Live.keep (h : Live w0 w x l) (hm : Mod (fun _ => False) w w') : Live w0 w' x l := ⟨h.at_.keep hm, h.l, h.old.trans hm (fun _ _ h => h)⟩
theorem Live.apart {F : Nat → Prop} (h : Live w0 w x l) (hm : Mod F w w') (hF : ∀ k, x.M k → ¬ F k) (ho : ∀ k, k < w0.heap.size → ¬ F k) : Live w0 w' x l :=
  ⟨h.at_.mod hm hF, h.l, h.old.trans hm (fun k hk e => ho k hk e)⟩
theorem Live.rd (h : Live w0 w x l) : Rd w (some ⟨x.p, 0, none⟩) l := by rw [← h.l]; exact h.at_.rd
theorem Live.srt (h : Live w0 w x l) : Srt l := by rw [← h.l]; exact h.at_.srt
theorem Live.low (h : Live w0 w x l) {k : Nat} (hk : x.M k) : w0.heap.size ≤ k ∧ k < w.heap.size := h.at_.M_lt hk
theorem Live.kept (h : Live w0 w x l) (hk : Kept w w' w0.heap.size x x' l') : Live w0 w' x' l' :=
  ⟨hk.at_, hk.l, h.old.trans hk.mod (fun k hl e => by have := (h.low e).1; omega)⟩
theorem live_new (w0 w : World) (h : Mod (fun _ => False) w0 w) : Live w0 (w.alloc (.cells #[.slice none 0 0] 27)) ⟨w.heap.size, none, 0, []⟩ [] :=
  ⟨⟨heap_alloc_new w _, OwN.nil _ _ _ _, h.size, by simp [blkOf], List.Pairwise.nil⟩, rfl, h.alloc _⟩
end
theorem live_set (w0 w : World) (x : MV) (l : List Pr) (h : Live w0 w x l) (hl : l.length ≤ 900) (k : Int) (v : ByteArray) :
    Calls Try.prog 12 #[.pointer (some ⟨x.p, 0, none⟩), .int .i64 k, .string v] w fun e w' =>
      e = .returned (.bool (!(mGet k l).isSome)) ∧ ∃ x', x'.p = x.p ∧ Live w0 w' x' (mSet k v l) ∧ Mod x.M w w' ∧ ∀ k, x'.M k → x.M k ∨ w.heap.size ≤ k := by
  have hc := set_ok w w0.heap.size x h.at_ (by rw [h.l]; exact hl) h.old.size k v
  rw [h.l] at hc
  refine hc.mono ?_
  rintro e w' ⟨rfl, x', hk⟩
  exact ⟨rfl, x', hk.p, h.kept hk, hk.mod, hk.new⟩
theorem live_del (w0 w : World) (x : MV) (l : List Pr) (h : Live w0 w x l) (hl : l.length ≤ 900) (k : Int) :
    Calls Try.prog 10 #[.pointer (some ⟨x.p, 0, none⟩), .int .i64 k] w fun e w' =>
      e = .returned (.bool (mGet k l).isSome) ∧ ∃ x', x'.p = x.p ∧ Live w0 w' x' (mDel k l) ∧ Mod x.M w w' ∧ ∀ k, x'.M k → x.M k ∨ w.heap.size ≤ k := by
  have hc := del_ok w w0.heap.size x h.at_ (by rw [h.l]; exact hl) k
  rw [h.l] at hc
  refine hc.mono ?_
  rintro e w' ⟨rfl, x', hk⟩
  exact ⟨rfl, x', hk.p, h.kept hk, hk.mod, hk.new⟩
theorem tell_all (w : World) (P : Option Addr) (L : List Pr) (hR : Rd w P L) (hs : Srt L) (hL : L.length ≤ 900) (k most : Int) :
    Calls Try.prog 18 #[.pointer P, .bool true, .int .i64 k, .int .i64 most] w fun e w' => NewPl w w' e (toldL most L) := by
  by_cases h : most = 0
  · subst h
    exact told_none w P true k
  · exact told_all w P L hR hs hL k most h
theorem tell_from (w : World) (P : Option Addr) (L : List Pr) (hR : Rd w P L) (hs : Srt L) (hL : L.length ≤ 900) (k most : Int) :
    Calls Try.prog 18 #[.pointer P, .bool false, .int .i64 k, .int .i64 most] w fun e w' => NewPl w w' e (toldL most (mFrom k L)) := by
  by_cases h : most = 0
  · subst h
    exact told_none w P false k
  · exact told_from w P L hR hs hL k most h
theorem toldL_neg (L : List Pr) : toldL (-1) L = L := rfl

/-- Every pair: told to the end. -/
theorem live_all (w0 w : World) (x : MV) (l : List Pr) (h : Live w0 w x l) (hl : l.length ≤ 900) (k : Int) :
    Calls Try.prog 18 #[.pointer (some ⟨x.p, 0, none⟩), .bool true, .int .i64 k, .int .i64 (-1)] w fun e w' => ∃ A c, e = .returned (.slice A l.length c) ∧ Pl w' A l.length c l ∧ (∀ k, blkOf A = some k → w.heap.size ≤ k) ∧ Mod (fun _ => False) w w' := by
  refine (tell_all w _ l h.rd h.srt hl k (-1)).mono ?_
  rintro e w' ⟨A, n, c, rfl, hp, hn, hm⟩
  rw [toldL_neg] at hp
  obtain rfl := hp.len
  exact ⟨A, c, rfl, hp, hn, hm⟩
theorem live_from (w0 w : World) (x : MV) (l : List Pr) (h : Live w0 w x l) (hl : l.length ≤ 900) (k : Int) :
    Calls Try.prog 18 #[.pointer (some ⟨x.p, 0, none⟩), .bool false, .int .i64 k, .int .i64 (-1)] w fun e w' => ∃ A c, e = .returned (.slice A (mFrom k l).length c) ∧ Pl w' A (mFrom k l).length c (mFrom k l) ∧ (∀ k, blkOf A = some k → w.heap.size ≤ k) ∧ Mod (fun _ => False) w w' := by
  refine (tell_from w _ l h.rd h.srt hl k (-1)).mono ?_
  rintro e w' ⟨A, n, c, rfl, hp, hn, hm⟩
  rw [toldL_neg] at hp
  obtain rfl := hp.len
  exact ⟨A, c, rfl, hp, hn, hm⟩

def ba (c : UInt8) : ByteArray := { data := #[c] }
set_option maxRecDepth 100000 in
set_option maxHeartbeats 1000000 in
theorem awake_ok (w : World) : Calls Try.prog 8 #[] w fun e w' => e = .returned (.bool true) ∧ Mod (fun _ => False) w w' := by
  have hL := live_new w w (Mod.refl _ w)
  have Hs := Lib.hid (live_set w _ _ [] hL (by simp) 3 (ba 97))
  rw [show mGet 3 ([] : List Pr) = none from rfl] at Hs
  clear hL
  go_enter Try.func8, Try.ntmps8
  go_wp2_with fail
  refine Hs.out.mono ?_
  rintro e w1 ⟨rfl, x1, hp1, h1, _⟩
  have Hs := Lib.hid (live_set w _ _ _ h1 (by simp [mSet]) 1 (ba 98))
  rw [hp1, show mGet 1 (mSet 3 (ba 97) []) = none by simp [mSet, mGet]] at Hs
  clear h1
  go_wp2_with fail
  refine Hs.out.mono ?_
  rintro e w2 ⟨rfl, x2, hp2, h2, _⟩
  have Hs := Lib.hid (live_set w _ _ _ h2 (by simp [mSet]) 3 (ba 99))
  rw [hp2, show mGet 3 (mSet 1 (ba 98) (mSet 3 (ba 97) [])) = some (ba 97) by simp [mSet, mGet]] at Hs
  clear h2
  go_wp2_with fail
  refine Hs.out.mono ?_
  rintro e w3 ⟨rfl, x3, hp3, h3, _⟩
  have hl3 : mSet 3 (ba 99) (mSet 1 (ba 98) (mSet 3 (ba 97) [])) = [(1, ba 98), (3, ba 99)] := by simp [mSet]
  rw [hl3] at h3
  have Hs := Lib.hid (live_all w _ _ _ h3 (by simp) 0)
  rw [hp3] at Hs
  have Hold := Lib.hid h3
  clear h3 hl3
  go_wp2_with fail
  refine Hs.out.mono ?_
  rintro e w4 ⟨A, c, rfl, hpl, _, hm4⟩
  have h4 := Hold.out.keep hm4
  have Hs := Lib.hid (live_from w _ _ _ h4 (by simp) 2)
  have hf : mFrom 2 [(1, ba 98), (3, ba 99)] = [(3, ba 99)] := by simp [mFrom, idx]
  rw [hp3, hf] at Hs
  have H4 := Lib.hid h4
  have Hpl := Lib.hid hpl
  clear h4 hpl hm4 hf
  go_wp2_with fail
  refine Hs.out.mono ?_
  rintro e w5 ⟨A', c', rfl, hpl', _, hm5⟩
  have hm : Mod (fun _ => False) w w5 := (H4.out.keep hm5).old
  obtain ⟨b, o, rfl, hc⟩ := (Hpl.out.keep hm5).2.2 (by decide)
  obtain ⟨c0, _⟩ := hc 0 _ rfl
  obtain ⟨_, c1⟩ := hc 1 _ rfl
  obtain ⟨b', o', rfl, hc'⟩ := hpl'.2.2 (by decide)
  obtain ⟨d0, _⟩ := hc' 0 _ rfl
  have Hm := Lib.hid hm
  have hba : (ba 99).toList = [99] := Go.ByteArray.toList_mk [99]
  clear hc hc' hm hm5 hpl'
  have c0' : w5.cell? ⟨b, o, none⟩ = some (.int .i64 1) := c0
  have c1' : w5.cell? ⟨b, o + 2 + 1, none⟩ = some (.string (ba 99)) := c1
  have c1'' : w5.cell? ⟨b, o + 3, none⟩ = some (.string (ba 99)) := c1
  have d0' : w5.cell? ⟨b', o', none⟩ = some (.int .i64 3) := d0
  clear c0 c1 d0
  go_wp2
  go_ret
  exact ⟨rfl, Hm.out⟩
end Go.Proofs.Ytallokaboldflaa
