/-
  page.decode.
-/
import Derived.Test.YtgeodpflaebbgaaDec
namespace Go.Proofs.Ytgeodpflaebbgaa
open Go Go.RowKit Go.Shelf

/-- While a page's beginning is read: an empty content at p, a Reader at rg with ys left. -/
structure D0 (w W : World) (p rg : Nat) (i s : Int) (ys : List UInt8) : Prop where
  obj : W.heap[p]? = some (.cells #[.int .i64 i, .int .i64 s, .slice none 0 0] 64 (0, 0))
  rd : ∃ A c, Rd W rg A ys.length c ys ∧ c ≤ maxLen ∧ ∀ k, blkOf A = some k → k ≠ p
  lo : w.heap.size ≤ p ∧ w.heap.size ≤ rg ∧ p ≠ rg
  old : Mod (fun _ => False) w W
section
variable {w W : World} {p rg : Nat} {i s : Int} {ys : List UInt8}
theorem d0_get (h : D0 w W p rg i s ys) (k : Int) (hk : widthOk k = true) (hl : k ≤ ys.length) :
    Calls Try.prog 44 #[.pointer (some ⟨rg, 0, none⟩), .int .i64 k] W fun e W' => e = .returned (.tuple #[.int .i64 (unle (ys.take k.toNat)), .int .i64 0]) ∧ D0 w W' p rg i s (ys.drop k.toNat) := by
  obtain ⟨A, c, hr, hc, hA⟩ := h.rd
  refine (get_ok W rg A ys.length c ys hr hc k hk hl).mono ?_
  rintro e W' ⟨rfl, A', hr', hA', hm, _⟩
  refine ⟨rfl, (hm.block p (Array.getElem?_eq_some_iff.1 h.obj).1 h.lo.2.2).trans h.obj, ⟨A', c - k.toNat, by rw [List.length_drop]; exact hr', by omega, fun j e => hA j (by rw [← hA']; exact e)⟩, h.lo, h.old.trans hm (fun j hj e => by have := h.lo.2.1; omega)⟩
theorem D0.c0 (h : D0 w W p rg i s ys) : W.cell? ⟨p, 0, none⟩ = some (.int .i64 i) := by rw [cell_of_row _ _ _ _ _ _ h.obj]; rfl
theorem D0.c1 (h : D0 w W p rg i s ys) : W.cell? ⟨p, 1, none⟩ = some (.int .i64 s) := by rw [cell_of_row _ _ _ _ _ _ h.obj]; rfl
theorem D0.fr (h : D0 w W p rg i s ys) (j : Nat) : W.frozen? ⟨p, j, none⟩ = false := frozen_of_block h.obj j
theorem D0.put (h : D0 w W p rg i s ys) (j : Nat) (v : Value) {i' s' : Int} (ho : (#[Value.int .i64 i, .int .i64 s, .slice none 0 0]).setIfInBounds j v = #[.int .i64 i', .int .i64 s', .slice none 0 0]) : D0 w (W.setCell ⟨p, j, none⟩ v) p rg i' s' ys := by
  have hm : Mod (fun k => k = p) W (W.setCell ⟨p, j, none⟩ v) := (Mod.refl (fun k => k = p) W).setCell (p := ⟨p, j, none⟩) (fun _ => rfl) _
  obtain ⟨A, c, hr, hc, hA⟩ := h.rd
  exact ⟨by rw [heap_set h.obj, ho], ⟨A, c, hr.mod hm (fun e => h.lo.2.2 e.symm) (fun k e _ => hA k e), hc, hA⟩, h.lo, h.old.trans hm (fun k hk e => by have := h.lo.1; omega)⟩
theorem D0.read (h : D0 w W p rg i s ys) (count : Nat) (hcnt : count ≤ 255) :
    Calls Try.prog 45 #[.pointer (some ⟨p, 0, none⟩), .pointer (some ⟨rg, 0, none⟩), .int .i64 count] W fun e W' =>
      e = .returned (.bool (readN count (-1) ys).isSome) ∧ Mod (fun _ => False) w W' ∧ ∀ q, readN count (-1) ys = some q → Red W W' w.heap.size rg ⟨p, i, s, none, 0, []⟩ q := by
  obtain ⟨A, c, hr, hc, hA⟩ := h.rd
  have hct : Ct W w.heap.size ⟨p, i, s, none, 0, []⟩ [] := ⟨⟨h.obj, OwN.nil _ _ _ _, h.lo.1, by simp [blkOf], List.Pairwise.nil⟩, trivial⟩
  have hM : ∀ k, MV.M ⟨p, i, s, none, 0, []⟩ k → k = p := fun k hk => by
    rcases hk with e | e
    · exact e
    · simp [blkOf] at e
  refine (read_ok W w.heap.size rg ⟨p, i, s, none, 0, []⟩ A ys.length c ys count hct hr hc h.lo.2.1 (fun k e _ hk => hA k e (hM k hk)) (fun hk => h.lo.2.2 (hM _ hk).symm) hcnt).mono ?_
  rintro e W' ⟨rfl, hm, hq⟩
  exact ⟨rfl, h.old.trans hm (fun k hk e => by omega), hq⟩
end
theorem Vals.short {w : World} {Q : Nat → Prop} {b : Nat} : ∀ {L : List Pr} {rs : List Rec}, Vals w Q L rs → (∀ r ∈ rs, r.2.length ≤ b) → ∀ z ∈ L, z.2.n ≤ b
  | [], [], _, _ => fun z hz => by cases hz
  | e :: L, r :: rs, h, hk => fun z hz => by
    rcases List.mem_cons.1 hz with e' | e'
    · subst e'; rw [← h.1.2.1.len]; exact hk r (List.mem_cons_self ..)
    · exact Vals.short h.2 (fun q hq => hk q (List.mem_cons_of_mem _ hq)) z e'
theorem readN_count {n : Nat} {last : Int} {xs : List UInt8} {q : List Rec × List UInt8} (h : readN n last xs = some q) : q.1.length = n := by
  induction n generalizing last xs q with
  | zero => simp only [readN, Option.some.injEq] at h; subst h; rfl
  | succ n ih =>
    simp only [readN] at h
    split at h
    · cases h
    · obtain ⟨q', hq', rfl⟩ := Option.map_eq_some_iff.1 h
      simp only [List.length_cons, ih hq']

set_option maxRecDepth 100000 in
set_option maxHeartbeats 2000000 in
theorem decode_ok (w : World) (A : Option Addr) (n c : Nat) (xs : List UInt8) (h : Sl w A n c xs) :
    Calls Try.prog 33 #[.slice A n c] w fun e w' => ∃ x, e = .returned (.tuple #[.pointer (some ⟨x.p, 0, none⟩), .bool (dec xs).isSome]) ∧ Dcd w w' x (cont xs) := by
  by_cases hn : n = 248
  · subst hn
    have hlen := h.len
    have Hnr := Lib.hid (newReader_ok w A 248 c xs h (by omega))
    clear h
    go_enter Try.func33, Try.ntmps33
    go_wp2_with fail
    refine Hnr.out.mono ?_
    rintro e w1 ⟨rfl, hrd, hsz, hm⟩
    have h0 : D0 w (w1.alloc (.cells #[.int .i64 0, .int .i64 0, .slice none 0 0] 64)) w1.heap.size (w.heap.size + 1) 0 0 xs := by
      have ha : Mod (fun _ => False) w1 (w1.alloc (.cells #[.int .i64 0, .int .i64 0, .slice none 0 0] 64)) := (Mod.refl _ w1).alloc _
      refine ⟨heap_alloc_new w1 _, ⟨_, 248, by rw [hlen]; exact hrd.mod ha id (fun _ _ _ => id), by decide, fun k e => ?_⟩, by omega, hm.alloc _⟩
      simp [blkOf] at e
      omega
    obtain ⟨f1, hf1⟩ : ∃ f1, unle (xs.take 1) = f1 := ⟨_, rfl⟩
    obtain ⟨pi, hid⟩ : ∃ pi, unle ((xs.drop 1).take 2) = pi := ⟨_, rfl⟩
    obtain ⟨lsn, hlsn⟩ : ∃ lsn, unle ((xs.drop 3).take 4) = lsn := ⟨_, rfl⟩
    obtain ⟨cnt, hcnt⟩ : ∃ cnt, unle ((xs.drop 7).take 1) = cnt := ⟨_, rfl⟩
    have hcnt1 : cnt ≤ 255 := by
      have := unle_lt ((xs.drop 7).take 1)
      rw [hcnt, List.length_take, List.length_drop, show min 1 (xs.length - 7) = 1 by omega] at this
      omega
    have hdec : dec xs = if f1 = 176 then (match readN cnt (-1) (xs.drop 8) with | some q => if usedL q.1 ≤ 240 ∧ zerosOnly q.2 = true then some ⟨pi, lsn, q.1⟩ else none | none => none) else none := by
      unfold dec
      rw [hf1, hid, hlsn, hcnt]
      by_cases e : f1 = 176
      · rw [if_pos ⟨hlen, e⟩, if_pos e]
        cases readN cnt (-1) (xs.drop 8) <;> rfl
      · rw [if_neg (fun e' => e e'.2), if_neg e]
    have Hdec := Lib.hid hdec
    have hg := d0_get h0 1 rfl (by omega)
    rw [show (1 : Int).toNat = 1 from rfl, hf1] at hg
    have Hg := Lib.hid hg
    have Hid1 := Lib.hid hid
    have Hlsn := Lib.hid hlsn
    have Hcnt := Lib.hid hcnt
    clear hrd hsz hm h0 Hnr hdec hg hid hlsn hcnt hf1
    obtain ⟨rg, hrg⟩ : ∃ rg, rg = w.heap.size + 1 := ⟨_, rfl⟩
    rw [← hrg] at Hg ⊢
    have Hrglo : Hid (w.heap.size ≤ rg) := by show _ ≤ _; omega
    clear hrg
    obtain ⟨p, hp⟩ : ∃ p, p = w1.heap.size := ⟨_, rfl⟩
    rw [← hp] at Hg
    go_wp2_with fail
    rw [← hp]
    refine Hg.out.mono ?_
    rintro e w2 ⟨rfl, h2⟩
    clear hp Hg
    have hg := d0_get h2 2 rfl (by rw [List.length_drop]; omega)
    rw [show (2 : Int).toNat = 2 from rfl, Hid1.out, List.drop_drop, show 1 + 2 = 3 from rfl] at hg
    have Hg := Lib.hid hg
    clear h2 hg
    go_wp2_with fail
    refine Hg.out.mono ?_
    rintro e w3 ⟨rfl, h3⟩
    have c0 := h3.c0
    have fr0 := h3.fr 0
    have h3b := h3.put 0 (.int .i64 pi) (i' := pi) (s' := 0) rfl
    have hg := d0_get h3b 4 rfl (by rw [List.length_drop]; omega)
    rw [show (4 : Int).toNat = 4 from rfl, Hlsn.out, List.drop_drop, show 3 + 4 = 7 from rfl] at hg
    clear Hg
    have Hg := Lib.hid hg
    clear h3 h3b hg
    go_wp2_with fail
    refine Hg.out.mono ?_
    rintro e w4 ⟨rfl, h4⟩
    clear c0 fr0
    have c1 := h4.c1
    have fr1 := h4.fr 1
    have h4b := h4.put 1 (.int .i64 lsn) (i' := pi) (s' := lsn) rfl
    have hg := d0_get h4b 1 rfl (by rw [List.length_drop]; omega)
    rw [show (1 : Int).toNat = 1 from rfl, Hcnt.out, List.drop_drop, show 7 + 1 = 8 from rfl] at hg
    clear Hg
    have Hg := Lib.hid hg
    clear h4 h4b hg
    go_wp2_with fail
    refine Hg.out.mono ?_
    rintro e w5 ⟨rfl, h5⟩
    clear c1 fr1 Hg
    by_cases hf : f1 = 176
    · subst hf
      have Hrd := Lib.hid (h5.read cnt hcnt1)
      have hdec := Hdec.out
      rw [if_pos rfl] at hdec
      cases hq : readN cnt (-1) (xs.drop 8) with
      | none =>
        rw [hq] at hdec Hrd
        have hd : dec xs = none := hdec
        have hcx : cont xs = nonePg := by unfold cont; rw [hd]; rfl
        have Hd := Lib.hid hd
        have Hcx := Lib.hid hcx
        clear h5 hdec Hdec hd hcx hq
        go_wp2_with fail
        refine Hrd.out.mono ?_
        rintro e w6 ⟨rfl, hm6, _⟩
        have Ho := Lib.hid (dcd_none w w6 hm6)
        clear hm6
        go_wp2
        go_ret2
        exact ⟨⟨w6.heap.size, 0, 0, none, 0, []⟩, by rw [Hd.out]; rfl, by rw [Hcx.out]; exact Ho.out⟩
      | some q =>
        rw [hq] at hdec Hrd
        have hdec' : dec xs = if usedL q.1 ≤ 240 ∧ zerosOnly q.2 = true then some ⟨pi, lsn, q.1⟩ else none := hdec
        have Hdq := Lib.hid hdec'
        have Hgd := Lib.hid (readN_good hq (by omega))
        have Hct := Lib.hid (readN_count hq)
        clear h5 hdec Hdec hdec' hq
        go_wp2_with fail
        refine Hrd.out.mono ?_
        rintro e w6 ⟨rfl, hm6, hred⟩
        obtain ⟨x, B, m, d, hxp, hxi, hxs, hct, hrd6, hd6, hne6⟩ := (hred q rfl).ex
        have hxp' : x.p = p := hxp
        have hll := hct.vals.len
        have hu := used_ok w6 x.p x.l hct.at_.rd (by have := Hct.out; omega) (fun z hz => by have := hct.vals.short (fun r hr => (Hgd.out.2 r hr).2.2) z hz; omega)
        rw [hxp', hct.vals.sum] at hu
        have Hu := Lib.hid hu
        have Hct6 := Lib.hid hct
        have Hrd6 := Lib.hid hrd6
        have Hm6 := Lib.hid hm6
        have Hxi := Lib.hid hxi
        have Hxs := Lib.hid hxs
        have Hxp := Lib.hid hxp'
        clear hct hrd6 hm6 hxi hxs hxp hxp' hu hred hll Hrd
        go_wp2_with fail
        refine Hu.out.mono ?_
        rintro e w7 ⟨rfl, hm7⟩
        have Hm7 := Lib.hid (Hm6.out.trans hm7 (fun _ _ h => h))
        have Hct7 := Lib.hid (Hct6.out.keep hm7)
        have Hz := Lib.hid (onlyZeros_ok w7 rg B m d q.2 (Hrd6.out.mod hm7 id (fun _ _ _ => id)) hd6)
        have hrg7 : ∀ k, k = rg → ∀ cs, w7.heap[k]? ≠ some (.cells cs 5 (0, 0)) := fun k e cs h => by
          subst e
          have h1 := (Hrd6.out.mod hm7 id (fun _ _ _ => id)).1
          rw [h1] at h
          injection h with h
          injection h with _ h
          exact absurd h (by decide)
        have Hrg7 := Lib.hid hrg7
        clear hm7 hrg7
        by_cases hu240 : usedL q.1 ≤ 240
        · have hdu : decide ((240 : Int) < (usedL q.1 : Int)) = false := by rw [decide_eq_false_iff_not]; omega
          go_wp2_with fail
          refine Hz.out.mono ?_
          rintro e w8 ⟨rfl, hm8⟩
          have hrglo : w.heap.size ≤ rg := Hrglo.out
          have Hm8 := Lib.hid (Hm7.out.trans hm8 (fun k hk e => by omega))
          have Hct8 := Lib.hid (Hct7.out.mod hm8 (fun k hk e => hne6 (by rw [← e]; exact hk)) Hrg7.out)
          clear hm8
          cases hz : zerosOnly q.2 with
          | true =>
            have hd : dec xs = some ⟨pi, lsn, q.1⟩ := by rw [Hdq.out, if_pos ⟨hu240, hz⟩]
            have hcx : cont xs = ⟨pi, lsn, q.1⟩ := by unfold cont; rw [hd]; rfl
            have Hd := Lib.hid hd
            have Hcx := Lib.hid hcx
            have Hout : Hid (Dcd w w8 x ⟨pi, lsn, q.1⟩) := ⟨Hct8.out, Hxi.out, Hxs.out, Hm8.out⟩
            clear hcx hd hz
            go_wp2
            go_ret2
            exact ⟨x, by rw [Hxp.out, Hd.out]; rfl, by rw [Hcx.out]; exact Hout.out⟩
          | false =>
            have hd : dec xs = none := by rw [Hdq.out, if_neg (by rw [hz]; simp)]
            have hcx : cont xs = nonePg := by unfold cont; rw [hd]; rfl
            have Hd := Lib.hid hd
            have Hcx := Lib.hid hcx
            have Ho := Lib.hid (dcd_none w w8 Hm8.out)
            clear hcx hd hz
            go_wp2
            go_ret2
            exact ⟨⟨w8.heap.size, 0, 0, none, 0, []⟩, by rw [Hd.out]; rfl, by rw [Hcx.out]; exact Ho.out⟩
        · have hdu : decide ((240 : Int) < (usedL q.1 : Int)) = true := by rw [decide_eq_true_eq]; omega
          have hd : dec xs = none := by rw [Hdq.out, if_neg (fun e => hu240 e.1)]
          have hcx : cont xs = nonePg := by unfold cont; rw [hd]; rfl
          have Hd := Lib.hid hd
          have Hcx := Lib.hid hcx
          have Ho := Lib.hid (dcd_none w w7 Hm7.out)
          clear hcx hd hu240
          generalize (usedL q.1 : Int) = U at *
          go_wp2
          go_ret2
          exact ⟨⟨w7.heap.size, 0, 0, none, 0, []⟩, by rw [Hd.out]; rfl, by rw [Hcx.out]; exact Ho.out⟩
    · have hd : dec xs = none := by rw [Hdec.out, if_neg hf]
      have hcx : cont xs = nonePg := by unfold cont; rw [hd]; rfl
      have Hd := Lib.hid hd
      have Hcx := Lib.hid hcx
      have hb : ((f1 : Int) != 176) = true := by rw [bne_iff_ne]; omega
      have Ho := Lib.hid (dcd_none w w5 h5.old)
      clear hcx hd h5 Hdec
      go_wp2
      go_ret2
      exact ⟨⟨w5.heap.size, 0, 0, none, 0, []⟩, by rw [Hd.out]; rfl, by rw [Hcx.out]; exact Ho.out⟩
  · exact decode_len w A n c xs h hn
end Go.Proofs.Ytgeodpflaebbgaa
