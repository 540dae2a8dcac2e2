/-
  page.Put, page.Get.
-/
import Derived.Test.YtgeodpflaebbgaaPage
namespace Go.Proofs.Ytgeodpflaebbgaa
open Go Go.RowKit Go.Shelf

/-- A content that has turned, and reads as records. -/
structure Turned (w w' : World) (x : MV) (i s : Int) (rs : List Rec) : Prop where
  at_ : x.At w' w.heap.size
  pid : x.pid = i
  plsn : x.plsn = s
  vals : Vals w' (fun _ => True) x.l rs
  old : Mod (fun _ => False) w w'
theorem turned_encode {w w' : World} {x : MV} {g : Pg} (h : Turned w w' x g.id g.lsn g.l) (hg : Good g) :
    Calls Try.prog 29 #[.pointer (some ⟨x.p, 0, none⟩)] w' fun e w2 => ∃ q, e = .returned (.slice (some ⟨q, 0, none⟩) 248 248) ∧ PgAt w w2 q g := by
  refine (encode_ok w' _ x h.at_ g h.pid h.plsn h.vals hg).mono ?_
  rintro e w2 ⟨q, rfl, hb, hl, hm⟩
  exact ⟨q, rfl, hb, by have := h.old.size; omega, h.old.trans hm (fun _ _ h => h)⟩
theorem dcd_del {w w' : World} {x : MV} {g : Pg} (h : Dcd w w' x g) (hg : Good g) (k : Int) :
    Calls Try.prog 35 #[.pointer (some ⟨x.p, 2, none⟩), .int .i64 k] w' fun e w2 => (∃ b, e = .returned (.bool b)) ∧ ∃ x', x'.p = x.p ∧ Turned w w2 x' g.id g.lsn (mDel k g.l) := by
  have hl := h.ct.vals.len
  have hc := hg.count
  refine (mdel_ok w' _ x h.ct.at_ (by omega) k).mono ?_
  rintro e w2 ⟨rfl, x', hk⟩
  refine ⟨⟨_, rfl⟩, x', hk.p, hk.at_, hk.pid.trans h.pid, hk.plsn.trans h.plsn, ?_, h.old.trans hk.mod (fun j hj e => by have := (h.ct.at_.M_lt e).1; omega)⟩
  rw [hk.l]
  exact (h.ct.vals.mod hk.mod (fun j _ hj => ⟨fun e => by obtain ⟨_, cs, hc⟩ := hj; exact h.ct.at_.not8 e cs hc, trivial⟩)).del
theorem dcd_set {w w' : World} {x : MV} {g : Pg} (h : Dcd w w' x g) (hg : Good g) (k : Int) {B : Option Addr} {m d : Nat} {vs : List UInt8} (hv : Sl w B m d vs) :
    Calls Try.prog 36 #[.pointer (some ⟨x.p, 2, none⟩), .int .i64 k, .slice B m d] w' fun e w2 => (∃ b, e = .returned (.bool b)) ∧ ∃ x', x'.p = x.p ∧ Turned w w2 x' g.id g.lsn (mSet k vs g.l) := by
  have hl := h.ct.vals.len
  have hc := hg.count
  refine (mset_ok w' _ x h.ct.at_ (by omega) h.old.size k ⟨B, m, d⟩).mono ?_
  rintro e w2 ⟨rfl, x', hk⟩
  refine ⟨⟨_, rfl⟩, x', hk.p, hk.at_, hk.pid.trans h.pid, hk.plsn.trans h.plsn, ?_, h.old.trans hk.mod (fun j hj e => by have := (h.ct.at_.M_lt e).1; omega)⟩
  rw [hk.l]
  refine Vals.set (v := ⟨B, m, d⟩) ((hv.mod h.old (fun _ _ _ => id)).mod hk.mod (fun j hj hn e => ?_)) (fun _ _ _ => trivial) (h.ct.vals.mod hk.mod (fun j _ hj => ⟨fun e => by obtain ⟨_, cs, hc⟩ := hj; exact h.ct.at_.not8 e cs hc, trivial⟩))
  obtain ⟨b, o, hb, hlt⟩ := hv.lt hn
  rw [hb] at hj
  simp [blkOf] at hj
  subst hj
  have := (h.ct.at_.M_lt e).1
  omega
theorem turned_used {w w' : World} {x : MV} {i s : Int} {rs : List Rec} (h : Turned w w' x i s rs) (hc : rs.length ≤ 900) (hv : ∀ r ∈ rs, r.2.length ≤ 32) :
    Calls Try.prog 37 #[.pointer (some ⟨x.p, 0, none⟩)] w' fun e w2 => e = .returned (.int .i64 (usedL rs)) ∧ Mod (fun _ => False) w' w2 := by
  have hl := h.vals.len
  rw [← h.vals.sum]
  exact used_ok w' x.p x.l h.at_.rd (by omega) (fun z hz => by have := h.vals.short hv z hz; omega)
theorem Turned.keep {w w' w2 : World} {x : MV} {i s : Int} {rs : List Rec} (h : Turned w w' x i s rs) (hm : Mod (fun _ => False) w' w2) : Turned w w2 x i s rs :=
  ⟨h.at_.keep hm, h.pid, h.plsn, h.vals.keep hm, h.old.trans hm (fun _ _ h => h)⟩
theorem Dcd.keep {w w' w2 : World} {x : MV} {g : Pg} (h : Dcd w w' x g) (hm : Mod (fun _ => False) w' w2) : Dcd w w2 x g := ⟨h.ct.keep hm, h.pid, h.plsn, h.old.trans hm (fun _ _ h => h)⟩
theorem PgAt.from {w w0 w' : World} {q : Nat} {g : Pg} (h : PgAt w0 w' q g) (hm : Mod (fun _ => False) w w0) : PgAt w w' q g := ⟨h.blk, by have := hm.size; have := h.lo; omega, hm.trans h.old (fun _ _ h => h)⟩

set_option maxRecDepth 100000 in
set_option maxHeartbeats 2000000 in
theorem put_page (w : World) (A : Option Addr) (n c : Nat) (xs : List UInt8) (h : Sl w A n c xs) (k : Int) (is : Bool) (B : Option Addr) (m d : Nat) (vs : List UInt8) (hv : Sl w B m d vs) :
    Calls Try.prog 20 #[.slice A n c, .int .i64 k, .agg #[.bool is, .slice B m d]] w fun e w' => PgAns w w' e (if (dec xs).isSome then (putP (cont xs) k is vs).1 else 1) (putP (cont xs) k is vs).2 := by
  have ha : Mod (fun _ => False) w (w.alloc (.cells #[.bool is, .slice B m d] 34)) := (Mod.refl _ w).alloc _
  have Hd := Lib.hid (decode_ok _ A n c xs (h.mod ha (fun _ _ _ => id)))
  have hbx : (w.alloc (.cells #[.bool is, .slice B m d] 34)).heap[w.heap.size]? = some (.cells #[.bool is, .slice B m d] 34 (0, 0)) := heap_alloc_new w _
  have Hv := Lib.hid (hv.mod ha (fun _ _ _ => id))
  have hvl := hv.len
  have Ha := Lib.hid ha
  obtain ⟨w0, hw0⟩ : ∃ w0, w0 = w.alloc (.cells #[.bool is, .slice B m d] 34) := ⟨_, rfl⟩
  rw [← hw0] at Hd Hv Ha hbx
  have hblt : w.heap.size < w0.heap.size := by rw [hw0, World.size_alloc]; omega
  have Hbx := Lib.hid hbx
  clear h hv ha hbx
  have boxes : ∀ W, Mod (fun _ => False) w0 W → W.cell? ⟨w.heap.size, 0, none⟩ = some (.bool is) ∧ W.cell? ⟨w.heap.size, 1, none⟩ = some (.slice B m d) := fun W hm => by
    have hb := (hm.block _ hblt id).trans Hbx.out
    exact ⟨by rw [cell_of_row _ _ _ _ _ _ hb]; rfl, by rw [cell_of_row _ _ _ _ _ _ hb]; rfl⟩
  have Hboxes := Lib.hid boxes
  clear boxes
  cases hs : (dec xs).isSome with
  | false =>
    rw [hs] at Hd
    go_enter Try.func20, Try.ntmps20
    go_wp2_with fail
    rw [← hw0]
    refine Hd.out.mono ?_
    rintro e w2 ⟨x, rfl, hx⟩
    have Hm := Lib.hid (Ha.out.trans hx.old (fun _ _ h => h))
    clear hx hw0
    go_wp2
    go_ret2
    exact .inr ⟨by simp, rfl, Hm.out⟩
  | true =>
    rw [hs] at Hd
    clear hs
    by_cases h0 : k < 0
    · have hd : decide (k < 0) = true := by simpa using h0
      have Hp : Hid (putP (cont xs) k is vs = (1, cont xs)) := by show _ = _; unfold putP; rw [if_pos (.inl h0)]
      go_enter Try.func20, Try.ntmps20
      go_wp2_with fail
      rw [← hw0]
      refine Hd.out.mono ?_
      rintro e w2 ⟨x, rfl, hx⟩
      have Hm := Lib.hid (Ha.out.trans hx.old (fun _ _ h => h))
      clear hx hw0
      go_wp2
      go_ret2
      rw [Hp.out]
      exact .inr ⟨by simp, rfl, Hm.out⟩
    · have hd : decide (k < 0) = false := by simpa using h0
      by_cases h1 : 65535 < k
      · have hd1 : decide (65535 < k) = true := by simpa using h1
        have Hp : Hid (putP (cont xs) k is vs = (1, cont xs)) := by show _ = _; unfold putP; rw [if_pos (.inr h1)]
        go_enter Try.func20, Try.ntmps20
        go_wp2_with fail
        rw [← hw0]
        refine Hd.out.mono ?_
        rintro e w2 ⟨x, rfl, hx⟩
        have Hm := Lib.hid (Ha.out.trans hx.old (fun _ _ h => h))
        clear hx hw0
        go_wp2
        go_ret2
        rw [Hp.out]
        exact .inr ⟨by simp, rfl, Hm.out⟩
      · have hd1 : decide (65535 < k) = false := by simpa using h1
        have hgc := good_cont xs
        have Hgc := Lib.hid hgc
        cases is with
        | false =>
          have Hp : Hid (putP (cont xs) k false vs = (0, ⟨(cont xs).id, (cont xs).lsn, mDel k (cont xs).l⟩)) := by show _ = _; unfold putP; rw [if_neg (by omega), if_pos rfl]
          have Hgd := Lib.hid (good_del hgc k)
          clear hgc
          go_enter Try.func20, Try.ntmps20
          go_wp2_with fail
          rw [← hw0]
          refine Hd.out.mono ?_
          rintro e w2 ⟨x, rfl, hx⟩
          obtain ⟨b0, b1⟩ := Hboxes.out w2 hx.old
          have Hdel := Lib.hid (dcd_del hx Hgc.out k)
          clear hx hw0
          go_wp2_with fail
          refine Hdel.out.mono ?_
          rintro e w3 ⟨⟨bb, rfl⟩, x', hp', ht⟩
          have he := turned_encode (g := ⟨(cont xs).id, (cont xs).lsn, mDel k (cont xs).l⟩) ht Hgd.out
          rw [hp'] at he
          have He := Lib.hid he
          clear ht he hp' b0 b1
          go_wp2_with fail
          refine He.out.mono ?_
          rintro e w4 ⟨q, rfl, hpg⟩
          have Ho := Lib.hid (hpg.from Ha.out)
          clear hpg
          go_wp2
          go_ret2
          rw [Hp.out]
          exact .inl ⟨rfl, q, rfl, Ho.out⟩
        | true =>
          by_cases hm32 : 32 < m
          · have Hp : Hid (putP (cont xs) k true vs = (2, cont xs)) := by show _ = _; unfold putP; rw [if_neg (by omega), if_neg (by simp), if_pos (by omega)]
            go_enter Try.func20, Try.ntmps20
            go_wp2_with fail
            rw [← hw0]
            refine Hd.out.mono ?_
            rintro e w2 ⟨x, rfl, hx⟩
            obtain ⟨b0, b1⟩ := Hboxes.out w2 hx.old
            have Hm := Lib.hid (Ha.out.trans hx.old (fun _ _ h => h))
            clear hx hw0
            go_wp2
            go_ret2
            rw [Hp.out]
            exact .inr ⟨by simp, rfl, Hm.out⟩
          · have Hvs : Hid (∀ r ∈ mSet k vs (cont xs).l, r.2.length ≤ 32) := fun r hr => by
              rcases mem_mSet hr with e | e
              · subst e; simp only; omega
              · exact hgc.val r e
            have Hcn : Hid ((mSet k vs (cont xs).l).length ≤ 900) := by
              show _ ≤ _
              have := mSet_len k vs (cont xs).l
              have := hgc.count
              omega
            clear hgc
            go_enter Try.func20, Try.ntmps20
            go_wp2_with fail
            rw [← hw0]
            refine Hd.out.mono ?_
            rintro e w2 ⟨x, rfl, hx⟩
            obtain ⟨b0, b1⟩ := Hboxes.out w2 hx.old
            have Hset := Lib.hid (dcd_set (hx.keep (Mod.refl _ w2).drew) Hgc.out k Hv.out)
            clear hx hw0
            go_wp2_with fail
            go_still_tail 6, (by kernel_rfl)
            change wpList _ _ _ _ _ w2.drew
            clear b0 b1
            generalize w2.drew = w2d at *
            go_wp2_with fail
            refine Hset.out.mono ?_
            rintro e w3 ⟨⟨bb, rfl⟩, x', hp', ht⟩
            have hu := turned_used ht Hcn.out Hvs.out
            rw [hp'] at hu
            have Hu := Lib.hid hu
            have Ht := Lib.hid ht
            have Hp' := Lib.hid hp'
            clear ht hu hp'
            go_wp2_with fail
            refine Hu.out.mono ?_
            rintro e w4 ⟨rfl, hm4⟩
            have ht4 := Ht.out.keep hm4
            have Hm4 := Lib.hid (Ha.out.trans ht4.old (fun _ _ h => h))
            by_cases hu240 : 240 < usedL (mSet k vs (cont xs).l)
            · have Hp : Hid (putP (cont xs) k true vs = (4, cont xs)) := by show _ = _; unfold putP; rw [if_neg (by omega), if_neg (by simp), if_neg (by omega), if_pos hu240]
              have hdu : decide ((240 : Int) < (usedL (mSet k vs (cont xs).l) : Int)) = true := by rw [decide_eq_true_eq]; omega
              clear ht4 hm4 hu240
              generalize (usedL (mSet k vs (cont xs).l) : Int) = U at *
              go_wp2
              go_ret2
              rw [Hp.out]
              exact .inr ⟨by simp, rfl, Hm4.out⟩
            · have Hp : Hid (putP (cont xs) k true vs = (0, ⟨(cont xs).id, (cont xs).lsn, mSet k vs (cont xs).l⟩)) := by show _ = _; unfold putP; rw [if_neg (by omega), if_neg (by simp), if_neg (by omega), if_neg hu240]
              have hdu : decide ((240 : Int) < (usedL (mSet k vs (cont xs).l) : Int)) = false := by rw [decide_eq_false_iff_not]; omega
              have hgd := good_set Hgc.out k vs (by omega) (by omega) (by omega) (by omega)
              have he := turned_encode (g := ⟨(cont xs).id, (cont xs).lsn, mSet k vs (cont xs).l⟩) ht4 hgd
              rw [Hp'.out] at he
              have He := Lib.hid he
              clear ht4 hm4 hu240 hgd he
              generalize (usedL (mSet k vs (cont xs).l) : Int) = U at *
              go_wp2_with fail
              refine He.out.mono ?_
              rintro e w5 ⟨q, rfl, hpg⟩
              have Ho := Lib.hid (hpg.from Ha.out)
              clear hpg
              go_wp2
              go_ret2
              rw [Hp.out]
              exact .inl ⟨rfl, q, rfl, Ho.out⟩
end Go.Proofs.Ytgeodpflaebbgaa
