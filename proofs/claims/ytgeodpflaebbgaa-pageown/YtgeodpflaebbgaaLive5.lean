/-
  A page in a law's own memory: every call in one form. The chapter's example (awake).
-/
import Derived.Test.YtgeodpflaebbgaaPageAll
import Derived.Lib.SmallJoins
namespace Go.Proofs.Ytgeodpflaebbgaa
open Go Go.RowKit

/-- The page g, in the block q laid since w0; nothing that lay at w0 has turned. -/
structure Lv (w0 w : World) (q : Nat) (g : Pg) : Prop where
  good : Good g
  at_ : PgAt w0 w q g
section
variable {w0 w w' : World} {q : Nat} {g : Pg}
theorem Lv.sl (h : Lv w0 w q g) : Sl w (some ⟨q, 0, none⟩) 248 248 (enc g) := h.at_.sl h.good
theorem Lv.keep (h : Lv w0 w q g) (hm : Mod (fun _ => False) w w') : Lv w0 w' q g :=
  ⟨h.good, (hm.block q (Array.getElem?_eq_some_iff.1 h.at_.blk).1 id).trans h.at_.blk, h.at_.lo, h.at_.old.trans hm (fun _ _ h => h)⟩
theorem Lv.old (h : Lv w0 w q g) : Mod (fun _ => False) w0 w := h.at_.old
/-- What a call that makes a page answers. -/
structure LvAns (w0 w w' : World) (e : Ending) (er : Int) (g' : Pg) : Prop where
  ans : (er = 0 ∧ ∃ q', e = .returned (.tuple #[.slice (some ⟨q', 0, none⟩) 248 248, .int .i64 0]) ∧ Lv w0 w' q' g') ∨ (er ≠ 0 ∧ e = .returned (.tuple #[.slice none 0 0, .int .i64 er]))
  mod : Mod (fun _ => False) w w'
theorem LvAns.of {e : Ending} {er : Int} {g' : Pg} (ho : Mod (fun _ => False) w0 w) (hg : Good g') (h : PgAns w w' e er g') : LvAns w0 w w' e er g' := by
  rcases h with ⟨h1, q', h2, h3⟩ | ⟨h1, h2, h3⟩
  · exact ⟨.inl ⟨h1, q', h2, hg, h3.from ho⟩, h3.old⟩
  · exact ⟨.inr ⟨h1, h2⟩, h3⟩
theorem LvAns.ok {e : Ending} {g' : Pg} {er : Int} (h : LvAns w0 w w' e er g') (he : er = 0) : ∃ q', e = .returned (.tuple #[.slice (some ⟨q', 0, none⟩) 248 248, .int .i64 0]) ∧ Lv w0 w' q' g' ∧ Mod (fun _ => False) w w' := by
  rcases h.ans with ⟨_, q', h2, h3⟩ | ⟨h1, _⟩
  · exact ⟨q', h2, h3, h.mod⟩
  · exact absurd he h1
theorem LvAns.bad {e : Ending} {g' : Pg} {er : Int} (h : LvAns w0 w w' e er g') (he : er ≠ 0) : e = .returned (.tuple #[.slice none 0 0, .int .i64 er]) ∧ Mod (fun _ => False) w w' := by
  rcases h.ans with ⟨h1, _⟩ | ⟨_, h2⟩
  · exact absurd h1 he
  · exact ⟨h2, h.mod⟩
end
section
variable {w0 w : World} {q : Nat} {g : Pg} (h : Lv w0 w q g)
include h
theorem lv_put (k : Int) (is : Bool) {B : Option Addr} {m d : Nat} {vs : List UInt8} (hv : Sl w B m d vs) :
    Calls Try.prog 20 #[.slice (some ⟨q, 0, none⟩) 248 248, .int .i64 k, .agg #[.bool is, .slice B m d]] w fun e w' => LvAns w0 w w' e (putP g k is vs).1 (putP g k is vs).2 := by
  have := put_page w _ _ _ _ h.sl k is B m d vs hv
  rw [cont_enc h.good, dec_enc h.good] at this
  exact this.mono (fun e w' hh => LvAns.of h.old (good_putP h.good k is vs) hh)
theorem lv_stamped (k : Int) : Calls Try.prog 18 #[.slice (some ⟨q, 0, none⟩) 248 248, .int .i64 k] w fun e w' => LvAns w0 w w' e (stampP g k).1 (stampP g k).2 := by
  have := stamped_ok w _ _ _ _ h.sl k
  rw [cont_enc h.good, dec_enc h.good] at this
  exact this.mono (fun e w' hh => LvAns.of h.old (good_stampP h.good k) hh)
theorem lv_may : Calls Try.prog 21 #[.slice (some ⟨q, 0, none⟩) 248 248] w fun e w' => e = .returned (.bool true) ∧ Mod (fun _ => False) w w' := by
  have := may_ok w _ _ _ _ h.sl
  rw [dec_enc h.good] at this
  exact this
theorem lv_id : Calls Try.prog 23 #[.slice (some ⟨q, 0, none⟩) 248 248] w fun e w' => e = .returned (.int .i64 g.id) ∧ Mod (fun _ => False) w w' := by
  have := id_ok w _ _ _ _ h.sl
  rw [cont_enc h.good] at this
  exact this
theorem lv_lsn : Calls Try.prog 19 #[.slice (some ⟨q, 0, none⟩) 248 248] w fun e w' => e = .returned (.int .i64 g.lsn) ∧ Mod (fun _ => False) w w' := by
  have := lsn_ok w _ _ _ _ h.sl
  rw [cont_enc h.good] at this
  exact this
theorem lv_used : Calls Try.prog 24 #[.slice (some ⟨q, 0, none⟩) 248 248] w fun e w' => e = .returned (.int .i64 (usedL g.l)) ∧ Mod (fun _ => False) w w' := by
  have := pused_ok w _ _ _ _ h.sl
  rw [cont_enc h.good] at this
  exact this
theorem lv_all : Calls Try.prog 17 #[.slice (some ⟨q, 0, none⟩) 248 248] w fun e w' => ∃ A' c' L, e = .returned (.slice A' g.l.length c') ∧ KvAt w w' A' g.l.length c' L g.l := by
  have := pall_ok w _ _ _ _ h.sl
  rw [cont_enc h.good] at this
  exact this
theorem lv_get (k : Int) : Calls Try.prog 22 #[.slice (some ⟨q, 0, none⟩) 248 248, .int .i64 k] w fun e w' => GotVal w w' e (mGet k g.l) := by
  have := pget_ok w _ _ _ _ h.sl k
  rw [cont_enc h.good] at this
  exact this
end
theorem lv_new (w0 w : World) (ho : Mod (fun _ => False) w0 w) (i : Int) (h0 : 0 ≤ i) (h1 : i ≤ 65535) :
    Calls Try.prog 12 #[.int .i64 i] w fun e w' => ∃ q, e = .returned (.tuple #[.slice (some ⟨q, 0, none⟩) 248 248, .int .i64 0]) ∧ Lv w0 w' q ⟨i, 0, []⟩ ∧ Mod (fun _ => False) w w' := by
  refine (new_ok w i h0 h1).mono ?_
  rintro e w' ⟨q, rfl, hp⟩
  exact ⟨q, rfl, ⟨good_new i h0 h1, hp.from ho⟩, hp.old⟩

set_option maxRecDepth 100000 in
set_option maxHeartbeats 2000000 in
theorem awake_ok (w : World) : Calls Try.prog 10 #[] w fun e w' => e = .returned (.bool true) ∧ Mod (fun _ => False) w w' := by
  have Hn := Lib.hid (lv_new w w (Mod.refl _ w) 7 (by omega) (by omega))
  go_enter Try.func10, Try.ntmps10
  go_wp2_with fail
  refine Hn.out.mono ?_
  rintro e w1 ⟨q1, rfl, h1, _⟩
  have hcv := Go.Joins.run_convert_bytes_const_at (P := Try.prog) w1 25 5 #[.int .u8 97, .int .u8 98] 2 2 w1.heap.size rfl Try.underlying25 Try.underlying5
  have ha : Mod (fun _ => False) w1 (w1.alloc (.cells #[.int .u8 97, .int .u8 98] 5 (2, 3))) := (Mod.refl _ w1).alloc _
  have hab : Sl (w1.alloc (.cells #[.int .u8 97, .int .u8 98] 5 (2, 3))) (some ⟨w1.heap.size, 0, none⟩) 2 2 [97, 98] := Sl.lit_ [97, 98] (heap_alloc_new w1 (.cells #[.int .u8 97, .int .u8 98] 5 (2, 3)))
  have Hp := Lib.hid (lv_put (h1.keep ha) 5 true hab)
  clear h1 ha hab Hn
  go_wp2_with fail
  refine Hp.out.mono ?_
  rintro e w2 hans
  obtain ⟨q2, rfl, h2, hm2⟩ := hans.ok (by decide)
  have h2' : Lv w w2 q2 ⟨7, 0, [(5, [97, 98])]⟩ := h2
  have Hp := Lib.hid (lv_put h2' 3 true (Sl.none_ w2 none 0))
  clear h2 h2' hm2 hans
  go_wp2_with fail
  refine Hp.out.mono ?_
  rintro e w3 hans
  obtain ⟨q3, rfl, h3, hm3⟩ := hans.ok (by decide)
  have h3' : Lv w w3 q3 ⟨7, 0, [(3, []), (5, [97, 98])]⟩ := h3
  have Hp := Lib.hid (lv_put h3' 5 false (Sl.none_ w3 none 0))
  have H3 := Lib.hid h3'
  clear h3 h3' hm3 hans
  go_wp2_with fail
  refine Hp.out.mono ?_
  rintro e w4 hans
  obtain ⟨q4, rfl, h4, hm4⟩ := hans.ok (by decide)
  have h4' : Lv w w4 q4 ⟨7, 0, [(3, [])]⟩ := h4
  have Ha := Lib.hid (lv_all h4')
  have H4 := Lib.hid h4'
  have H3 := Lib.hid (H3.out.keep hm4)
  clear h4 h4' hm4 hans Hp
  go_wp2_with fail
  refine Ha.out.mono ?_
  rintro e w5 ⟨A5, c5, L5, rfl, hk⟩
  have hl5 : L5.length = 1 := hk.vals.len
  obtain ⟨z, rfl⟩ : ∃ z, L5 = [z] := by
    match L5, hl5 with
    | [z], _ => exact ⟨z, rfl⟩
  have hz3 : z.1 = 3 := hk.vals.1.1
  obtain ⟨b, o, rfl, hcs⟩ := hk.own.pl.2.2 (by decide)
  obtain ⟨c0, _⟩ := hcs 0 z rfl
  have c0' : w5.cell? ⟨b, o, none⟩ = some (.int .i64 3) := by rw [← hz3]; exact c0
  have H4' := Lib.hid (H4.out.keep hk.old)
  have H3' := Lib.hid (H3.out.keep hk.old)
  have Hu4 : Hid (∀ W, Mod (fun _ => False) w5 W → Calls Try.prog 24 #[.slice (some ⟨q4, 0, none⟩) 248 248] W fun e w' => e = .returned (.int .i64 4) ∧ Mod (fun _ => False) W w') := fun W hm => lv_used (H4'.out.keep hm)
  have Hu3 : Hid (∀ W, Mod (fun _ => False) w5 W → Calls Try.prog 24 #[.slice (some ⟨q3, 0, none⟩) 248 248] W fun e w' => e = .returned (.int .i64 10) ∧ Mod (fun _ => False) W w') := fun W hm => lv_used (H3'.out.keep hm)
  have Hi4 : Hid (∀ W, Mod (fun _ => False) w5 W → Calls Try.prog 23 #[.slice (some ⟨q4, 0, none⟩) 248 248] W fun e w' => e = .returned (.int .i64 7) ∧ Mod (fun _ => False) W w') := fun W hm => lv_id (H4'.out.keep hm)
  have Hm4 : Hid (∀ W, Mod (fun _ => False) w5 W → Calls Try.prog 21 #[.slice (some ⟨q4, 0, none⟩) 248 248] W fun e w' => e = .returned (.bool true) ∧ Mod (fun _ => False) W w') := fun W hm => lv_may (H4'.out.keep hm)
  have Hold := Lib.hid H4'.out.old
  clear hk hcs c0 hz3 hl5
  go_wp2_with fail
  refine (Hu4.out _ (Mod.refl _ _)).mono ?_
  rintro e w6 ⟨rfl, hm6⟩
  have Hm6 := Lib.hid hm6
  clear hm6
  go_wp2_with fail
  refine (Hu3.out _ Hm6.out).mono ?_
  rintro e w7 ⟨rfl, hm7⟩
  have Hm7 := Lib.hid (Hm6.out.trans hm7 (fun _ _ h => h))
  clear hm7
  go_wp2_with fail
  refine (Hi4.out _ Hm7.out).mono ?_
  rintro e w8 ⟨rfl, hm8⟩
  have Hm8 := Lib.hid (Hm7.out.trans hm8 (fun _ _ h => h))
  clear hm8
  go_wp2_with fail
  refine (Hm4.out _ Hm8.out).mono ?_
  rintro e w9 ⟨rfl, hm9⟩
  have Hm9 := Lib.hid (Hold.out.trans (Hm8.out.trans hm9 (fun _ _ h => h)) (fun _ _ h => h))
  clear hm9
  go_wp2
  go_ret
  exact ⟨rfl, Hm9.out⟩
end Go.Proofs.Ytgeodpflaebbgaa
