/-
  The exported functions of package page but All.
-/
import Derived.Test.YtgeodpflaebbgaaDec2
import Derived.Test.YtgeodpflaebbgaaEnc
namespace Go.Proofs.Ytgeodpflaebbgaa
open Go Go.RowKit Go.Shelf

/-- A page in memory: 248 bytes in a block of their own; nothing old has turned. -/
structure PgAt (w w' : World) (q : Nat) (g : Pg) : Prop where
  blk : w'.heap[q]? = some (.cells ((enc g).map bv).toArray 5 (0, 0))
  lo : w.heap.size ≤ q
  old : Mod (fun _ => False) w w'
theorem PgAt.sl {w w' : World} {q : Nat} {g : Pg} (h : PgAt w w' q g) (hg : Good g) : Sl w' (some ⟨q, 0, none⟩) 248 248 (enc g) := by
  have := Sl.lit_ _ h.blk
  rw [enc_len hg] at this
  exact this
/-- What New, Stamped and Put answer: a page, or an error without one. -/
def PgAns (w w' : World) (e : Ending) (er : Int) (g : Pg) : Prop :=
  (er = 0 ∧ ∃ q, e = .returned (.tuple #[.slice (some ⟨q, 0, none⟩) 248 248, .int .i64 0]) ∧ PgAt w w' q g) ∨
  (er ≠ 0 ∧ e = .returned (.tuple #[.slice none 0 0, .int .i64 er]) ∧ Mod (fun _ => False) w w')

theorem Dcd.rd {w w' : World} {x : MV} {g : Pg} (h : Dcd w w' x g) : MRd w' (some ⟨x.p, 2, none⟩) x.l := h.ct.at_.rd
theorem Dcd.any {w w' : World} {x : MV} {g : Pg} (h : Dcd w w' x g) : Vals w' (fun _ => True) x.l g.l := h.ct.vals.mono (fun _ _ => trivial)

set_option maxRecDepth 100000 in
theorem new_ok (w : World) (i : Int) (h0 : 0 ≤ i) (h1 : i ≤ 65535) :
    Calls Try.prog 12 #[.int .i64 i] w fun e w' => ∃ q, e = .returned (.tuple #[.slice (some ⟨q, 0, none⟩) 248 248, .int .i64 0]) ∧ PgAt w w' q ⟨i, 0, []⟩ := by
  have hd : decide (i < 0) = false := by rw [decide_eq_false_iff_not]; omega
  have hd2 : decide (65535 < i) = false := by rw [decide_eq_false_iff_not]; omega
  have ha : Mod (fun _ => False) w (w.alloc (.cells #[.int .i64 i, .int .i64 0, .slice none 0 0] 64)) := (Mod.refl _ w).alloc _
  have hat : MV.At (w.alloc (.cells #[.int .i64 i, .int .i64 0, .slice none 0 0] 64)) w.heap.size ⟨w.heap.size, i, 0, none, 0, []⟩ := ⟨heap_alloc_new w _, OwN.nil _ _ _ _, Nat.le_refl _, by simp [blkOf], List.Pairwise.nil⟩
  have He := Lib.hid (encode_ok _ _ _ hat ⟨i, 0, []⟩ rfl rfl trivial (good_new i h0 h1))
  have Ha := Lib.hid ha
  clear ha hat h0 h1
  go_enter Try.func12, Try.ntmps12
  go_wp2_with fail
  refine He.out.mono ?_
  rintro e w2 ⟨q, rfl, hb, hl, hm⟩
  have Ho : Hid (PgAt w w2 q ⟨i, 0, []⟩) := ⟨hb, by have := Ha.out.size; omega, Ha.out.trans hm (fun _ _ h => h)⟩
  clear hb hl hm
  go_wp2
  go_ret2
  exact ⟨q, rfl, Ho.out⟩
set_option maxRecDepth 100000 in
theorem new_bad (w : World) (i : Int) (h : i < 0 ∨ 65535 < i) :
    Calls Try.prog 12 #[.int .i64 i] w fun e w' => e = .returned (.tuple #[.slice none 0 0, .int .i64 1]) ∧ w' = w := by
  by_cases h0 : i < 0
  · have hd : decide (i < 0) = true := by simpa using h0
    clear h
    go_enter Try.func12, Try.ntmps12
    go_wp2
    go_ret2
    exact ⟨rfl, rfl⟩
  · have hd : decide (i < 0) = false := by simpa using h0
    have hd2 : decide (65535 < i) = true := by simpa using h.resolve_left h0
    clear h
    go_enter Try.func12, Try.ntmps12
    go_wp2
    go_ret2
    exact ⟨rfl, rfl⟩

theorem dcd_used {w w' : World} {x : MV} {g : Pg} (hx : Dcd w w' x g) (hg : Good g) :
    Calls Try.prog 37 #[.pointer (some ⟨x.p, 0, none⟩)] w' fun e w2 => e = .returned (.int .i64 (usedL g.l)) ∧ Mod (fun _ => False) w' w2 := by
  have hl := hx.ct.vals.len
  have hc := hg.count
  rw [← hx.ct.vals.sum]
  exact used_ok w' x.p x.l hx.rd (by omega) (fun z hz => by have := hx.ct.vals.short hg.val z hz; omega)
section
variable (w : World) (A : Option Addr) (n c : Nat) (xs : List UInt8) (h : Sl w A n c xs)
include h
set_option maxRecDepth 100000 in
theorem may_ok : Calls Try.prog 21 #[.slice A n c] w fun e w' => e = .returned (.bool (dec xs).isSome) ∧ Mod (fun _ => False) w w' := by
  have Hd := Lib.hid (decode_ok w A n c xs h)
  clear h
  go_enter Try.func21, Try.ntmps21
  go_wp2_with fail
  refine Hd.out.mono ?_
  rintro e w2 ⟨x, rfl, hx⟩
  have Hm := Lib.hid hx.old
  clear hx
  go_wp2
  go_ret
  exact ⟨rfl, Hm.out⟩
set_option maxRecDepth 100000 in
theorem id_ok : Calls Try.prog 23 #[.slice A n c] w fun e w' => e = .returned (.int .i64 (cont xs).id) ∧ Mod (fun _ => False) w w' := by
  have Hd := Lib.hid (decode_ok w A n c xs h)
  clear h
  go_enter Try.func23, Try.ntmps23
  go_wp2_with fail
  refine Hd.out.mono ?_
  rintro e w2 ⟨x, rfl, hx⟩
  have c0 : w2.cell? ⟨x.p, 0, none⟩ = some (.int .i64 (cont xs).id) := by rw [cell_of_row _ _ _ _ _ _ hx.ct.at_.obj, hx.pid]; rfl
  have Hm := Lib.hid hx.old
  clear hx
  go_wp2
  go_ret
  exact ⟨rfl, Hm.out⟩
set_option maxRecDepth 100000 in
theorem lsn_ok : Calls Try.prog 19 #[.slice A n c] w fun e w' => e = .returned (.int .i64 (cont xs).lsn) ∧ Mod (fun _ => False) w w' := by
  have Hd := Lib.hid (decode_ok w A n c xs h)
  clear h
  go_enter Try.func19, Try.ntmps19
  go_wp2_with fail
  refine Hd.out.mono ?_
  rintro e w2 ⟨x, rfl, hx⟩
  have c0 : w2.cell? ⟨x.p, 1, none⟩ = some (.int .i64 (cont xs).lsn) := by rw [cell_of_row _ _ _ _ _ _ hx.ct.at_.obj, hx.plsn]; rfl
  have Hm := Lib.hid hx.old
  clear hx
  go_wp2
  go_ret
  exact ⟨rfl, Hm.out⟩
set_option maxRecDepth 100000 in
theorem pused_ok : Calls Try.prog 24 #[.slice A n c] w fun e w' => e = .returned (.int .i64 (usedL (cont xs).l)) ∧ Mod (fun _ => False) w w' := by
  have Hd := Lib.hid (decode_ok w A n c xs h)
  clear h
  go_enter Try.func24, Try.ntmps24
  go_wp2_with fail
  refine Hd.out.mono ?_
  rintro e w2 ⟨x, rfl, hx⟩
  have Hm := Lib.hid hx.old
  have Hu := Lib.hid (dcd_used hx (good_cont xs))
  clear hx
  go_wp2_with fail
  refine Hu.out.mono ?_
  rintro e w3 ⟨rfl, hm3⟩
  have Hm3 := Lib.hid (Hm.out.trans hm3 (fun _ _ h => h))
  clear hm3
  go_wp2
  go_ret
  exact ⟨rfl, Hm3.out⟩
set_option maxRecDepth 100000 in
set_option maxHeartbeats 1000000 in
theorem stamped_ok (k : Int) : Calls Try.prog 18 #[.slice A n c, .int .i64 k] w fun e w' => PgAns w w' e (if (dec xs).isSome then (stampP (cont xs) k).1 else 1) (stampP (cont xs) k).2 := by
  have Hd := Lib.hid (decode_ok w A n c xs h)
  clear h
  cases hs : (dec xs).isSome with
  | false =>
    rw [hs] at Hd
    go_enter Try.func18, Try.ntmps18
    go_wp2_with fail
    refine Hd.out.mono ?_
    rintro e w2 ⟨x, rfl, hx⟩
    have Hm := Lib.hid hx.old
    clear hx
    go_wp2
    go_ret2
    exact .inr ⟨by decide, rfl, Hm.out⟩
  | true =>
    rw [hs] at Hd
    clear hs
    by_cases h0 : k < 0
    · have hd : decide (k < 0) = true := by simpa using h0
      have Hp : Hid (stampP (cont xs) k = (1, cont xs)) := by show _ = _; unfold stampP; rw [if_pos (.inl h0)]
      go_enter Try.func18, Try.ntmps18
      go_wp2_with fail
      refine Hd.out.mono ?_
      rintro e w2 ⟨x, rfl, hx⟩
      have Hm := Lib.hid hx.old
      clear hx
      go_wp2
      go_ret2
      rw [Hp.out]
      exact .inr ⟨by simp, rfl, Hm.out⟩
    · have hd : decide (k < 0) = false := by simpa using h0
      by_cases h1 : 4294967295 < k
      · have hd1 : decide (4294967295 < k) = true := by simpa using h1
        have Hp : Hid (stampP (cont xs) k = (1, cont xs)) := by show _ = _; unfold stampP; rw [if_pos (.inr h1)]
        go_enter Try.func18, Try.ntmps18
        go_wp2_with fail
        refine Hd.out.mono ?_
        rintro e w2 ⟨x, rfl, hx⟩
        have Hm := Lib.hid hx.old
        clear hx
        go_wp2
        go_ret2
        rw [Hp.out]
        exact .inr ⟨by simp, rfl, Hm.out⟩
      · have hd1 : decide (4294967295 < k) = false := by simpa using h1
        have Hp : Hid (stampP (cont xs) k = (0, ⟨(cont xs).id, k, (cont xs).l⟩)) := by show _ = _; unfold stampP; rw [if_neg (by omega)]
        have Hgd := Lib.hid (good_stamp (good_cont xs) k (by omega) (by omega))
        go_enter Try.func18, Try.ntmps18
        go_wp2_with fail
        refine Hd.out.mono ?_
        rintro e w2 ⟨x, rfl, hx⟩
        have ho := hx.ct.at_.obj
        have c1 : w2.cell? ⟨x.p, 1, none⟩ = some (.int .i64 x.plsn) := by rw [cell_of_row _ _ _ _ _ _ ho]; rfl
        have fr1 : w2.frozen? ⟨x.p, 1, none⟩ = false := frozen_of_block ho 1
        have hm3 : Mod (fun j => j = x.p) w2 (w2.setCell ⟨x.p, 1, none⟩ (.int .i64 k)) := (Mod.refl (fun j => j = x.p) w2).setCell (p := ⟨x.p, 1, none⟩) (fun _ => rfl) _
        have hat : MV.At (w2.setCell ⟨x.p, 1, none⟩ (.int .i64 k)) w.heap.size ⟨x.p, x.pid, k, x.A, x.c, x.l⟩ :=
          ⟨by have := heap_set ho 1 (.int .i64 k); simpa using this, hx.ct.at_.row.mod hm3 (fun j e e' => hx.ct.at_.ne (by rw [e']at e; exact e)), hx.ct.at_.pb, hx.ct.at_.ne, hx.ct.at_.srt⟩
        have hv : Vals (w2.setCell ⟨x.p, 1, none⟩ (.int .i64 k)) (fun _ => True) x.l (cont xs).l := hx.ct.vals.mod hm3 (fun j _ hj => ⟨fun e => by obtain ⟨_, cs, hc⟩ := hj; exact hx.ct.at_.not8 (.inl e) cs hc, trivial⟩)
        have He := Lib.hid (encode_ok _ _ _ hat ⟨(cont xs).id, k, (cont xs).l⟩ hx.pid rfl hv Hgd.out)
        have Hm := Lib.hid (hx.old.trans hm3 (fun j hj e => by have := hx.ct.at_.pb; omega))
        clear hx ho hm3 hat hv
        go_wp2_with fail
        refine He.out.mono ?_
        rintro e w4 ⟨q, rfl, hb, hl, hm⟩
        have Ho : Hid (PgAt w w4 q ⟨(cont xs).id, k, (cont xs).l⟩) := ⟨hb, by have := Hm.out.size; omega, Hm.out.trans hm (fun _ _ h => h)⟩
        clear hb hl hm
        go_wp2
        go_ret2
        rw [Hp.out]
        exact .inl ⟨rfl, q, rfl, Ho.out⟩
end
end Go.Proofs.Ytgeodpflaebbgaa
