/-
  Package lock: Grant.
-/
import Derived.Test.YtpkjafadhnecfaaKBlk
import Derived.Test.YtpkjafadhnecfaaKHold
import Derived.Test.YtpkjafadhnecfaaKIdx
import Derived.Test.YtpkjafadhnecfaaKIns
import Derived.Laws.EntriesVeiled
namespace Go.Proofs.Ytpkjafadhnecfaa
open Go Go.RowKit

def okA (tx res mode : Int) : Bool := inB tx 1 255 && (inB res (-1) 65535 && inB mode 1 15)
theorem okA_iff {tx res mode : Int} : okA tx res mode = true ↔ (1 ≤ tx ∧ tx ≤ 255) ∧ (-1 ≤ res ∧ res ≤ 65535) ∧ 1 ≤ mode ∧ mode ≤ 15 := by
  unfold okA
  rw [Bool.and_eq_true, Bool.and_eq_true, inB_iff, inB_iff, inB_iff]
/-- The error of Grant. -/
def grE (l : List Tr) (tx res mode : Int) : Int := if okA tx res mode then (if blks l tx res mode = [] then 0 else 5) else 1
/-- The locks that Grant answers. -/
def grL (l : List Tr) (tx res mode : Int) : List Tr := if grE l tx res mode = 0 then grt l tx res mode else []
theorem grE_arg {l : List Tr} {tx res mode : Int} (h : okA tx res mode = false) : grE l tx res mode = 1 ∧ grL l tx res mode = [] := by
  have e : grE l tx res mode = 1 := by unfold grE; rw [h]; rfl
  exact ⟨e, by unfold grL; rw [e]; rfl⟩
theorem grE_state {l : List Tr} {tx res mode : Int} (h : okA tx res mode = true) (hb : blks l tx res mode ≠ []) : grE l tx res mode = 5 ∧ grL l tx res mode = [] := by
  have e : grE l tx res mode = 5 := by unfold grE; rw [h, if_pos rfl, if_neg hb]
  exact ⟨e, by unfold grL; rw [e]; rfl⟩
theorem grE_yes {l : List Tr} {tx res mode : Int} (h : okA tx res mode = true) (hb : blks l tx res mode = []) : grE l tx res mode = 0 ∧ grL l tx res mode = grt l tx res mode := by
  have e : grE l tx res mode = 0 := by unfold grE; rw [h, if_pos rfl, if_pos hb]
  exact ⟨e, by unfold grL; rw [e, if_pos rfl]⟩
theorem grE_zero {l : List Tr} {tx res mode : Int} (h : grE l tx res mode = 0) : okA tx res mode = true ∧ blks l tx res mode = [] ∧ grL l tx res mode = grt l tx res mode := by
  cases ho : okA tx res mode with
  | false => rw [(grE_arg ho).1] at h; cases h
  | true =>
    by_cases hb : blks l tx res mode = []
    · exact ⟨rfl, hb, (grE_yes ho hb).2⟩
    · rw [(grE_state ho hb).1] at h; cases h
/-- What Grant answers. -/
def GrAns (w w' : World) (l : List Tr) (er : Int) (e : Ending) : Prop :=
  ∃ A c, e = .returned (.tuple #[.slice A l.length c, .int .i64 er]) ∧ Ow3 w' w.heap.size 37 A l.length c l ∧ Mod (fun _ => False) w w'
theorem grt_len (l : List Tr) (tx res mode : Int) : (grt l tx res mode).length = (l.filter fun y => !owF tx res y).length + 1 := by
  unfold grt
  rw [← gr_insert, List.length_append, List.length_cons, List.length_take, List.length_drop]
  omega

set_option maxRecDepth 100000 in
set_option maxHeartbeats 1600000 in
theorem grant_arg (w : World) (A0 : Option Addr) (n c0 : Nat) (tx res mode : Int) (ho : okA tx res mode = false) :
    Calls Try.prog 14 #[.slice A0 n c0, .int .i64 tx, .int .i64 res, .int .i64 mode] w fun e w' => GrAns w w' [] 1 e := by
  have W1 := Lib.hid (fun w' => within_ok w' tx 1 255)
  have W2 := Lib.hid (fun w' => within_ok w' res (-1) 65535)
  have W3 := Lib.hid (fun w' => within_ok w' mode 1 15)
  unfold okA at ho
  have HO : Hid (GrAns w w [] 1 (.returned (.tuple #[.slice none 0 0, .int .i64 1]))) := ⟨none, 0, rfl, OwN.nil _ _ _ _, Mod.refl _ _⟩
  generalize inB tx 1 255 = p at *
  generalize inB res (-1) 65535 = q at *
  generalize inB mode 1 15 = r at *
  cases p with
  | false =>
    go_enter Try.func14, Try.ntmps14
    go_wp2_with fail
    refine (W1.out _).mono ?_
    rintro e w' ⟨rfl, h'⟩; subst w'
    go_wp2
    go_ret2
    exact HO.out
  | true =>
    cases q with
    | false =>
      go_enter Try.func14, Try.ntmps14
      go_wp2_with fail
      refine (W1.out _).mono ?_
      rintro e w' ⟨rfl, h'⟩; subst w'
      go_wp2_with fail
      refine (W2.out _).mono ?_
      rintro e w' ⟨rfl, h'⟩; subst w'
      go_wp2
      go_ret2
      exact HO.out
    | true =>
      cases r with
      | true => cases ho
      | false =>
        go_enter Try.func14, Try.ntmps14
        go_wp2_with fail
        refine (W1.out _).mono ?_
        rintro e w' ⟨rfl, h'⟩; subst w'
        go_wp2_with fail
        refine (W2.out _).mono ?_
        rintro e w' ⟨rfl, h'⟩; subst w'
        go_wp2_with fail
        refine (W3.out _).mono ?_
        rintro e w' ⟨rfl, h'⟩; subst w'
        go_wp2
        go_ret2
        exact HO.out

set_option maxRecDepth 100000 in
set_option maxHeartbeats 1600000 in
theorem grant_state (w : World) (A0 : Option Addr) (n c0 : Nat) (l : List Tr) (h : Tl w A0 n c0 l) (hn : n ≤ 1000) (tx res mode : Int) (ho : okA tx res mode = true) (hb : blks l tx res mode ≠ []) :
    Calls Try.prog 14 #[.slice A0 n c0, .int .i64 tx, .int .i64 res, .int .i64 mode] w fun e w' => GrAns w w' [] 5 e := by
  have W1 := Lib.hid (fun w' => within_ok w' tx 1 255)
  have W2 := Lib.hid (fun w' => within_ok w' res (-1) 65535)
  have W3 := Lib.hid (fun w' => within_ok w' mode 1 15)
  have HB := Lib.hid (blockers_ok w A0 n c0 l h hn tx res mode)
  unfold okA at ho
  unfold BkAns at HB
  have hbl : 0 < (blks l tx res mode).length := List.length_pos_iff.2 hb
  clear h hb
  generalize blks l tx res mode = bs at *
  obtain ⟨k, hk⟩ : ∃ k, bs.length = k := ⟨_, rfl⟩
  rw [hk] at HB hbl
  generalize inB tx 1 255 = p at *
  generalize inB res (-1) 65535 = q at *
  generalize inB mode 1 15 = r at *
  clear hk
  cases p with
  | false => cases ho
  | true =>
    cases q with
    | false => cases ho
    | true =>
      cases r with
      | false => cases ho
      | true =>
        go_enter Try.func14, Try.ntmps14
        go_wp2_with fail
        refine (W1.out _).mono ?_
        rintro e w' ⟨rfl, h'⟩; subst w'
        go_wp2_with fail
        refine (W2.out _).mono ?_
        rintro e w' ⟨rfl, h'⟩; subst w'
        go_wp2_with fail
        refine (W3.out _).mono ?_
        rintro e w' ⟨rfl, h'⟩; subst w'
        go_wp2_with fail
        refine HB.out.mono ?_
        rintro e w2 ⟨B, cB, rfl, _, hm2⟩
        have HM2 := Lib.hid hm2
        clear hm2
        have hd : decide ((0 : Int) < (k : Int)) = true := by simpa using hbl
        go_wp2
        go_ret2
        exact ⟨none, 0, rfl, OwN.nil _ _ _ _, HM2.out⟩

/-- What is held on behind Grant's calls: the locks' slice, the two boxes of the condition, the box of the condition itself. -/
structure Gst (w W : World) (g k b : Nat) (tx res : Int) : Prop where
  tx_ : IB W g tx
  res_ : IB W k res
  fn : W.heap[b]? = some (.cells #[.func (.func 45) #[] #[.pointer (some ⟨g, 0, none⟩), .pointer (some ⟨k, 0, none⟩)]] 40 (0, 0))
  old : Mod (fun _ => False) w W
theorem Gst.keep {w W W' : World} {g k b : Nat} {tx res : Int} (h : Gst w W g k b tx res) (hm : Mod (fun _ => False) W W') : Gst w W' g k b tx res :=
  ⟨h.tx_.keep hm, h.res_.keep hm, (hm.block b (Array.getElem?_eq_some_iff.1 h.fn).1 id).trans h.fn, h.old.trans hm (fun _ _ h => h)⟩
theorem Gst.cell {w W : World} {g k b : Nat} {tx res : Int} (h : Gst w W g k b tx res) : W.cell? ⟨b, 0, none⟩ = some (.func (.func 45) #[] #[.pointer (some ⟨g, 0, none⟩), .pointer (some ⟨k, 0, none⟩)]) := by
  rw [cell_of_row _ _ _ _ _ _ h.fn]; rfl

set_option maxRecDepth 100000 in
set_option maxHeartbeats 6400000 in
theorem grant_yes (w : World) (A0 : Option Addr) (n c0 : Nat) (l : List Tr) (h : Tl w A0 n c0 l) (hn : n ≤ 1000) (tx res mode : Int) (ho : okA tx res mode = true) (hb : blks l tx res mode = []) :
    Calls Try.prog 14 #[.slice A0 n c0, .int .i64 tx, .int .i64 res, .int .i64 mode] w fun e w' => GrAns w w' (grt l tx res mode) 0 e := by
  have W1 := Lib.hid (fun w' => within_ok w' tx 1 255)
  have W2 := Lib.hid (fun w' => within_ok w' res (-1) 65535)
  have W3 := Lib.hid (fun w' => within_ok w' mode 1 15)
  have HX := Lib.hid h
  have HB := Lib.hid (blockers_ok w A0 n c0 l h hn tx res mode)
  unfold BkAns at HB
  rw [hb] at HB
  have hmode := (okA_iff.1 ho).2.2
  have Hll : Hid (l.length = n) := h.len
  have HI := Lib.hid (fun W (hW : Mod (fun _ => False) w W) g k (hg : IB W g tx) (hk : IB W k res) => idx_ok W A0 n c0 l (h.keep hW) hn g k (owF tx res) (fun V hV s => by1_ok V s tx res g k (hg.keep hV) (hk.keep hV)))
  have HH := Lib.hid (fun W (hW : Mod (fun _ => False) w W) => holds_ok W A0 n c0 l (h.keep hW) hn tx res)
  have HF := Lib.hid (fun W g k b (hS : Gst w W g k b tx res) => find_Grant W A0 n c0 l (h.keep hS.old) hn b (fun s => !owF tx res s) (fun V hV s => grant1_ok V s tx res b g k (hS.keep hV).cell (hS.keep hV).tx_ (hS.keep hV).res_))
  have Hgl := Lib.hid (grt_len l tx res mode)
  obtain ⟨q, hq⟩ : ∃ q : Int, ((hld l tx res ||| m4 mode : Nat) : Int) = q := ⟨_, rfl⟩
  have Hg : Hid ((l.filter fun y => !owF tx res y).take (l.findIdx (owF tx res)) ++ ⟨tx, res, q⟩ :: (l.filter fun y => !owF tx res y).drop (l.findIdx (owF tx res)) = grt l tx res mode) := by
    rw [← hq]
    exact gr_insert l
  have hmd : bits .or .i64 ((hld l tx res : Nat) : Int) mode = q := by
    rw [← hq]
    have e : mode = ((m4 mode : Nat) : Int) := by unfold m4; omega
    rw [← i64_or_nat _ _ (hld_lt l tx res) (m4_lt mode), ← e]
  have Hle := Lib.hid (idx_le (owF tx res) l)
  have Hix : Hid ((decide (idxI (owF tx res) l < 0) = true ∧ l.findIdx (owF tx res) = n) ∨ (decide (idxI (owF tx res) l < 0) = false ∧ idxI (owF tx res) l = ((l.findIdx (owF tx res) : Nat) : Int))) := by
    cases ha : l.any (owF tx res) with
    | true => exact .inr ⟨by rw [idx_any ha]; simp, idx_any ha⟩
    | false => exact .inl ⟨by rw [(idx_none ha).1]; decide, by rw [(idx_none ha).2, Hll.out]⟩
  have Hfl : Hid ((l.filter fun y => !owF tx res y).length ≤ n) := by
    show _ ≤ _
    have := List.length_filter_le (fun y => !owF tx res y) l
    have := h.len
    omega
  unfold okA at ho
  clear h hb hmode hq
  generalize l.findIdx (owF tx res) = fi at *
  generalize idxI (owF tx res) l = ii at *
  generalize hld l tx res = hh at *
  generalize (l.filter fun y => !owF tx res y) = ot at *
  generalize grt l tx res mode = gl at *
  unfold FdAns at HF
  have p1 : inB tx 1 255 = true := by
    cases hp : inB tx 1 255 with
    | true => rfl
    | false => rw [hp] at ho; cases ho
  rw [p1] at W1 ho
  have p2 : inB res (-1) 65535 = true := by
    cases hp : inB res (-1) 65535 with
    | true => rfl
    | false => rw [hp] at ho; cases ho
  rw [p2] at W2 ho
  have p3 : inB mode 1 15 = true := by simpa using ho
  rw [p3] at W3
  clear p1 p2 p3 ho
  have hL := Hfl.out
  rcases Hix.out with ⟨hd, hfi⟩ | ⟨hd, hfi⟩
  · rw [hfi] at Hg Hle
    clear hfi
    clear Hix
    go_enter Try.func14, Try.ntmps14
    go_wp2_with fail
    refine (W1.out _).mono ?_
    rintro e w' ⟨rfl, h'⟩; subst w'
    go_wp2_with fail
    refine (W2.out _).mono ?_
    rintro e w' ⟨rfl, h'⟩; subst w'
    go_wp2_with fail
    refine (W3.out _).mono ?_
    rintro e w' ⟨rfl, h'⟩; subst w'
    go_wp2_with fail
    refine HB.out.mono ?_
    rintro e w2 ⟨B, cB, rfl, _, hm2⟩
    have HM2 := Lib.hid hm2
    clear hm2 HB W1 W2 W3
    go_wp2_with fail
    refine (by_ok _ tx res).mono ?_
    rintro e w3 ⟨g, k, rfl, hg, hk, hm3⟩
    have hfn := heap_alloc_new w3 (.cells #[.func (.func 45) #[] #[.pointer (some ⟨g, 0, none⟩), .pointer (some ⟨k, 0, none⟩)]] 40)
    have HS : Hid (Gst w (w3.alloc (.cells #[.func (.func 45) #[] #[.pointer (some ⟨g, 0, none⟩), .pointer (some ⟨k, 0, none⟩)]] 40)) g k w3.heap.size tx res) :=
      ⟨hg.keep ((Mod.refl _ _).alloc _), hk.keep ((Mod.refl _ _).alloc _), hfn, (HM2.out.trans hm3 (fun _ _ h => h)).alloc _⟩
    clear hg hk hm3 hfn
    go_wp2_with fail
    refine (HI.out _ HS.out.old g k HS.out.tx_ HS.out.res_).mono ?_
    rintro e w4 ⟨rfl, hm4⟩
    have HS4 := Lib.hid (HS.out.keep hm4)
    clear hm4 HS HI
    go_wp2_with fail
    refine (HH.out _ HS4.out.old).mono ?_
    rintro e w5 ⟨rfl, hm5⟩
    have HS5 := Lib.hid (HS4.out.keep hm5)
    clear hm5 HS4 HH
    have Hb5 : Hid (RBx (w5.alloc (.cells #[.int .i64 tx, .int .i64 res, .int .i64 q] 37)) w5.heap.size 37 ⟨tx, res, q⟩) := RBx.new w5 _ ⟨tx, res, q⟩
    have HS6 := Lib.hid (HS5.out.keep ((Mod.refl _ _).alloc (.cells #[.int .i64 tx, .int .i64 res, .int .i64 q] 37)))
    go_wp2_with fail
    refine (HF.out _ g k _ HS6.out).mono ?_
    rintro e w7 ⟨F, cF, rfl, hF, hm7⟩
    have Hb7 := Lib.hid (Hb5.out.keep hm7)
    have HM7 := Lib.hid (HS6.out.old.trans hm7 (fun _ _ h => h))
    have Hbase : Hid ((w5.alloc (.cells #[.int .i64 tx, .int .i64 res, .int .i64 q] 37)).heap.size ≤ w7.heap.size) := hm7.size
    have Hb0 := Lib.hid HS6.out.old.size
    obtain ⟨e0, e1, e2⟩ := Hb7.out.cells
    have HFo := Lib.hid hF
    clear hF hm7 HF HS6 HS5
    have HIn := Lib.hid (insert_ok (w7.alloc (.cells #[.int .i64 tx, .int .i64 res, .int .i64 q] 37)) (w5.alloc (.cells #[.int .i64 tx, .int .i64 res, .int .i64 q] 37)).heap.size F ot.length cF n ot (OwN.alloc HFo.out _) (by omega) Hle.out (by rw [World.size_alloc w7]; have := Hbase.out; omega) w7.heap.size ⟨tx, res, q⟩ (heap_alloc_new w7 (.cells #[.int .i64 tx, .int .i64 res, .int .i64 q] 37)) (fun e => by have := (HFo.out.lt _ e).2; omega))
    go_wp2_with fail
    refine HIn.out.mono ?_
    rintro e w8 ⟨A', c', rfl, hP⟩
    have HP := Lib.hid hP
    clear hP HIn e0 e1 e2
    go_wp2
    go_ret2
    refine ⟨A', c', by rw [Hgl.out]; rfl, ?_, ?_⟩
    · have ho8 := HP.out.own
      rw [Hg.out] at ho8
      rw [Hgl.out]
      have ho9 : Ow3 w8 (w5.alloc (.cells #[.int .i64 tx, .int .i64 res, .int .i64 q] 37)).heap.size 37 A' (ot.length + 1) c' gl := ho8
      exact Ow3.rebase3 ho9 (fun j hj => by have := (ho9.lt j hj).1; have := Hb0.out; omega)
    · refine Mod.mono (F := fun j => w.heap.size ≤ j) ?_ (fun j hj e => by omega)
      exact ((HM7.out.alloc (.cells #[.int .i64 tx, .int .i64 res, .int .i64 q] 37)).mono (fun _ _ h => h.elim)).trans HP.out.mod (fun j _ e => by have := (HFo.out.lt j e).1; have := Hb0.out; omega)
  · subst hfi
    clear Hix
    go_enter Try.func14, Try.ntmps14
    go_wp2_with fail
    refine (W1.out _).mono ?_
    rintro e w' ⟨rfl, h'⟩; subst w'
    go_wp2_with fail
    refine (W2.out _).mono ?_
    rintro e w' ⟨rfl, h'⟩; subst w'
    go_wp2_with fail
    refine (W3.out _).mono ?_
    rintro e w' ⟨rfl, h'⟩; subst w'
    go_wp2_with fail
    refine HB.out.mono ?_
    rintro e w2 ⟨B, cB, rfl, _, hm2⟩
    have HM2 := Lib.hid hm2
    clear hm2 HB W1 W2 W3
    go_wp2_with fail
    refine (by_ok _ tx res).mono ?_
    rintro e w3 ⟨g, k, rfl, hg, hk, hm3⟩
    have hfn := heap_alloc_new w3 (.cells #[.func (.func 45) #[] #[.pointer (some ⟨g, 0, none⟩), .pointer (some ⟨k, 0, none⟩)]] 40)
    have HS : Hid (Gst w (w3.alloc (.cells #[.func (.func 45) #[] #[.pointer (some ⟨g, 0, none⟩), .pointer (some ⟨k, 0, none⟩)]] 40)) g k w3.heap.size tx res) :=
      ⟨hg.keep ((Mod.refl _ _).alloc _), hk.keep ((Mod.refl _ _).alloc _), hfn, (HM2.out.trans hm3 (fun _ _ h => h)).alloc _⟩
    clear hg hk hm3 hfn
    go_wp2_with fail
    refine (HI.out _ HS.out.old g k HS.out.tx_ HS.out.res_).mono ?_
    rintro e w4 ⟨rfl, hm4⟩
    have HS4 := Lib.hid (HS.out.keep hm4)
    clear hm4 HS HI
    go_wp2_with fail
    refine (HH.out _ HS4.out.old).mono ?_
    rintro e w5 ⟨rfl, hm5⟩
    have HS5 := Lib.hid (HS4.out.keep hm5)
    clear hm5 HS4 HH
    have Hb5 : Hid (RBx (w5.alloc (.cells #[.int .i64 tx, .int .i64 res, .int .i64 q] 37)) w5.heap.size 37 ⟨tx, res, q⟩) := RBx.new w5 _ ⟨tx, res, q⟩
    have HS6 := Lib.hid (HS5.out.keep ((Mod.refl _ _).alloc (.cells #[.int .i64 tx, .int .i64 res, .int .i64 q] 37)))
    go_wp2_with fail
    refine (HF.out _ g k _ HS6.out).mono ?_
    rintro e w7 ⟨F, cF, rfl, hF, hm7⟩
    have Hb7 := Lib.hid (Hb5.out.keep hm7)
    have HM7 := Lib.hid (HS6.out.old.trans hm7 (fun _ _ h => h))
    have Hbase : Hid ((w5.alloc (.cells #[.int .i64 tx, .int .i64 res, .int .i64 q] 37)).heap.size ≤ w7.heap.size) := hm7.size
    have Hb0 := Lib.hid HS6.out.old.size
    obtain ⟨e0, e1, e2⟩ := Hb7.out.cells
    have HFo := Lib.hid hF
    clear hF hm7 HF HS6 HS5
    have HIn := Lib.hid (insert_ok (w7.alloc (.cells #[.int .i64 tx, .int .i64 res, .int .i64 q] 37)) (w5.alloc (.cells #[.int .i64 tx, .int .i64 res, .int .i64 q] 37)).heap.size F ot.length cF fi ot (OwN.alloc HFo.out _) (by omega) Hle.out (by rw [World.size_alloc w7]; have := Hbase.out; omega) w7.heap.size ⟨tx, res, q⟩ (heap_alloc_new w7 (.cells #[.int .i64 tx, .int .i64 res, .int .i64 q] 37)) (fun e => by have := (HFo.out.lt _ e).2; omega))
    go_wp2_with fail
    refine HIn.out.mono ?_
    rintro e w8 ⟨A', c', rfl, hP⟩
    have HP := Lib.hid hP
    clear hP HIn e0 e1 e2
    go_wp2
    go_ret2
    refine ⟨A', c', by rw [Hgl.out]; rfl, ?_, ?_⟩
    · have ho8 := HP.out.own
      rw [Hg.out] at ho8
      rw [Hgl.out]
      have ho9 : Ow3 w8 (w5.alloc (.cells #[.int .i64 tx, .int .i64 res, .int .i64 q] 37)).heap.size 37 A' (ot.length + 1) c' gl := ho8
      exact Ow3.rebase3 ho9 (fun j hj => by have := (ho9.lt j hj).1; have := Hb0.out; omega)
    · refine Mod.mono (F := fun j => w.heap.size ≤ j) ?_ (fun j hj e => by omega)
      exact ((HM7.out.alloc (.cells #[.int .i64 tx, .int .i64 res, .int .i64 q] 37)).mono (fun _ _ h => h.elim)).trans HP.out.mod (fun j _ e => by have := (HFo.out.lt j e).1; have := Hb0.out; omega)
end Go.Proofs.Ytpkjafadhnecfaa
