/-
  What the document's Read asks of a sector: mathematics.
  bobbinlaw08.ring: what a device has at some places, each a slice of bytes of its own.
  The document's Read: its list.
  The document's Read: what lies while a sector's records are taken.
-/
import Derived.Test.YtnbamljaiahmdaaGreatQUn2
import Derived.Test.YtnbamljaiahmdaaGreatQRd
import Derived.Test.YtnbamljaiahmdaaGreatQE
import Derived.Test.YtnbamljaiahmdaaGreatQRdE
namespace Go.Proofs.YtnbamljaiahmdaaGreat
open Go Go.RowKit

theorem openErr_zero {n : Nat} {s : List UInt8} (h : openErr n s = 0) : openB n s = true := by
  unfold openErr at h
  split at h
  · split at h
    · assumption
    · cases h
  · cases h
theorem openErr_mid {s : List UInt8} (h : openErr s.length s = 0) : s.length = 256 ∧ s.take 4 = s.drop 252 ∧ openBytes s.length s = midS s ∧ openStamp s.length s = (unle (s.take 4) : Int) := by
  have hb := openErr_zero h
  refine ⟨?_, ?_, ?_, ?_⟩
  · simp only [openB, Bool.and_eq_true, decide_eq_true_eq] at hb; exact hb.1
  · simp only [openB, Bool.and_eq_true, decide_eq_true_eq] at hb; exact hb.2
  · unfold openBytes; rw [if_pos hb]; rfl
  · unfold openStamp; rw [if_pos hb]
theorem rd_err {s : List UInt8} {q : Int} (h : openErr s.length s ≠ 0) : batM s q = none := by
  cases hm : batM s q with
  | none => rfl
  | some x =>
    exfalso
    obtain ⟨h1, h2, _⟩ := batM_some hm
    apply h
    unfold openErr openB
    rw [if_pos h1, if_pos (by simp [h1, h2])]
theorem rd_un {s : List UInt8} {q : Int} (h0 : openErr s.length s = 0) (h : unpackM (openBytes s.length s) = none) : batM s q = none := by
  cases hm : batM s q with
  | none => rfl
  | some x =>
    obtain ⟨_, _, h3, _⟩ := batM_some hm
    rw [(openErr_mid h0).2.2.1, h3] at h
    cases h
theorem rd_seq {s : List UInt8} {q : Int} (h0 : openErr s.length s = 0) (h : hdS (openBytes s.length s) ≠ q) : batM s q = none := by
  cases hm : batM s q with
  | none => rfl
  | some x =>
    obtain ⟨_, _, _, _, _, h6, _⟩ := batM_some hm
    rw [(openErr_mid h0).2.2.1] at h
    exact absurd h6 h
theorem rd_stamp {s : List UInt8} {q : Int} (h0 : openErr s.length s = 0) (h : openStamp s.length s ≠ hdE (openBytes s.length s) * 16777216 + q) : batM s q = none := by
  cases hm : batM s q with
  | none => rfl
  | some x =>
    obtain ⟨_, _, _, h4, _, _, _, h8, _⟩ := batM_some hm
    obtain ⟨_, _, e1, e2⟩ := openErr_mid h0
    rw [e1, e2] at h
    exact absurd (by rw [h8, h4]; omega) h
theorem rd_epoch {s : List UInt8} {q : Int} (h0 : openErr s.length s = 0) (h : hdE (openBytes s.length s) < 1) : batM s q = none := by
  cases hm : batM s q with
  | none => rfl
  | some x =>
    obtain ⟨_, _, _, h4, _, _, _, _, h9⟩ := batM_some hm
    rw [(openErr_mid h0).2.2.1] at h
    omega
theorem rd_yes {s : List UInt8} {q : Int} {l : List Rc} (h0 : openErr s.length s = 0) (hu : unpackM (openBytes s.length s) = some l) (hq : hdS (openBytes s.length s) = q)
    (hst : openStamp s.length s = hdE (openBytes s.length s) * 16777216 + q) (h1 : 1 ≤ hdE (openBytes s.length s)) :
    batM s q = some ⟨hdE (openBytes s.length s), q, hdF (openBytes s.length s), l⟩ := by
  obtain ⟨a, b, e1, e2⟩ := openErr_mid h0
  rw [e1] at hu hq hst h1
  rw [e2] at hst
  rw [e1, batM_yes a b hu (by simp only [stampOk, Bool.and_eq_true, decide_eq_true_eq]; exact ⟨hq, by omega, h1⟩), hq]
/-- May it come behind? As the document's Read asks it. -/
theorem fol_first {b x : Bm} (hb : b.e = 0) : folB b x = true := by unfold folB; rw [if_pos hb]
theorem fol_less {b x : Bm} (hb : 1 ≤ b.e) (h : x.e < b.e) : folB b x = false := by
  unfold folB
  rw [if_neg (by omega), if_neg (by omega)]
  simp
  omega
theorem fol_same {b x : Bm} (hb : 1 ≤ b.e) (h : x.e = b.e) : folB b x = decide (x.f = b.f) := by
  unfold folB
  rw [if_neg (by omega), if_pos h.symm]
theorem fol_more {b x : Bm} (hb : 1 ≤ b.e) (h : b.e < x.e) : folB b x = decide (x.f = x.s) := by
  unfold folB
  rw [if_neg (by omega), if_neg (by omega), decide_eq_true h, Bool.true_and]
/-- The walk over the sectors, one further. -/
theorem bats_step {R : Int → List UInt8} {N i : Nat} {from_ : Int} {b0 b x : Bm} {l : List Bm} (h : batsM R N from_ b0 = l ++ batsM R (N - i) (from_ + i) b) (hi : i < N) (ha : accM R (from_ + i) b = some x) :
    batsM R N from_ b0 = (l ++ [x]) ++ batsM R (N - (i + 1)) (from_ + ((i + 1 : Nat) : Int)) x := by
  rw [h, show N - i = (N - (i + 1)) + 1 by omega, batsM_go R ha, List.append_assoc]
  simp [Int.add_assoc]
theorem bats_stop {R : Int → List UInt8} {N i : Nat} {from_ : Int} {b0 b : Bm} {l : List Bm} (h : batsM R N from_ b0 = l ++ batsM R (N - i) (from_ + i) b) (ha : accM R (from_ + i) b = none) :
    batsM R N from_ b0 = l := by
  rw [h, batsM_end R ha, List.append_nil]
theorem bats_full {R : Int → List UInt8} {N : Nat} {from_ : Int} {b0 b : Bm} {l : List Bm} (h : batsM R N from_ b0 = l ++ batsM R (N - N) (from_ + N) b) : batsM R N from_ b0 = l := by
  rw [h, Nat.sub_self]
  simp [batsM]
end Go.Proofs.YtnbamljaiahmdaaGreat

namespace Go.Proofs.YtnbamljaiahmdaaGreat
open Go Go.RowKit

theorem ringElem : Elem Tryz.prog 22 28 (.slice none 0 0) 24 := Elem.mk_ Tryz.underlying22 rfl (by kernel_rfl)

/-- A slice of bytes by value. -/
structure By where
  A : Option Addr
  n : Nat
  c : Nat
  xs : List UInt8
def By.v (x : By) : Value := .slice x.A x.n x.c
def By.Own (w : World) (base : Nat) (x : By) : Prop := OwV w base 5 x.A x.n x.c (x.xs.map bv)
/-- Slices of bytes, one behind the other, all of the call's own. -/
structure Rg (w : World) (base : Nat) (A : Option Addr) (n c : Nat) (X : List By) : Prop where
  row : OwV w base 28 A n c (X.map By.v)
  own : ∀ x ∈ X, x.Own w base
section
variable {w w' : World} {base n c : Nat} {A : Option Addr} {X : List By}
theorem Rg.len (h : Rg w base A n c X) : X.length = n := by have := h.row.len; simpa using this
theorem Rg.keep (h : Rg w base A n c X) (hm : Mod (fun _ => False) w w') : Rg w' base A n c X :=
  ⟨h.row.mod hm (fun _ _ => id), fun x hx => OwV.mod (h.own x hx) hm (fun _ _ => id)⟩
/-- One more. -/
theorem Rg.push (h : Rg w base A n c X) {y : By} (hy : y.Own w base) {A' : Option Addr} {c' : Nat} (ho : OwV w' base 28 A' (n + 1) c' (X.map By.v ++ [y.v])) (hg : w.grownBy w' (blkOf A)) : Rg w' base A' (n + 1) c' (X ++ [y]) := by
  have hm : Mod (fun k => blkOf A = some k) w w' := (Mod.refl _ w).grown hg (fun k e _ => e)
  have hown : ∀ z : By, z.Own w base → z.Own w' base := fun z hz => OwV.mod hz hm (fun k hk e => by
    obtain ⟨_, cur, hc, _⟩ := h.row.block e
    exact ne_of_type hz hc (by decide) k hk rfl)
  refine ⟨by rw [List.map_append]; exact ho, fun x hx => ?_⟩
  rcases List.mem_append.1 hx with hx | hx
  · exact hown x (h.own x hx)
  · obtain rfl : x = y := by simpa using hx
    exact hown _ hy
end

set_option maxRecDepth 100000 in
set_option maxHeartbeats 2000000 in
theorem ring_ok (w0 w : World) (x : DV) (d : Dk) (h : Dev w0 w x d) (bs : Int) (n : Nat) (hb : 0 ≤ bs) (hn : bs + n ≤ 4096) :
    Calls Tryz.prog 10 #[.pointer (some ⟨x.p, 0, none⟩), .int .i64 bs, .int .i64 n] w fun e w' => ∃ (A : Option Addr) (c : Nat) (X : List By), e = .returned (.slice A n c) ∧
      Rg w' w.heap.size A n c X ∧ X.map By.xs = (List.range n).map (fun i : Nat => d.read (bs + i)) ∧ Mod (fun _ => False) w w' := by
  have Hd := Lib.hid h
  clear h
  go_enter Tryz.func10, Tryz.ntmps10
  go_wp2_with fail
  go_loopw [7, 8] (fun out i wr => ∃ (j c : Nat) (A : Option Addr) (X : List By), j ≤ n ∧ i = .int .i64 j ∧ out = .slice A j c ∧ Rg wr w.heap.size A j c X ∧ X.map By.xs = (List.range j).map (fun i : Nat => d.read (bs + i)) ∧ Mod (fun _ => False) w wr) (fun _ i _ => n - (intOf i).toNat)
  case atStart => exact ⟨0, 0, none, [], by omega, rfl, rfl, ⟨OwV.nil _ _ _, by simp⟩, rfl, Mod.refl _ _⟩
  case round =>
    obtain ⟨j, c, A, X, hj, rfl, rfl, hR, hX, hm⟩ := hrel
    have HR := Lib.hid hR
    have HX := Lib.hid hX
    have Hm := Lib.hid hm
    clear hR hX hm
    by_cases hlt : j < n
    · have hrd := Lib.hid (dev_read w0 wr x d (Hd.out.keep Hm.out) (bs + j))
      have hjj : bs + (j : Int) ≤ 4096 := by omega
      have hj0 : (0 : Int) ≤ bs + j := by omega
      go_wp2_with fail
      refine hrd.out.mono ?_
      rintro e w5 ⟨B, m, q, rfl, hB, hm5⟩
      obtain ⟨w6, hw6⟩ : ∃ w6, w5.alloc (.cells #[.slice B m q] 28) = w6 := ⟨_, rfl⟩
      have hm6 : Mod (fun _ => False) w5 w6 := by rw [← hw6]; exact (Mod.refl _ w5).alloc _
      have hsz : w.heap.size ≤ wr.heap.size := Hm.out.size
      have hR6 := (HR.out.keep hm5).keep hm6
      have hsz6 : w.heap.size ≤ w6.heap.size := Nat.le_trans hsz (Nat.le_trans hm5.size hm6.size)
      have hown := hR6.row
      have hsrc : Src w6 (some ⟨w5.heap.size, 0, none⟩) 1 [.slice B m q] := by rw [← hw6]; exact Src.one w5 _ _ rfl
      have HR6 := Lib.hid hR6
      have HB6 : Hid ((⟨B, m, q, d.read (bs + j)⟩ : By).Own w6 w.heap.size) := OwV.mod (OwV.rebase hB (fun k hk => Nat.le_trans hsz (OwV.lt hB k hk).1)) hm6 (fun _ _ => id)
      have Hm6 := Lib.hid ((Hm.out.trans hm5 (fun _ _ h => h)).trans hm6 (fun _ _ h => h))
      clear hB hm5 hm6 hsz hR6 hrd Hm HR
      go_wp2_with (at_builtin; refine wpList_app (.tmp 24) (.tmp 26) ringElem rfl rfl rfl rfl hown hsrc (by omega) (by unfold maxLen; omega) hsz6 ?_)
      intro A8 c8 w8 hown8 hg8 _
      have H8 := Lib.hid (HR6.out.push HB6.out hown8 hg8)
      have Hm8 : Hid (Mod (fun _ => False) w w8) := Hm6.out.grown hg8 (fun k e hk => by have := (hown.lt k e).1; omega)
      clear hown8 hg8 hown hsrc HR6 HB6 Hm6 hw6
      go_wp2
      go_roundw
      case rel => exact ⟨j + 1, c8, A8, X ++ [⟨B, m, q, d.read (bs + j)⟩], by omega, by go_num, rfl, H8.out, by rw [List.map_append, HX.out, List.range_succ, List.map_append]; rfl, Hm8.out⟩
      case measure => simp [intOf]; omega
    · obtain rfl : j = n := by omega
      go_wp2
      go_ret
      exact ⟨A, c, X, rfl, HR.out, HX.out, Hm.out⟩
end Go.Proofs.YtnbamljaiahmdaaGreat

namespace Go.Proofs.YtnbamljaiahmdaaGreat
open Go Go.RowKit Go.Shelf

/-- The list that it makes: all its own. -/
structure Rll (w W : World) (A : Option Addr) (c : Nat) (L : List LgD) : Prop where
  row : OwN W w.heap.size 71 15 A L.length c (lgC L)
  own : ∀ y ∈ L, y.r.o.Own W w.heap.size ∧ y.r.v.Own W w.heap.size
  old : Mod (fun _ => False) w W
section
variable {w W V : World} {A A' : Option Addr} {c c' : Nat} {L : List LgD}
theorem Rll.nil (w : World) : Rll w w none 0 [] := ⟨OwN.nil _ _ _ _, fun y hy => absurd hy (by simp), Mod.refl _ _⟩
theorem Rll.keep (h : Rll w W A c L) (hm : Mod (fun _ => False) W V) : Rll w V A c L :=
  ⟨h.row.mod hm (fun _ _ => id), fun y hy => ⟨OwV.mod (h.own y hy).1 hm (fun _ _ => id), OwV.mod (h.own y hy).2 hm (fun _ _ => id)⟩, h.old.trans hm (fun _ _ h => h)⟩
/-- One more. -/
theorem Rll.push (h : Rll w W A c L) {y : LgD} (hyo : y.r.o.Own W w.heap.size) (hyv : y.r.v.Own W w.heap.size) (hrow : OwN V w.heap.size 71 15 A' (L.length + 1) c' (lgC L ++ y.cells.toList)) (hg : W.grownBy V (blkOf A)) : Rll w V A' c' (L ++ [y]) := by
  have hm : Mod (fun k => blkOf A = some k) W V := (Mod.refl _ W).grown hg (fun k e _ => e)
  have hown : ∀ z : VlD, z.Own W w.heap.size → z.Own V w.heap.size := fun z hz => OwV.mod hz hm (fun k hk e => by
    obtain ⟨cs, hc⟩ := h.row.type_ e
    exact ne_of_type hz hc (by decide) k hk rfl)
  refine ⟨by rw [List.length_append, lgC_snoc]; exact hrow, fun z hz => ?_, h.old.trans hm (fun k hk e => by have := (h.row.lt k e).1; omega)⟩
  rcases List.mem_append.1 hz with hz | hz
  · exact ⟨hown _ (h.own z hz).1, hown _ (h.own z hz).2⟩
  · rw [List.mem_singleton.1 hz]
    exact ⟨hown _ hyo, hown _ hyv⟩
/-- What else is the call's own stays so while the list grows. -/
theorem Rll.own_grown (h : Rll w W A c L) {z : VlD} {base : Nat} (hz : z.Own W base) (hg : W.grownBy V (blkOf A)) : z.Own V base :=
  OwV.mod hz ((Mod.refl (fun k => blkOf A = some k) W).grown hg (fun k e _ => e)) (fun k hk e => by
    obtain ⟨cs, hc⟩ := h.row.type_ e
    exact ne_of_type hz hc (by decide) k hk rfl)
end
/-- An element of a ring. -/
theorem Rg.at {w : World} {base n c : Nat} {A : Option Addr} {X : List By} (h : Rg w base A n c X) {i : Nat} {x : By} (hx : X[i]? = some x) : ∃ g, A = some ⟨g, 0, none⟩ ∧ w.cell? ⟨g, i, none⟩ = some (.slice x.A x.n x.c) ∧ Sl w x.A x.n x.c x.xs ∧ x.c ≤ maxLen := by
  have hi : i < n := by rw [← h.len]; exact (List.getElem?_eq_some_iff.1 hx).1
  have ho : OwV w base 5 x.A x.n x.c (x.xs.map bv) := h.own x (List.mem_of_getElem? hx)
  obtain ⟨g, hA, hc⟩ := h.row.cells (by omega)
  refine ⟨g, hA, ?_, OwV.sl ho, ho.capM⟩
  rw [hc i hi, List.getElem?_map, hx]
  rfl
end Go.Proofs.YtnbamljaiahmdaaGreat

namespace Go.Proofs.YtnbamljaiahmdaaGreat
open Go Go.RowKit Go.Shelf

structure Rin (w wr : World) (g : Nat) (z : BtD) (base : Nat) (A : Option Addr) (c : Nat) (L : List LgD) : Prop where
  list : Rll w wr A c L
  bat : z.In wr g
  row : OwN wr base 47 14 z.A z.n z.c (recsC z.l)
  own : ∀ y ∈ z.l, y.o.Own wr base ∧ y.v.Own wr base
  sz : w.heap.size ≤ base
section
variable {w wr V : World} {g base c c' : Nat} {z : BtD} {A A' : Option Addr} {L : List LgD}
theorem Rin.keep (h : Rin w wr g z base A c L) (hm : Mod (fun _ => False) wr V) : Rin w V g z base A c L :=
  ⟨h.list.keep hm, h.bat.keep hm, h.row.mod hm (fun _ _ => id), fun y hy => ⟨OwV.mod (h.own y hy).1 hm (fun _ _ => id), OwV.mod (h.own y hy).2 hm (fun _ _ => id)⟩, h.sz⟩
theorem Rin.rs (h : Rin w wr g z base A c L) : Rs wr z.A z.n z.c z.l := OwN.recs h.row (fun y hy => ⟨(h.own y hy).1.at_, (h.own y hy).2.at_⟩)
/-- One record more. -/
theorem Rin.push (h : Rin w wr g z base A c L) (a : Int) {y : RcD} (hy : y ∈ z.l) (hrow : OwN V w.heap.size 71 15 A' (L.length + 1) c' (lgC L ++ (⟨a, y⟩ : LgD).cells.toList)) (hg : wr.grownBy V (blkOf A)) : Rin w V g z base A' c' (L ++ [⟨a, y⟩]) := by
  have hm : Mod (fun k => blkOf A = some k) wr V := (Mod.refl _ wr).grown hg (fun k e _ => e)
  have hne : ∀ {k : Nat} {cs : Array Value} {t : TypeId} {fr : Nat × Nat}, wr.heap[k]? = some (.cells cs t fr) → t ≠ 71 → ¬ blkOf A = some k := by
    intro k cs t fr hk ht e
    obtain ⟨cs', hc⟩ := h.list.row.type_ e
    rw [hc] at hk
    injection hk with hk
    injection hk with _ hk
    exact ht hk.symm
  have hown : ∀ q : VlD, q.Own wr base → q.Own V base := fun q hq => h.list.own_grown hq hg
  refine ⟨h.list.push (y := ⟨a, y⟩) (OwV.rebase (h.own y hy).1 (fun k hk => Nat.le_trans h.sz (OwV.lt (h.own y hy).1 k hk).1)) (OwV.rebase (h.own y hy).2 (fun k hk => Nat.le_trans h.sz (OwV.lt (h.own y hy).2 k hk).1)) hrow hg, h.bat.mod hm (hne h.bat (by decide)), h.row.mod hm (fun k hk e => ?_), fun q hq => ⟨hown _ (h.own q hq).1, hown _ (h.own q hq).2⟩, h.sz⟩
  obtain ⟨cs, hc⟩ := h.row.type_ hk
  exact hne hc (by decide) e
end
theorem lastE_snoc (l : List Bm) (x : Bm) : lastE (l ++ [x]) = x.e := by unfold lastE; rw [List.getLast?_append]; rfl
end Go.Proofs.YtnbamljaiahmdaaGreat
