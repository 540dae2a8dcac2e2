/-
  Rows of the call's own whose elements take several cells; append onto them.
  sect.readHead, readRecord, onlyZeros.
-/
import Derived.Test.YtnbamljaiahmdaaGreatQS
import Derived.Test.YtnbamljaiahmdaaGreatQC
namespace Go.Proofs.YtnbamljaiahmdaaGreat
open Go Go.RowKit

section
variable {P : Program} {w : World}
/-- append onto nil, and of one element, by themselves. -/
theorem wp_appNil {o : Oper} {a : Act} {K : Act → World → Prop} {Q : Exit → Act → World → Prop} (x : Operand) {t e : TypeId} {z : Value} {size bytes : Nat}
    {base : Nat} {A2 : Option Addr} {m c2 : Nat} {news : List Value}
    (he : ElemN P t e z size bytes)
    (ho : o.op = .call { callee := .builtin .append, args := #[.const (.slice none 0 0), x], argTypes := #[t, t] })
    (hex : a.eval x = .slice A2 m c2) (hs : SrcN w A2 m size news)
    (hb : m * bytes ≤ 140737488355328) (h63 : m ≤ maxLen) (hbase : base ≤ w.heap.size)
    (h : ∀ A' c' w', OwN w' base e size A' m c' news → Mod (fun _ => False) w w' → K (a.put o.dst (.slice A' m c')) w') :
    Oper.wp P o a w K Q := by
  refine wp_appN (base := base) (A2 := A2) (m := m) (c2 := c2) (news := news) (.const (.slice none 0 0)) x he ho rfl hex (OwN.nil _ _ _ _) hs (by rw [Nat.zero_add]; exact hb) (by rw [Nat.zero_add]; exact h63) hbase ?_
  intro A' c' w' h1 h2 _
  rw [Nat.zero_add] at h1 ⊢
  exact h A' c' w' h1 ((Mod.refl _ w).grown h2 (fun k e _ => by simp [blkOf] at e))
end

/-! ### Records in such rows -/
theorem recElem : ElemN Tryz.prog 66 47 (.agg #[.int .i64 0, .int .i64 0, .int .i64 0, .int .i64 0, .int .i64 0, .int .i64 0, .int .i64 0, .int .i64 0, .int .i64 0, .int .i64 0, .bool false, .slice none 0 0, .bool false, .slice none 0 0]) 14 144 :=
  ElemN.mk_ Tryz.underlying66 rfl (by decide) (by kernel_rfl)

/-- All cells of some records. -/
def recsC (l : List RcD) : List Value := l.flatMap fun x => x.cells.toList
theorem recsC_cons (x : RcD) (l : List RcD) : recsC (x :: l) = x.cells.toList ++ recsC l := rfl
theorem recsC_append (a b : List RcD) : recsC (a ++ b) = recsC a ++ recsC b := List.flatMap_append
theorem recsC_one (x : RcD) : recsC [x] = x.cells.toList := by simp [recsC]
theorem cells14 (x : RcD) : x.cells.toList.length = 14 := rfl
theorem recsC_len : ∀ l : List RcD, (recsC l).length = l.length * 14
  | [] => rfl
  | x :: l => by rw [recsC_cons, List.length_append, cells14, recsC_len l, List.length_cons]; omega
theorem recsC_get : ∀ (l : List RcD) (i : Nat) (x : RcD), l[i]? = some x → ∀ j, j < 14 → (recsC l)[i * 14 + j]? = x.cells[j]?
  | [], i, x, h, _, _ => by simp at h
  | y :: l, 0, x, h, j, hj => by
    injection h with h
    subst h
    rw [recsC_cons, Nat.zero_mul, Nat.zero_add, List.getElem?_append_left (by rw [cells14]; exact hj), Array.getElem?_toList]
  | y :: l, i + 1, x, h, j, hj => by
    rw [recsC_cons, List.getElem?_append_right (by rw [cells14]; omega), cells14, show (i + 1) * 14 + j - 14 = i * 14 + j by omega]
    exact recsC_get l i x (by simpa using h) j hj
theorem recsC_oneCell (l : List RcD) : ∀ u ∈ recsC l, u.oneCell' = true := by
  intro u hu
  simp only [recsC, List.mem_flatMap] at hu
  obtain ⟨x, _, hx⟩ := hu
  simp at hx
  rcases hx with rfl | rfl | rfl | rfl | rfl | rfl | rfl | rfl | rfl | rfl | rfl | rfl | rfl | rfl <;> rfl

/-- A slice of records as the source of an append. -/
theorem Rs.src {w : World} {A : Option Addr} {n c : Nat} {l : List RcD} (h : Rs w A n c l) : SrcN w A n 14 (recsC l) := by
  refine ⟨by rw [recsC_len, h.len], recsC_oneCell l, fun hp => ?_⟩
  obtain ⟨b, o, rfl, hc⟩ := h.cells hp
  refine ⟨_, rfl, fun j u hu => ?_⟩
  have hj : j < l.length * 14 := by rw [← recsC_len]; exact (List.getElem?_eq_some_iff.1 hu).1
  have hadd : (⟨b, o, none⟩ : Addr).add j = ⟨b, o + j, none⟩ := by unfold Addr.add; split <;> simp_all
  rw [hadd]
  have hi : j / 14 < l.length := by omega
  have hx : l[j / 14]? = some l[j / 14] := List.getElem?_eq_getElem hi
  have hr : j = j / 14 * 14 + j % 14 := by omega
  have h1 := recsC_get l (j / 14) _ hx (j % 14) (by omega)
  rw [← hr, hu] at h1
  have h2 := (hc (j / 14) _ hx).get h1.symm
  rw [Nat.add_assoc, ← hr] at h2
  exact h2
/-- One record that a literal lays into a block of its own. -/
theorem SrcN.rec1 (w : World) (x : RcD) (t : TypeId) : SrcN (w.alloc (.cells x.cells t)) (some ⟨w.heap.size, 0, none⟩) 1 14 (recsC [x]) := by
  have := SrcN.lit w x.cells.toList t (by have := recsC_oneCell [x]; rw [recsC_one] at this; exact this)
  rw [recsC_one]
  exact this
theorem SrcN.keep {w w' : World} {A : Option Addr} {m size : Nat} {news : List Value} (h : SrcN w A m size news) (hm : Mod (fun _ => False) w w') : SrcN w' A m size news := by
  refine ⟨h.1, h.2.1, fun hp => ?_⟩
  obtain ⟨ad, hA, hc⟩ := h.2.2 hp
  refine ⟨ad, hA, fun j u hu => ?_⟩
  have h1 := hc j u hu
  exact (World.cell?_of_block (hm.block _ (World.block_lt_of_cell? w _ h1) id)).trans h1
/-- A row of the call's own that holds records. -/
theorem OwN.recs {w : World} {base : Nat} {A : Option Addr} {n c : Nat} {l : List RcD} (h : OwN w base 47 14 A n c (recsC l)) (hx : ∀ x ∈ l, x.At w) : Rs w A n c l := by
  have hl : l.length = n := by have := h.1; rw [recsC_len] at this; omega
  refine ⟨hl, h.cap, fun hp => ?_, hx⟩
  obtain ⟨g, rfl, hc⟩ := h.cells hp
  refine ⟨g, 0, rfl, fun i x hi => .of fun j u hu => ?_⟩
  have hil : i < l.length := (List.getElem?_eq_some_iff.1 hi).1
  have hj : j < 14 := (Array.getElem?_eq_some_iff.1 hu).1
  rw [Nat.zero_add, hc _ (by omega), recsC_get l i x hi j hj]
  exact hu
end Go.Proofs.YtnbamljaiahmdaaGreat

namespace Go.Proofs.YtnbamljaiahmdaaGreat
open Go Go.RowKit Go.Shelf

def BtD.zero : BtD := ⟨0, 0, 0, none, 0, 0, []⟩
section
variable {w w' : World} {x : BtD} {g : Nat}
theorem BtD.In.set0 (h : x.In w g) (z : Int) : ({ x with e := z } : BtD).In (w.setCell ⟨g, 0, none⟩ (.int .i64 z)) g := by show _ = _; rw [heap_set h]; rfl
theorem BtD.In.set1 (h : x.In w g) (z : Int) : ({ x with s := z } : BtD).In (w.setCell ⟨g, 1, none⟩ (.int .i64 z)) g := by show _ = _; rw [heap_set h]; rfl
theorem BtD.In.set2 (h : x.In w g) (z : Int) : ({ x with f := z } : BtD).In (w.setCell ⟨g, 2, none⟩ (.int .i64 z)) g := by show _ = _; rw [heap_set h]; rfl
theorem BtD.In.set3 (h : x.In w g) (A : Option Addr) (n c : Nat) (l : List RcD) : ({ x with A := A, n := n, c := c, l := l } : BtD).In (w.setCell ⟨g, 3, none⟩ (.slice A n c)) g := by show _ = _; rw [heap_set h]; rfl
end
/-- A batch is stored whole. -/
def stBat (W : World) (b : Nat) (y : BtD) : World := (((W.setCell ⟨b, 0, none⟩ (.int .i64 y.e)).setCell ⟨b, 1, none⟩ (.int .i64 y.s)).setCell ⟨b, 2, none⟩ (.int .i64 y.f)).setCell ⟨b, 3, none⟩ (.slice y.A y.n y.c)
theorem stBat_in {W : World} {b : Nat} {x : BtD} (h : x.In W b) (y : BtD) : y.In (stBat W b y) b := (((h.set0 y.e).set1 y.s).set2 y.f).set3 y.A y.n y.c y.l
theorem stBat_mod (W : World) (b : Nat) (y : BtD) : Mod (fun k => k = b) W (stBat W b y) := by
  have st : ∀ {w : World} (i : Nat) (u : Value), Mod (fun k => k = b) W w → Mod (fun k => k = b) W (w.setCell ⟨b, i, none⟩ u) := fun i u h => h.setCell (p := ⟨b, i, none⟩) (fun _ => rfl) u
  unfold stBat
  exact st 3 _ (st 2 _ (st 1 _ (st 0 _ (Mod.refl _ W))))
theorem Rd.far {w w' : World} {g b : Nat} {A : Option Addr} {n c : Nat} {xs : List UInt8} (h : Rd w g A n c xs) (hm : Mod (fun k => k = b) w w') (hg : g ≠ b) (hA : blkOf A ≠ some b) : Rd w' g A n c xs :=
  h.mod hm hg (fun k hk _ e => hA (by rw [hk, e]))

/-- What the head of some bytes says. -/
def hdE (xs : List UInt8) : Int := unle (xs.take 2)
def hdS (xs : List UInt8) : Int := unle ((xs.drop 2).take 4)
def hdF (xs : List UInt8) : Int := unle ((xs.drop 6).take 4)
def hdN (xs : List UInt8) : Nat := unle ((xs.drop 10).take 1)

/-- What is left of a Reader. -/
structure Rdr (W : World) (rg rb : Nat) (xs : List UInt8) : Prop where
  ex : ∃ A n c, Rd W rg A n c xs ∧ c ≤ maxLen ∧ blkOf A = some rb
  ne : rb ≠ rg
theorem Rdr.far {W W' : World} {rg rb b : Nat} {xs : List UInt8} (h : Rdr W rg rb xs) (hm : Mod (fun k => k = b) W W') (hg : rg ≠ b) (hb : rb ≠ b) : Rdr W' rg rb xs := by
  obtain ⟨A, n, c, h1, h2, h3⟩ := h.ex
  exact ⟨⟨A, n, c, h1.far hm hg (by rw [h3]; intro e; injection e with e; exact hb e), h2, h3⟩, h.ne⟩
theorem Rdr.mod {W W' : World} {F : Nat → Prop} {rg rb : Nat} {xs : List UInt8} (h : Rdr W rg rb xs) (hm : Mod F W W') (hg : ¬ F rg) (hb : ¬ F rb) : Rdr W' rg rb xs := by
  obtain ⟨A, n, c, h1, h2, h3⟩ := h.ex
  exact ⟨⟨A, n, c, h1.mod hm hg (fun k hk _ e => by rw [h3] at hk; injection hk with hk; subst hk; exact hb e), h2, h3⟩, h.ne⟩
theorem Rdr.keep {W W' : World} {rg rb : Nat} {xs : List UInt8} (h : Rdr W rg rb xs) (hm : Mod (fun _ => False) W W') : Rdr W' rg rb xs := h.mod hm id id
theorem Rdr.lt {W : World} {rg rb : Nat} {xs : List UInt8} (h : Rdr W rg rb xs) : rg < W.heap.size := by
  obtain ⟨A, n, c, h1, _⟩ := h.ex
  exact h1.lt
theorem rdr_get1 {W : World} {rg rb : Nat} {xs : List UInt8} (h : Rdr W rg rb xs) (hl : 1 ≤ xs.length) :
    Calls Tryz.prog 89 #[.pointer (some ⟨rg, 0, none⟩), .int .i64 1] W fun e w' => e = .returned (.tuple #[.int .i64 (unle (xs.take 1)), .int .i64 0]) ∧ Rdr w' rg rb (xs.drop 1) ∧ Mod (fun k => k = rg) W w' := by
  obtain ⟨A, n, c, h1, h2, h3⟩ := h.ex
  refine (get_ok1 W rg A n c xs h1 h2 (by rw [← h1.2.1.len]; exact hl)).mono ?_
  rintro e w' ⟨rfl, A', k1, k2, k3, _⟩
  exact ⟨rfl, ⟨⟨A', _, _, k1, by omega, k2.trans h3⟩, h.ne⟩, k3⟩
theorem rdr_get2 {W : World} {rg rb : Nat} {xs : List UInt8} (h : Rdr W rg rb xs) (hl : 2 ≤ xs.length) :
    Calls Tryz.prog 89 #[.pointer (some ⟨rg, 0, none⟩), .int .i64 2] W fun e w' => e = .returned (.tuple #[.int .i64 (unle (xs.take 2)), .int .i64 0]) ∧ Rdr w' rg rb (xs.drop 2) ∧ Mod (fun k => k = rg) W w' := by
  obtain ⟨A, n, c, h1, h2, h3⟩ := h.ex
  refine (get_ok2 W rg A n c xs h1 h2 (by rw [← h1.2.1.len]; exact hl)).mono ?_
  rintro e w' ⟨rfl, A', k1, k2, k3, _⟩
  exact ⟨rfl, ⟨⟨A', _, _, k1, by omega, k2.trans h3⟩, h.ne⟩, k3⟩
theorem rdr_get4 {W : World} {rg rb : Nat} {xs : List UInt8} (h : Rdr W rg rb xs) (hl : 4 ≤ xs.length) :
    Calls Tryz.prog 89 #[.pointer (some ⟨rg, 0, none⟩), .int .i64 4] W fun e w' => e = .returned (.tuple #[.int .i64 (unle (xs.take 4)), .int .i64 0]) ∧ Rdr w' rg rb (xs.drop 4) ∧ Mod (fun k => k = rg) W w' := by
  obtain ⟨A, n, c, h1, h2, h3⟩ := h.ex
  refine (get_ok4 W rg A n c xs h1 h2 (by rw [← h1.2.1.len]; exact hl)).mono ?_
  rintro e w' ⟨rfl, A', k1, k2, k3, _⟩
  exact ⟨rfl, ⟨⟨A', _, _, k1, by omega, k2.trans h3⟩, h.ne⟩, k3⟩

set_option maxRecDepth 100000 in
set_option maxHeartbeats 2000000 in
theorem readHead_ok (w : World) (rg rb : Nat) (xs : List UInt8) (h : Rdr w rg rb xs) (hrb : rb < w.heap.size) (hl : 11 ≤ xs.length) :
    Calls Tryz.prog 80 #[.pointer (some ⟨rg, 0, none⟩)] w fun e w' => e = .returned (.tuple #[.agg #[.int .i64 (hdE xs), .int .i64 (hdS xs), .int .i64 (hdF xs), .slice none 0 0], .int .i64 (hdN xs)]) ∧ Rdr w' rg rb (xs.drop 11) ∧ Mod (fun k => k = rg) w w' := by
  have hrg := h.lt
  obtain ⟨wA, hwA⟩ : ∃ wA, (w.alloc (.cells BtD.zero.cells 68)).alloc (.cells BtD.zero.cells 68) = wA := ⟨_, rfl⟩
  have hmA : Mod (fun _ => False) w wA := by rw [← hwA]; exact ((Mod.refl _ w).alloc _).alloc _
  have hR : BtD.zero.In wA w.heap.size := by rw [← hwA]; exact (BtD.In.new w BtD.zero).keep ((Mod.refl _ _).alloc _)
  have hX : BtD.zero.In wA (w.heap.size + 1) := by
    rw [← hwA]
    have := BtD.In.new (w.alloc (.cells BtD.zero.cells 68)) BtD.zero
    rw [World.size_alloc] at this
    exact this
  have H1 := Lib.hid (rdr_get2 (h.keep hmA) (by omega))
  have HwA := Lib.hid hwA
  have HR := Lib.hid hR
  have HX := Lib.hid hX
  have HmA : Hid (Mod (fun k => k = rg) w wA) := hmA.mono (fun _ _ h => h.elim)
  have Hl := Lib.hid hl
  have Hrg := Lib.hid hrg
  have Hrb := Lib.hid hrb
  clear hwA hR hX hmA h hl hrg hrb
  go_enter Tryz.func80, Tryz.ntmps80
  go_wp2_with fail
  rw [show (w.alloc (.cells #[.int .i64 0, .int .i64 0, .int .i64 0, .slice none 0 0] 68)).alloc (.cells #[.int .i64 0, .int .i64 0, .int .i64 0, .slice none 0 0] 68) = wA from HwA.out]
  clear HwA
  refine H1.out.mono ?_
  rintro e w1 ⟨rfl, hr1, hm1⟩
  skip
  have hX1 := HX.out.mod hm1 (by have := Hrg.out; omega)
  have hR1 := HR.out.mod hm1 (by have := Hrg.out; omega)
  have hmS1 : Mod (fun k => k = w.heap.size + 1) w1 (w1.setCell ⟨w.heap.size + 1, 0, none⟩ (.int .i64 (hdE xs))) := (Mod.refl (fun k => k = w.heap.size + 1) w1).setCell (p := ⟨w.heap.size + 1, 0, none⟩) (fun _ => rfl) _
  have HXB1 := Lib.hid (hX1.set0 (hdE xs))
  have HRB1 := Lib.hid (hR1.mod hmS1 (by omega))
  have hrS1 := hr1.far hmS1 (by have := Hrg.out; omega) (by have := Hrb.out; omega)
  have HmB1 : Hid (Mod (fun k => k = rg) w (w1.setCell ⟨w.heap.size + 1, 0, none⟩ (.int .i64 (hdE xs)))) := (HmA.out.trans hm1 (fun _ _ h => h)).trans hmS1 (fun k hk e => by omega)
  have HN1 : Hid (((unle ((xs.take 2)) : Nat) : Int) = hdE xs) := rfl
  have H2 := Lib.hid (rdr_get4 hrS1 (by have := Hl.out; rw [List.length_drop]; omega))
  have q1 := hX1.c0
  have f1 := hX1.fz 0
  clear hr1 hm1 hX1 hR1 hmS1 hrS1 H1 HR HX HmA
  rw [HN1.out]
  go_wp2_with fail
  refine H2.out.mono ?_
  rintro e w2 ⟨rfl, hr2, hm2⟩
  rw [List.drop_drop] at hr2
  have hX2 := HXB1.out.mod hm2 (by have := Hrg.out; omega)
  have hR2 := HRB1.out.mod hm2 (by have := Hrg.out; omega)
  have hmS2 : Mod (fun k => k = w.heap.size + 1) w2 (w2.setCell ⟨w.heap.size + 1, 1, none⟩ (.int .i64 (hdS xs))) := (Mod.refl (fun k => k = w.heap.size + 1) w2).setCell (p := ⟨w.heap.size + 1, 1, none⟩) (fun _ => rfl) _
  have HXB2 := Lib.hid (hX2.set1 (hdS xs))
  have HRB2 := Lib.hid (hR2.mod hmS2 (by omega))
  have hrS2 := hr2.far hmS2 (by have := Hrg.out; omega) (by have := Hrb.out; omega)
  have HmB2 : Hid (Mod (fun k => k = rg) w (w2.setCell ⟨w.heap.size + 1, 1, none⟩ (.int .i64 (hdS xs)))) := (HmB1.out.trans hm2 (fun _ _ h => h)).trans hmS2 (fun k hk e => by omega)
  have HN2 : Hid (((unle (((xs.drop 2).take 4)) : Nat) : Int) = hdS xs) := rfl
  have H3 := Lib.hid (rdr_get4 hrS2 (by have := Hl.out; rw [List.length_drop]; omega))
  have q2 := hX2.c1
  have f2 := hX2.fz 1
  clear hr2 hm2 hX2 hR2 hmS2 hrS2 H2 HRB1 HXB1 HmB1
  rw [HN2.out]
  go_wp2_with fail
  refine H3.out.mono ?_
  rintro e w3 ⟨rfl, hr3, hm3⟩
  rw [List.drop_drop] at hr3
  have hX3 := HXB2.out.mod hm3 (by have := Hrg.out; omega)
  have hR3 := HRB2.out.mod hm3 (by have := Hrg.out; omega)
  have hmS3 : Mod (fun k => k = w.heap.size + 1) w3 (w3.setCell ⟨w.heap.size + 1, 2, none⟩ (.int .i64 (hdF xs))) := (Mod.refl (fun k => k = w.heap.size + 1) w3).setCell (p := ⟨w.heap.size + 1, 2, none⟩) (fun _ => rfl) _
  have HXB3 := Lib.hid (hX3.set2 (hdF xs))
  have HRB3 := Lib.hid (hR3.mod hmS3 (by omega))
  have hrS3 := hr3.far hmS3 (by have := Hrg.out; omega) (by have := Hrb.out; omega)
  have HmB3 : Hid (Mod (fun k => k = rg) w (w3.setCell ⟨w.heap.size + 1, 2, none⟩ (.int .i64 (hdF xs)))) := (HmB2.out.trans hm3 (fun _ _ h => h)).trans hmS3 (fun k hk e => by omega)
  have HN3 : Hid (((unle (((xs.drop 6).take 4)) : Nat) : Int) = hdF xs) := rfl
  have H4 := Lib.hid (rdr_get1 hrS3 (by have := Hl.out; rw [List.length_drop]; omega))
  have q3 := hX3.c2
  have f3 := hX3.fz 2
  clear hr3 hm3 hX3 hR3 hmS3 hrS3 H3 HRB2 HXB2 HmB2
  rw [HN3.out]
  go_wp2_with fail
  refine H4.out.mono ?_
  rintro e w4 ⟨rfl, hr4, hm4⟩
  rw [List.drop_drop] at hr4
  have Hr4 := Lib.hid hr4
  have HR4 := Lib.hid (HRB3.out.mod hm4 (by have := Hrg.out; omega))
  have hX4 := HXB3.out.mod hm4 (by have := Hrg.out; omega)
  have Hm4 := Lib.hid (HmB3.out.trans hm4 (fun _ _ h => h))
  have HNn : Hid (((unle ((xs.drop 10).take 1) : Nat) : Int) = (hdN xs : Nat)) := rfl
  have x0 := hX4.c0
  have x1 := hX4.c1
  have x2 := hX4.c2
  have x3 := hX4.c3
  have r0 := HR4.out.c0
  have r1 := HR4.out.c1
  have r2 := HR4.out.c2
  have r3 := HR4.out.c3
  have z0 := HR4.out.fz 0
  have z1 := HR4.out.fz 1
  have z2 := HR4.out.fz 2
  have z3 := HR4.out.fz 3
  clear hr4 hX4 hm4 H4 HRB3 HXB3 HmB3
  rw [HNn.out]
  obtain ⟨y, hy⟩ : ∃ y : BtD, y = ⟨hdE xs, hdS xs, hdF xs, none, 0, 0, []⟩ := ⟨_, rfl⟩
  go_wp2
  change bodyPost _ _ _ _ _ (stBat w4 w.heap.size ⟨hdE xs, hdS xs, hdF xs, none, 0, 0, []⟩)
  rw [← hy]
  have h5 := stBat_in HR4.out y
  have hm5 := stBat_mod w4 w.heap.size y
  have Hr5 := Lib.hid (Hr4.out.far hm5 (by have := Hrg.out; omega) (by have := Hrb.out; omega))
  have Hm5 : Hid (Mod (fun k => k = rg) w (stBat w4 w.heap.size y)) := Hm4.out.trans hm5 (fun k hk e => by omega)
  generalize stBat w4 w.heap.size y = w5 at *
  have s0 := h5.c0
  have s1 := h5.c1
  have s2 := h5.c2
  have s3 := h5.c3
  subst hy
  clear x0 x1 x2 x3 r0 r1 r2 r3 z0 z1 z2 z3 h5 hm5
  refine bodyPost_ret (v := .tuple #[.agg #[.int .i64 (hdE xs), .int .i64 (hdS xs), .int .i64 (hdF xs), .slice none 0 0], .int .i64 (hdN xs : Nat)]) (by simp [results, Tryz.results80, go_sem, s0, s1, s2, s3]) rfl ?_
  exact ⟨rfl, Hr5.out, Hm5.out⟩

/-! ### readRecord -/
def takeM : List UInt8 → Option (List UInt8 × List UInt8)
  | [] => none
  | b :: ys => if ys.length < b.toNat then none else some (ys.take b.toNat, ys.drop b.toNat)
theorem takeM_cons (b : UInt8) (ys : List UInt8) : takeM (b :: ys) = if ys.length < b.toNat then none else some (ys.take b.toNat, ys.drop b.toNat) := rfl
def recR (xs : List UInt8) : Option (Rc × List UInt8) :=
  match takeM xs with
  | none => none
  | some (b, rest) => if (decode b).1 = 0 then some ((decode b).2, rest) else none
theorem rdr_take_none {W : World} {rg rb : Nat} {xs : List UInt8} (h : Rdr W rg rb xs) (ht : takeM xs = none) :
    Calls Tryz.prog 90 #[.pointer (some ⟨rg, 0, none⟩)] W fun e w' => e = .returned (.tuple #[.slice none 0 0, .int .i64 6]) ∧ W = w' := by
  obtain ⟨A, n, c, h1, h2, h3⟩ := h.ex
  refine take_short W rg A n c xs h1 ?_
  rw [← h1.2.1.len]
  cases xs with
  | nil => simp
  | cons b ys =>
    rw [takeM_cons] at ht
    split at ht
    · simp; omega
    · cases ht
theorem rdr_take_some {W : World} {rg rb : Nat} {xs b rest : List UInt8} (h : Rdr W rg rb xs) (ht : takeM xs = some (b, rest)) :
    Calls Tryz.prog 90 #[.pointer (some ⟨rg, 0, none⟩)] W fun e w' => e = .returned (.tuple #[.slice (some ⟨W.heap.size, 0, none⟩) b.length b.length, .int .i64 0]) ∧
      w'.heap[W.heap.size]? = some (.cells (b.map bv).toArray 5 (0, 0)) ∧ Rdr w' rg rb rest ∧ Mod (fun k => k = rg) W w' ∧ b.length ≤ 255 := by
  obtain ⟨A, n, c, h1, h2, h3⟩ := h.ex
  have hrg := h.lt
  cases xs with
  | nil => cases ht
  | cons a ys =>
    rw [takeM_cons] at ht
    split at ht
    · cases ht
    · rename_i hlt
      injection ht with ht
      injection ht with e1 e2
      have hn : (a :: ys).length = n := h1.2.1.len
      have hbl : b.length = a.toNat := by rw [← e1, List.length_take]; omega
      have ha := a.toNat_lt
      rw [List.length_cons] at hn
      refine (take_ok W rg A n c (a :: ys) h1 h2 (by omega) b.length (by simpa using hbl.symm) (by omega)).mono ?_
      rintro e w' ⟨rfl, w1, hf, A', k1, k2, k3, _⟩
      have hd : (a :: ys).drop (1 + b.length) = rest := by rw [hbl, ← e2, Nat.add_comm]; rfl
      have hb : ((a :: ys).drop 1).take b.length = b := by rw [hbl, ← e1]; rfl
      rw [hd] at k1
      rw [hb] at hf
      refine ⟨rfl, ?_, ⟨⟨A', _, _, k1, by omega, k2.trans h3⟩, h.ne⟩, (hf.2.2.mono (fun _ _ h => h.elim)).trans k3 (fun _ _ h => h), by omega⟩
      rw [k3.block W.heap.size (by have := hf.2.1; omega) (by omega)]
      exact hf.1

theorem Own.st {W : World} {x y : RcD} {b base : Nat} (hb : x.In W b) {z : VlD} (h : z.Own W base) : z.Own (stRec W b y) base :=
  OwV.mod h (stRec_mod W b y) (fun k hk e => by subst e; exact ne_of_type h hb (by decide) k hk rfl)
theorem Own.rebase {W : World} {base base' : Nat} {z : VlD} (h : z.Own W base) (hb : base' ≤ base) : z.Own W base' := OwV.rebase h (fun k hk => Nat.le_trans hb (OwV.lt h k hk).1)

set_option maxRecDepth 100000 in
set_option maxHeartbeats 2000000 in
theorem readRec_yes (w : World) (rg rb : Nat) (xs : List UInt8) (h : Rdr w rg rb xs) (hrb : rb < w.heap.size) (r : Rc) (rest : List UInt8) (hr : recR xs = some (r, rest)) :
    Calls Tryz.prog 81 #[.pointer (some ⟨rg, 0, none⟩)] w fun e w' => ∃ y : RcD, e = .returned (.tuple #[.agg y.cells, .int .i64 0]) ∧ y.p = r ∧ y.o.Own w' w.heap.size ∧ y.v.Own w' w.heap.size ∧ Rdr w' rg rb rest ∧ Mod (fun k => k = rg) w w' := by
  have hrg := h.lt
  obtain ⟨b, ht, hd0, hd1⟩ : ∃ b, takeM xs = some (b, rest) ∧ (decode b).1 = 0 ∧ (decode b).2 = r := by
    unfold recR at hr
    split at hr
    · cases hr
    · rename_i b rest' ht
      split at hr
      · rename_i h0
        injection hr with hr
        injection hr with e1 e2
        exact ⟨b, by rw [ht, e2], h0, e1⟩
      · cases hr
  obtain ⟨wA, hwA⟩ : ∃ wA, w.alloc (.cells RcD.zero.cells 47) = wA := ⟨_, rfl⟩
  have hmA : Mod (fun _ => False) w wA := by rw [← hwA]; exact (Mod.refl _ w).alloc _
  have hZ : RcD.zero.In wA w.heap.size := by rw [← hwA]; exact RcD.In.new w RcD.zero
  have H1 := Lib.hid (rdr_take_some (h.keep hmA) ht)
  have HmA : Hid (Mod (fun k => k = rg) w wA) := hmA.mono (fun _ _ h => h.elim)
  have HZ := Lib.hid hZ
  have HwA := Lib.hid hwA
  have Hd0 := Lib.hid hd0
  have Hd1 := Lib.hid hd1
  have Hrg := Lib.hid hrg
  have Hrb := Lib.hid hrb
  clear hwA hmA hZ h ht hr hd0 hd1 hrg hrb
  go_enter Tryz.func81, Tryz.ntmps81
  go_wp2_with fail
  rw [show w.alloc (.cells #[.int .i64 0, .int .i64 0, .int .i64 0, .int .i64 0, .int .i64 0, .int .i64 0, .int .i64 0, .int .i64 0, .int .i64 0, .int .i64 0, .bool false, .slice none 0 0, .bool false, .slice none 0 0] 47) = wA from HwA.out]
  clear HwA
  refine H1.out.mono ?_
  rintro e w1 ⟨rfl, hb1, hr1, hm1, hbl⟩
  have HD := Lib.hid (decode_ok w1 _ _ _ _ (Sl.of_block hb1) (by omega))
  have hZ1 := HZ.out.mod hm1 (by have := Hrg.out; omega)
  have HZ1 := Lib.hid hZ1
  have Hr1 := Lib.hid hr1
  have Hm1 := Lib.hid (HmA.out.trans hm1 (fun _ _ h => h))
  clear hb1 hr1 hm1 hZ1 HZ HmA H1
  obtain ⟨m, hm⟩ : ∃ m, b.length = m := ⟨_, rfl⟩
  rw [hm] at HD hbl ⊢
  clear hm
  go_wp2_with fail
  refine HD.out.mono ?_
  rintro e w2 ⟨⟨y, rfl, hy, hyo, hyv⟩, hm2⟩
  rw [Hd0.out]
  rw [Hd1.out] at hy
  have hZ2 := HZ1.out.keep hm2
  have Hm2 := Lib.hid (Hm1.out.trans hm2 (fun _ _ h => h.elim))
  have Hr2 := Lib.hid (Hr1.out.keep hm2)
  have HZ2 := Lib.hid hZ2
  have Hy := Lib.hid hy
  have Hsz : Hid (w.heap.size ≤ w1.heap.size) := Hm1.out.size
  have Hyo := Lib.hid (Own.rebase hyo Hsz.out)
  have Hyv := Lib.hid (Own.rebase hyv Hsz.out)
  have p0 := hZ2.kind
  have p1 := hZ2.num (i := 1) (by omega) (by omega)
  have p2 := hZ2.num (i := 2) (by omega) (by omega)
  have p3 := hZ2.num (i := 3) (by omega) (by omega)
  have p4 := hZ2.num (i := 4) (by omega) (by omega)
  have p5 := hZ2.num (i := 5) (by omega) (by omega)
  have p6 := hZ2.num (i := 6) (by omega) (by omega)
  have p7 := hZ2.num (i := 7) (by omega) (by omega)
  have p8 := hZ2.num (i := 8) (by omega) (by omega)
  have p9 := hZ2.num (i := 9) (by omega) (by omega)
  have p10 := hZ2.c10
  have p11 := hZ2.c11
  have p12 := hZ2.c12
  have p13 := hZ2.c13
  have f0 := hZ2.fz 0
  have f1 := hZ2.fz 1
  have f2 := hZ2.fz 2
  have f3 := hZ2.fz 3
  have f4 := hZ2.fz 4
  have f5 := hZ2.fz 5
  have f6 := hZ2.fz 6
  have f7 := hZ2.fz 7
  have f8 := hZ2.fz 8
  have f9 := hZ2.fz 9
  have f10 := hZ2.fz 10
  have f11 := hZ2.fz 11
  have f12 := hZ2.fz 12
  have f13 := hZ2.fz 13
  clear hy hyo hyv hm2 hZ2 HZ1 Hm1 Hr1 HD
  go_wp2
  change bodyPost _ _ _ _ _ (stRec w2 w.heap.size y)
  have h3 := stRec_in HZ2.out y
  have hm3 := stRec_mod w2 w.heap.size y
  have Ho3 := Lib.hid (Own.st (y := y) HZ2.out Hyo.out)
  have Hv3 := Lib.hid (Own.st (y := y) HZ2.out Hyv.out)
  have Hr3 := Lib.hid (Hr2.out.far hm3 (by have := Hrg.out; omega) (by have := Hrb.out; omega))
  have Hm3 : Hid (Mod (fun k => k = rg) w (stRec w2 w.heap.size y)) := Hm2.out.trans hm3 (fun k hk e => by omega)
  generalize stRec w2 w.heap.size y = w3 at *
  have r0 := h3.kind
  have r1 := h3.num (i := 1) (by omega) (by omega)
  have r2 := h3.num (i := 2) (by omega) (by omega)
  have r3 := h3.num (i := 3) (by omega) (by omega)
  have r4 := h3.num (i := 4) (by omega) (by omega)
  have r5 := h3.num (i := 5) (by omega) (by omega)
  have r6 := h3.num (i := 6) (by omega) (by omega)
  have r7 := h3.num (i := 7) (by omega) (by omega)
  have r8 := h3.num (i := 8) (by omega) (by omega)
  have r9 := h3.num (i := 9) (by omega) (by omega)
  have r10 := h3.c10
  have r11 := h3.c11
  have r12 := h3.c12
  have r13 := h3.c13
  clear h3 hm3 HZ2 p0 p1 p2 p3 p4 p5 p6 p7 p8 p9 p10 p11 p12 p13 f0 f1 f2 f3 f4 f5 f6 f7 f8 f9 f10 f11 f12 f13
  refine bodyPost_ret (v := .tuple #[.agg y.cells, .int .i64 0]) (by simp [results, Tryz.results81, go_sem, r0, r1, r2, r3, r4, r5, r6, r7, r8, r9, r10, r11, r12, r13]) rfl ?_
  exact ⟨y, rfl, Hy.out, Ho3.out, Hv3.out, Hr3.out, Hm3.out⟩

set_option maxRecDepth 100000 in
set_option maxHeartbeats 2000000 in
theorem readRec_no (w : World) (rg rb : Nat) (xs : List UInt8) (h : Rdr w rg rb xs) (hr : recR xs = none) :
    Calls Tryz.prog 81 #[.pointer (some ⟨rg, 0, none⟩)] w fun e w' => ∃ (y : RcD) (er : Int), e = .returned (.tuple #[.agg y.cells, .int .i64 er]) ∧ er ≠ 0 ∧ Mod (fun k => k = rg) w w' := by
  have hrg := h.lt
  obtain ⟨wA, hwA⟩ : ∃ wA, w.alloc (.cells RcD.zero.cells 47) = wA := ⟨_, rfl⟩
  have hmA : Mod (fun _ => False) w wA := by rw [← hwA]; exact (Mod.refl _ w).alloc _
  have hZ : RcD.zero.In wA w.heap.size := by rw [← hwA]; exact RcD.In.new w RcD.zero
  have HmA : Hid (Mod (fun k => k = rg) w wA) := hmA.mono (fun _ _ h => h.elim)
  have HZ := Lib.hid hZ
  have HwA := Lib.hid hwA
  have Hrg := Lib.hid hrg
  cases ht : takeM xs with
  | none =>
    have H1 := Lib.hid (rdr_take_none (h.keep hmA) ht)
    have p0 := hZ.kind
    have p1 := hZ.num (i := 1) (by omega) (by omega)
    have p2 := hZ.num (i := 2) (by omega) (by omega)
    have p3 := hZ.num (i := 3) (by omega) (by omega)
    have p4 := hZ.num (i := 4) (by omega) (by omega)
    have p5 := hZ.num (i := 5) (by omega) (by omega)
    have p6 := hZ.num (i := 6) (by omega) (by omega)
    have p7 := hZ.num (i := 7) (by omega) (by omega)
    have p8 := hZ.num (i := 8) (by omega) (by omega)
    have p9 := hZ.num (i := 9) (by omega) (by omega)
    have p10 := hZ.c10
    have p11 := hZ.c11
    have p12 := hZ.c12
    have p13 := hZ.c13
    have f0 := hZ.fz 0
    have f1 := hZ.fz 1
    have f2 := hZ.fz 2
    have f3 := hZ.fz 3
    have f4 := hZ.fz 4
    have f5 := hZ.fz 5
    have f6 := hZ.fz 6
    have f7 := hZ.fz 7
    have f8 := hZ.fz 8
    have f9 := hZ.fz 9
    have f10 := hZ.fz 10
    have f11 := hZ.fz 11
    have f12 := hZ.fz 12
    have f13 := hZ.fz 13
    clear hwA hmA hZ h ht hr hrg
    go_enter Tryz.func81, Tryz.ntmps81
    go_wp2_with fail
    rw [show w.alloc (.cells #[.int .i64 0, .int .i64 0, .int .i64 0, .int .i64 0, .int .i64 0, .int .i64 0, .int .i64 0, .int .i64 0, .int .i64 0, .int .i64 0, .bool false, .slice none 0 0, .bool false, .slice none 0 0] 47) = wA from HwA.out]
    clear HwA
    refine H1.out.mono ?_
    rintro e w1 ⟨rfl, rfl⟩
    clear H1
    go_wp2
    change bodyPost _ _ _ _ _ (stRec wA w.heap.size RcD.zero)
    have h3 := stRec_in HZ.out RcD.zero
    have hm3 := stRec_mod wA w.heap.size RcD.zero
    have Hm3 : Hid (Mod (fun k => k = rg) w (stRec wA w.heap.size RcD.zero)) := HmA.out.trans hm3 (fun k hk e => by omega)
    generalize stRec wA w.heap.size RcD.zero = w3 at *
    have r0 := h3.kind
    have r1 := h3.num (i := 1) (by omega) (by omega)
    have r2 := h3.num (i := 2) (by omega) (by omega)
    have r3 := h3.num (i := 3) (by omega) (by omega)
    have r4 := h3.num (i := 4) (by omega) (by omega)
    have r5 := h3.num (i := 5) (by omega) (by omega)
    have r6 := h3.num (i := 6) (by omega) (by omega)
    have r7 := h3.num (i := 7) (by omega) (by omega)
    have r8 := h3.num (i := 8) (by omega) (by omega)
    have r9 := h3.num (i := 9) (by omega) (by omega)
    have r10 := h3.c10
    have r11 := h3.c11
    have r12 := h3.c12
    have r13 := h3.c13
    clear h3 hm3 HZ p0 p1 p2 p3 p4 p5 p6 p7 p8 p9 p10 p11 p12 p13 f0 f1 f2 f3 f4 f5 f6 f7 f8 f9 f10 f11 f12 f13
    refine bodyPost_ret (v := .tuple #[.agg RcD.zero.cells, .int .i64 6]) (by simp [results, Tryz.results81, go_sem, r0, r1, r2, r3, r4, r5, r6, r7, r8, r9, r10, r11, r12, r13]) rfl ?_
    exact ⟨RcD.zero, 6, rfl, by decide, Hm3.out⟩
  | some br =>
    obtain ⟨b, rest⟩ := br
    have hd0 : (decode b).1 ≠ 0 := by
      intro e
      unfold recR at hr
      rw [ht] at hr
      simp only [e, if_true] at hr
      cases hr
    have H1 := Lib.hid (rdr_take_some (h.keep hmA) ht)
    have Hd0 := Lib.hid hd0
    clear hwA hmA hZ h ht hr hd0 hrg
    go_enter Tryz.func81, Tryz.ntmps81
    go_wp2_with fail
    rw [show w.alloc (.cells #[.int .i64 0, .int .i64 0, .int .i64 0, .int .i64 0, .int .i64 0, .int .i64 0, .int .i64 0, .int .i64 0, .int .i64 0, .int .i64 0, .bool false, .slice none 0 0, .bool false, .slice none 0 0] 47) = wA from HwA.out]
    clear HwA
    refine H1.out.mono ?_
    rintro e w1 ⟨rfl, hb1, hr1, hm1, hbl⟩
    have HD := Lib.hid (decode_ok w1 _ _ _ _ (Sl.of_block hb1) (by omega))
    have hZ1 := HZ.out.mod hm1 (by have := Hrg.out; omega)
    have HZ1 := Lib.hid hZ1
    have Hm1 := Lib.hid (HmA.out.trans hm1 (fun _ _ h => h))
    clear hb1 hr1 hm1 hZ1 HZ HmA H1
    obtain ⟨m, hm⟩ : ∃ m, b.length = m := ⟨_, rfl⟩
    rw [hm] at HD hbl ⊢
    clear hm
    go_wp2_with fail
    refine HD.out.mono ?_
    rintro e w2 ⟨⟨y, rfl, _, _, _⟩, hm2⟩
    obtain ⟨er, her⟩ : ∃ er, (decode b).1 = er := ⟨_, rfl⟩
    rw [her] at Hd0 ⊢
    have hZ2 := HZ1.out.keep hm2
    have Hm2 := Lib.hid (Hm1.out.trans hm2 (fun _ _ h => h.elim))
    have HZ2 := Lib.hid hZ2
    have p0 := hZ2.kind
    have p1 := hZ2.num (i := 1) (by omega) (by omega)
    have p2 := hZ2.num (i := 2) (by omega) (by omega)
    have p3 := hZ2.num (i := 3) (by omega) (by omega)
    have p4 := hZ2.num (i := 4) (by omega) (by omega)
    have p5 := hZ2.num (i := 5) (by omega) (by omega)
    have p6 := hZ2.num (i := 6) (by omega) (by omega)
    have p7 := hZ2.num (i := 7) (by omega) (by omega)
    have p8 := hZ2.num (i := 8) (by omega) (by omega)
    have p9 := hZ2.num (i := 9) (by omega) (by omega)
    have p10 := hZ2.c10
    have p11 := hZ2.c11
    have p12 := hZ2.c12
    have p13 := hZ2.c13
    have f0 := hZ2.fz 0
    have f1 := hZ2.fz 1
    have f2 := hZ2.fz 2
    have f3 := hZ2.fz 3
    have f4 := hZ2.fz 4
    have f5 := hZ2.fz 5
    have f6 := hZ2.fz 6
    have f7 := hZ2.fz 7
    have f8 := hZ2.fz 8
    have f9 := hZ2.fz 9
    have f10 := hZ2.fz 10
    have f11 := hZ2.fz 11
    have f12 := hZ2.fz 12
    have f13 := hZ2.fz 13
    clear hm2 hZ2 HZ1 Hm1 HD her
    go_wp2
    change bodyPost _ _ _ _ _ (stRec w2 w.heap.size y)
    have h3 := stRec_in HZ2.out y
    have hm3 := stRec_mod w2 w.heap.size y
    have Hm3 : Hid (Mod (fun k => k = rg) w (stRec w2 w.heap.size y)) := Hm2.out.trans hm3 (fun k hk e => by omega)
    generalize stRec w2 w.heap.size y = w3 at *
    have r0 := h3.kind
    have r1 := h3.num (i := 1) (by omega) (by omega)
    have r2 := h3.num (i := 2) (by omega) (by omega)
    have r3 := h3.num (i := 3) (by omega) (by omega)
    have r4 := h3.num (i := 4) (by omega) (by omega)
    have r5 := h3.num (i := 5) (by omega) (by omega)
    have r6 := h3.num (i := 6) (by omega) (by omega)
    have r7 := h3.num (i := 7) (by omega) (by omega)
    have r8 := h3.num (i := 8) (by omega) (by omega)
    have r9 := h3.num (i := 9) (by omega) (by omega)
    have r10 := h3.c10
    have r11 := h3.c11
    have r12 := h3.c12
    have r13 := h3.c13
    clear h3 hm3 HZ2 p0 p1 p2 p3 p4 p5 p6 p7 p8 p9 p10 p11 p12 p13 f0 f1 f2 f3 f4 f5 f6 f7 f8 f9 f10 f11 f12 f13
    refine bodyPost_ret (v := .tuple #[.agg y.cells, .int .i64 er]) (by simp [results, Tryz.results81, go_sem, r0, r1, r2, r3, r4, r5, r6, r7, r8, r9, r10, r11, r12, r13]) rfl ?_
    exact ⟨y, er, rfl, Hd0.out, Hm3.out⟩

/-! ### onlyZeros -/
set_option maxRecDepth 100000 in
set_option maxHeartbeats 1000000 in
theorem onlyZeros_ok (w : World) (rg rb : Nat) (xs : List UInt8) (h : Rdr w rg rb xs) (hl : xs.length ≤ 1000) :
    Calls Tryz.prog 82 #[.pointer (some ⟨rg, 0, none⟩)] w fun e w' => e = .returned (.bool (xs.all (· == 0))) ∧ Mod (fun k => k = rg) w w' := by
  have hlf : Calls Tryz.prog 92 #[.pointer (some ⟨rg, 0, none⟩)] w fun e w' => e = .returned (.int .i64 (xs.length : Nat)) ∧ w = w' := by
    obtain ⟨A, n, c, h1, _⟩ := h.ex
    rw [h1.2.1.len]
    exact left_ok w rg A n c xs h1
  have Hlf := Lib.hid hlf
  have H := Lib.hid h
  obtain ⟨N, hN⟩ : ∃ N, xs.length = N := ⟨_, rfl⟩
  have HN := Lib.hid hN
  rw [hN] at Hlf
  have hNI : (N : Int) ≤ 1000 := by omega
  clear hlf h hl hN
  go_enter Tryz.func82, Tryz.ntmps82
  go_wp2_with fail
  refine Hlf.out.mono ?_
  rintro e w1 ⟨rfl, rfl⟩
  clear Hlf
  go_wp2_with fail
  go_loopw [7] (fun i wr => ∃ j : Nat, j ≤ N ∧ i = .int .i64 j ∧ (xs.take j).all (· == 0) = true ∧ Rdr wr rg rb (xs.drop j) ∧ Mod (fun k => k = rg) w wr) (fun i _ => N - (intOf i).toNat)
  case atStart => exact ⟨0, by omega, rfl, by simp, by simpa using H.out, Mod.refl _ _⟩
  case round =>
    obtain ⟨j, hj, rfl, hall, hrd, hm⟩ := hrel
    have Hall := Lib.hid hall
    have Hrd := Lib.hid hrd
    have Hm := Lib.hid hm
    clear hall hrd hm
    by_cases hlt : j < N
    · have hjl : j < xs.length := by rw [HN.out]; exact hlt
      obtain ⟨b, hb⟩ : ∃ b, xs[j]'hjl = b := ⟨_, rfl⟩
      have hdj : xs.drop j = b :: xs.drop (j + 1) := by rw [← hb]; exact List.drop_eq_getElem_cons hjl
      have hg := rdr_get1 Hrd.out (by rw [hdj]; simp)
      rw [hdj] at hg
      have Hg : Hid (Calls Tryz.prog 89 #[.pointer (some ⟨rg, 0, none⟩), .int .i64 1] wr fun e w' => e = .returned (.tuple #[.int .i64 (b.toNat : Nat), .int .i64 0]) ∧ Rdr w' rg rb (xs.drop (j + 1)) ∧ Mod (fun k => k = rg) wr w') := by
        refine hg.mono ?_
        rintro e w' ⟨rfl, h1, h2⟩
        exact ⟨by simp [unle], h1, h2⟩
      have Htk : Hid ((xs.take (j + 1)).all (· == 0) = (b == 0)) := by
        show _ = _
        rw [List.take_succ_eq_append_getElem hjl, List.all_append, Hall.out, hb]
        simp
      have Hmem : Hid (b ∈ xs) := by rw [← hb]; exact List.getElem_mem hjl
      clear hg hdj hb hjl
      go_wp2_with fail
      refine Hg.out.mono ?_
      rintro e w2 ⟨rfl, h2, hm2⟩
      have H2 := Lib.hid h2
      have Hm2 := Lib.hid (Hm.out.trans hm2 (fun _ _ h => h))
      clear h2 hm2 Hg
      by_cases hb0 : b = 0
      · have Hal : Hid ((xs.take (j + 1)).all (· == 0) = true) := by show _ = _; rw [Htk.out, hb0]; rfl
        subst hb0
        have e0 : (((0 : UInt8).toNat : Nat) : Int) = 0 := rfl
        rw [e0]
        clear e0
        go_wp2
        go_roundw
        case rel => exact ⟨j + 1, by omega, by go_num, Hal.out, H2.out, Hm2.out⟩
        case measure => simp [intOf]; omega
      · have hbn : (((b.toNat : Nat) : Int) != 0) = true := by
          simp
          intro e
          apply hb0
          apply UInt8.toNat_inj.1
          simpa using e
        have Hno : Hid (xs.all (· == 0) = false) := by show _ = _; rw [List.all_eq_false]; exact ⟨b, Hmem.out, by simpa using hb0⟩
        clear hb0
        go_wp2
        go_ret
        exact ⟨by rw [Hno.out]; rfl, Hm2.out⟩
    · obtain rfl : j = N := by omega
      have e : xs.take j = xs := List.take_of_length_le (by rw [HN.out]; omega)
      rw [e] at Hall
      clear e
      go_wp2
      go_ret
      exact ⟨by rw [Hall.out]; rfl, Hm.out⟩
end Go.Proofs.YtnbamljaiahmdaaGreat
