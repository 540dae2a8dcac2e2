/-
  rec.May.
-/
import Derived.Test.YtpkgeidenkjnfaaMay
import Derived.Test.YtpkgeidenkjnfaaFields
namespace Go.Proofs.Ytpkgeidenkjnfaa
open Go Go.RowKit Go.Shelf

def Fld.good : Fld → Prop
  | .num i wd => 1 ≤ i ∧ i ≤ 9 ∧ (wd = 1 ∨ wd = 2 ∨ wd = 4)
  | _ => True
def Fld.goodB : Fld → Bool
  | .num i wd => decide (1 ≤ i) && decide (i ≤ 9) && (decide (wd = 1) || decide (wd = 2) || decide (wd = 4))
  | _ => true
theorem goodB_good {l : List Fld} (h : l.all Fld.goodB = true) : ∀ f ∈ l, f.good := by
  intro f hf
  have := List.all_eq_true.1 h f hf
  cases f with
  | num i wd => simpa [Fld.goodB, Fld.good, and_assoc, or_assoc] using this
  | old => trivial
  | new => trivial
theorem fields_good {k : Int} {fl : List Fld} (h : fieldsOf k = some fl) : ∀ f ∈ fl, f.good := by
  unfold fieldsOf at h
  repeat' split at h
  all_goals first | (injection h with h; subst h; exact goodB_good rfl) | cases h

/-- One field of May: does it fit; it is made zero. -/
def okF (x : RcD) : Fld → Bool
  | .num i wd => okN (x.f i) wd
  | .old => okV x.o
  | .new => okV x.v
def zeroF (x : RcD) : Fld → RcD
  | .num i _ => { x with f := upd x.f i 0 }
  | .old => { x with o := VlD.none }
  | .new => { x with v := VlD.none }
def mayStep (s : Bool × RcD) (f : Fld) : Bool × RcD := (s.1 && okF s.2 f, zeroF s.2 f)
def mayS (fl : List Fld) (x : RcD) : Bool × RcD := fl.foldl mayStep (true, x)
theorem mayS_succ {fl : List Fld} {j : Nat} {f : Fld} (h : fl[j]? = some f) (x : RcD) : mayS (fl.take (j + 1)) x = mayStep (mayS (fl.take j) x) f := by
  obtain ⟨hj, e⟩ := List.getElem?_eq_some_iff.1 h
  unfold mayS
  rw [List.take_succ_eq_append_getElem hj, List.foldl_append, e]
  rfl
def mayB (x : RcD) : Bool :=
  match fieldsOf x.k with
  | none => false
  | some fl => (mayS fl x).1 && emptyB (mayS fl x).2

set_option maxRecDepth 100000 in
set_option maxHeartbeats 1000000 in
theorem may_ok (w : World) (x : RcD) :
    Calls Try.prog 50 #[x.val] w fun e w' => e = .returned (.bool (mayB x)) ∧ Mod (fun _ => False) w w' := by
  obtain ⟨wA, hwA⟩ : ∃ wA, wA = (w.alloc (.cells x.cells 45)).alloc (.cells #[.bool true] 4) := ⟨_, rfl⟩
  have hm : Mod (fun _ => False) w wA := by rw [hwA]; exact ((Mod.refl _ w).alloc _).alloc _
  have hI : x.In wA w.heap.size := by rw [hwA]; exact (RcD.In.new w x).keep ((Mod.refl _ _).alloc _)
  have hb : Bx wA (w.heap.size + 1) 4 (.bool true) := by
    rw [hwA]
    have := Bx.new (w.alloc (.cells x.cells 45)) 4 (.bool true)
    rw [World.size_alloc] at this
    exact this
  have Hm := Lib.hid hm
  cases hfl : fieldsOf x.k with
  | none =>
    have Hf := Lib.hid (fields_no wA w.heap.size x.k hI.kind hfl 62 63 #[.pointer (some ⟨w.heap.size + 1, 0, none⟩)] #[.pointer (some ⟨w.heap.size + 1, 0, none⟩)])
    have Hr : Hid (mayB x = false) := by show _ = _; unfold mayB; rw [hfl]
    clear hfl hm hI hb
    go_enter Try.func50, Try.ntmps50
    go_wp2_with fail
    rw [← hwA]
    clear hwA
    refine Hf.out.mono ?_
    rintro e w1 ⟨rfl, rfl⟩
    clear Hf
    go_wp2
    go_ret
    exact ⟨by rw [Hr.out]; rfl, Hm.out⟩
  | some fl =>
    have hg := fields_good hfl
    have hs : Steps w.heap.size 62 63 #[.pointer (some ⟨w.heap.size + 1, 0, none⟩)] #[.pointer (some ⟨w.heap.size + 1, 0, none⟩)]
        (fun j W => (mayS (fl.take j) x).2.In W w.heap.size ∧ Bx W (w.heap.size + 1) 4 (.bool (mayS (fl.take j) x).1) ∧ Mod (fun _ => False) w W) fl := by
      refine ⟨enters_of Try.func62 (by kernel_rfl) rfl, enters_of Try.func63 (by kernel_rfl) rfl, ?_, ?_, ?_⟩
      · rintro j i wd W hf ⟨h1, h2, h3⟩
        obtain ⟨g1, g2, g3⟩ : 1 ≤ i ∧ i ≤ 9 ∧ (wd = 1 ∨ wd = 2 ∨ wd = 4) := hg _ (List.mem_of_getElem? hf)
        rw [mayS_succ hf]
        refine (may1_ok W w.heap.size i (w.heap.size + 1) wd _ _ h1 g1 g2 g3 h2 (by omega)).mono ?_
        rintro e w' ⟨rfl, k1, k2, k3⟩
        exact ⟨rfl, k1, k2, h3.trans k3 (fun i hi e => by omega)⟩
      · rintro j W hf ⟨h1, h2, h3⟩
        rw [mayS_succ hf]
        refine (may2_o W w.heap.size (w.heap.size + 1) _ _ h1 h2 (by omega)).mono ?_
        rintro e w' ⟨rfl, k1, k2, k3⟩
        exact ⟨rfl, k1, k2, h3.trans k3 (fun i hi e => by omega)⟩
      · rintro j W hf ⟨h1, h2, h3⟩
        rw [mayS_succ hf]
        refine (may2_v W w.heap.size (w.heap.size + 1) _ _ h1 h2 (by omega)).mono ?_
        rintro e w' ⟨rfl, k1, k2, k3⟩
        exact ⟨rfl, k1, k2, h3.trans k3 (fun i hi e => by omega)⟩
    have Hf := Lib.hid (fields_ok wA w.heap.size 62 63 _ _ x.k hI.kind _ fl hfl ⟨hI, hb, hm⟩ hs)
    have Hr : Hid (mayB x = ((mayS fl x).1 && emptyB (mayS fl x).2)) := by show _ = _; unfold mayB; rw [hfl]
    clear hfl hm hI hb hs hg
    go_enter Try.func50, Try.ntmps50
    go_wp2_with fail
    rw [← hwA]
    clear hwA
    refine Hf.out.mono ?_
    rintro e w1 ⟨rfl, h1, h2, h3⟩
    clear Hf
    rw [List.take_length] at h1 h2
    obtain ⟨y, hy⟩ : ∃ y, (mayS fl x).2 = y := ⟨_, rfl⟩
    obtain ⟨b, hb⟩ : ∃ b, (mayS fl x).1 = b := ⟨_, rfl⟩
    rw [hy, hb] at Hr
    rw [hy] at h1
    rw [hb] at h2
    clear hy hb
    have c0 := h2.cell
    have H3 := Lib.hid h3
    cases b with
    | false =>
      clear h1 h2 h3
      go_wp2
      go_ret
      exact ⟨by rw [Hr.out]; rfl, H3.out⟩
    | true =>
      have He := Lib.hid (isEmpty_ok w1 y)
      have k0 := h1.kind
      have k1 := h1.num (i := 1) (by omega) (by omega)
      have k2 := h1.num (i := 2) (by omega) (by omega)
      have k3 := h1.num (i := 3) (by omega) (by omega)
      have k4 := h1.num (i := 4) (by omega) (by omega)
      have k5 := h1.num (i := 5) (by omega) (by omega)
      have k6 := h1.num (i := 6) (by omega) (by omega)
      have k7 := h1.num (i := 7) (by omega) (by omega)
      have k8 := h1.num (i := 8) (by omega) (by omega)
      have k9 := h1.num (i := 9) (by omega) (by omega)
      have k10 := h1.c10
      have k11 := h1.c11
      have k12 := h1.c12
      have k13 := h1.c13
      clear h1 h2 h3
      go_wp2_with fail
      refine He.out.mono ?_
      rintro e w2 ⟨rfl, hm2⟩
      have H4 := Lib.hid (H3.out.trans hm2 (fun _ _ h => h))
      clear hm2 He k0 k1 k2 k3 k4 k5 k6 k7 k8 k9 k10 k11 k12 k13 c0
      go_wp2
      go_ret
      exact ⟨by rw [Hr.out, Bool.true_and]; rfl, H4.out⟩
end Go.Proofs.Ytpkgeidenkjnfaa
