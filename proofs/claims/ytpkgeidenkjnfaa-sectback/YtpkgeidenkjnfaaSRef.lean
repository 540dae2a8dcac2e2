/-
  bobbinref07: Light, bytes.
-/
import Derived.Test.YtpkgeidenkjnfaaSBase
import Derived.Test.YtpkgeidenkjnfaaRefE
namespace Go.Proofs.Ytpkgeidenkjnfaa
open Go Go.RowKit Go.Shelf

set_option maxRecDepth 100000 in
theorem rlight100 (w : World) (x : RcD) :
    Calls Try.prog 23 #[x.val, .int .i64 100] w fun e w' => e = .returned (.bool (decide ((x.o.m : Int) ≤ 100) && decide ((x.v.m : Int) ≤ 100))) ∧ Mod (fun _ => False) w w' := by
  have Ha : Hid (Mod (fun _ => False) w (w.alloc (.cells x.cells 45))) := (Mod.refl _ w).alloc _
  by_cases h : (x.o.m : Int) ≤ 100
  · have Hd : Hid (decide ((x.o.m : Int) ≤ 100) = true) := by show _ = _; simpa using h
    go_enter Try.func23, Try.ntmps23
    go_wp2
    go_ret
    exact ⟨by rw [Hd.out, Bool.true_and]; rfl, Ha.out⟩
  · have Hd : Hid (decide ((x.o.m : Int) ≤ 100) = false) := by show _ = _; simpa using h
    go_enter Try.func23, Try.ntmps23
    go_wp2
    go_ret
    exact ⟨by rw [Hd.out, Bool.false_and]; rfl, Ha.out⟩

def light1 (x : RcD) : Bool := decide ((x.o.m : Int) ≤ 100) && decide ((x.v.m : Int) ≤ 100)
def lightB (l : List RcD) (most : Nat) : Bool := decide (l.length ≤ most) && l.all light1
theorem lightB_len {l : List RcD} {most : Nat} (h : lightB l most = true) : l.length ≤ most ∧ ∀ x ∈ l, x.o.m ≤ 100 ∧ x.v.m ≤ 100 := by
  unfold lightB at h
  rw [Bool.and_eq_true, decide_eq_true_iff, List.all_eq_true] at h
  refine ⟨h.1, fun x hx => ?_⟩
  have := h.2 x hx
  simp [light1] at this
  omega

set_option maxRecDepth 100000 in
set_option maxHeartbeats 1000000 in
theorem light_ok (w : World) (A : Option Addr) (n c : Nat) (l : List RcD) (h : Rs w A n c l) (most : Nat) (hm : most ≤ 100) :
    Calls Try.prog 9 #[.slice A n c, .int .i64 most] w fun e w' => e = .returned (.bool (lightB l most)) ∧ Mod (fun _ => False) w w' := by
  have hlen := h.len
  have Hlen := Lib.hid hlen
  have Hr := Lib.hid h
  by_cases hgt : most < n
  · have Hb : Hid (lightB l most = false) := by show _ = _; unfold lightB; rw [hlen]; simp; omega
    have hd : decide (most < n) = true := by simp; omega
    clear hgt h hlen
    go_enter Try.func9, Try.ntmps9
    go_wp2
    go_ret
    exact ⟨by rw [Hb.out]; rfl, Mod.refl _ _⟩
  · have hd : decide (most < n) = false := by simp; omega
    have hn : (n : Int) ≤ 100 := by omega
    have hd2 : (n : Int) ≤ most := by omega
    have Hb : Hid (lightB l most = l.all light1) := by
      show _ = _
      unfold lightB
      rw [hlen, decide_eq_true (by omega : n ≤ most), Bool.true_and]
    clear hgt h hlen hm
    go_enter Try.func9, Try.ntmps9
    go_wp2_with fail
    clear hd hd2
    go_loopw [5] (fun i wr => ∃ j : Nat, j ≤ n ∧ i = .int .i64 j ∧ (l.take j).all light1 = true ∧ Mod (fun _ => False) w wr) (fun i _ => n - (intOf i).toNat)
    case atStart => exact ⟨0, by omega, rfl, by simp, Mod.refl _ _⟩
    case round =>
      obtain ⟨j, hj, rfl, hall, hm⟩ := hrel
      have Hall := Lib.hid hall
      have Hm := Lib.hid hm
      clear hall hm
      by_cases hlt : j < n
      · obtain ⟨b, o, rfl, hc⟩ := Hr.out.cells (by omega)
        have hx : l[j]? = some (l[j]'(by rw [Hlen.out]; exact hlt)) := List.getElem?_eq_getElem _
        obtain ⟨x, hxe⟩ : ∃ x, x = l[j]'(by rw [Hlen.out]; exact hlt) := ⟨_, rfl⟩
        rw [← hxe] at hx
        clear hxe
        have hC := (hc j x hx).keep (Hm.out.block b (hc j x hx).lt id)
        have Hl := Lib.hid (rlight100 wr x)
        have Hx := Lib.hid hx
        have p0 := hC.k
        have p1 := hC.f1
        have p2 := hC.f2
        have p3 := hC.f3
        have p4 := hC.f4
        have p5 := hC.f5
        have p6 := hC.f6
        have p7 := hC.f7
        have p8 := hC.f8
        have p9 := hC.f9
        have p10 := hC.c10
        have p11 := hC.c11
        have p12 := hC.c12
        have p13 := hC.c13
        clear hC hc hx
        go_wp2_with fail
        refine Hl.out.mono ?_
        rintro e w2 ⟨rfl, hm2⟩
        have Hm2 := Lib.hid (Hm.out.trans hm2 (fun _ _ h => h))
        clear hm2 Hl p0 p1 p2 p3 p4 p5 p6 p7 p8 p9 p10 p11 p12 p13
        rw [show (decide ((x.o.m : Int) ≤ 100) && decide ((x.v.m : Int) ≤ 100)) = light1 x from rfl]
        cases hl1 : light1 x with
        | false =>
          have Hno : Hid (l.all light1 = false) := by show _ = _; rw [List.all_eq_false]; exact ⟨x, List.mem_of_getElem? Hx.out, by rw [hl1]; simp⟩
          clear hl1
          go_wp2
          go_ret
          exact ⟨by rw [Hb.out, Hno.out]; rfl, Hm2.out⟩
        | true =>
          have Hal : Hid ((l.take (j + 1)).all light1 = true) := by
            show _ = _
            obtain ⟨hj', e⟩ := List.getElem?_eq_some_iff.1 Hx.out
            rw [List.take_succ_eq_append_getElem hj', List.all_append, e, Hall.out]
            simpa using hl1
          clear hl1
          go_wp2
          go_roundw
          case rel => exact ⟨j + 1, by omega, by go_num, Hal.out, Hm2.out⟩
          case measure => simp [intOf]; omega
      · obtain rfl : j = n := by omega
        have e : l.take j = l := List.take_of_length_le (by rw [Hlen.out]; omega)
        rw [e] at Hall
        clear e
        go_wp2
        go_ret
        exact ⟨by rw [Hb.out, Hall.out]; rfl, Hm.out⟩

/-! ### bytes -/
/-- A number's bytes, or none. -/
def putE (n : Int) (k : Nat) : Int := if okN n k then 0 else 1
def putB (n : Int) (k : Nat) : List UInt8 := if okN n k then le k n.toNat else []
theorem putB_len (n : Int) (k : Nat) : (putB n k).length ≤ k := by unfold putB; split <;> simp [le_length]
theorem rput7 (w : World) (n : Int) (k : Nat) (hk : k = 2 ∨ k = 4) :
    Calls Try.prog 40 #[.int .i64 n, .int .i64 (k : Nat)] w fun e w' => ∃ A m c, e = .returned (.tuple #[.slice A m c, .int .i64 (putE n k)]) ∧ Sl w' A m c (putB n k) ∧ Mod (fun _ => False) w w' := by
  have hw : widthOk (k : Int) = true := by rcases hk with rfl | rfl <;> rfl
  by_cases h : okN n k = true
  · obtain ⟨h0, h1⟩ := (okN_pw _ _).1 h
    refine (refPut_ok w n (k : Nat) hw h0 (by rw [Int.toNat_natCast]; exact h1)).mono ?_
    rintro e w' ⟨A, c, rfl, hf, hm⟩
    refine ⟨A, _, c, by unfold putE; rw [if_pos h], ?_, hm⟩
    unfold putB
    rw [if_pos h]
    have := hf.sl
    rw [Int.toNat_natCast] at this ⊢
    exact this
  · refine (refPut_no w n (k : Nat) (.inr ?_)).mono ?_
    · rw [okN_pw] at h
      rw [Int.toNat_natCast]
      omega
    · rintro e w' ⟨rfl, rfl⟩
      refine ⟨none, 0, 0, by unfold putE; rw [if_neg h], ?_, Mod.refl _ _⟩
      unfold putB
      rw [if_neg h]
      exact Sl.none_ _ _ _

/-- A row of the call's own that began in w0; nothing that was there then has turned. -/
structure Row7 (w0 w : World) (A : Option Addr) (n c : Nat) (xs : List UInt8) : Prop where
  own : OwV w w0.heap.size 5 A n c (xs.map bv)
  old : Mod (fun _ => False) w0 w
theorem Row7.keep {w0 w w' : World} {A : Option Addr} {n c : Nat} {xs : List UInt8} (h : Row7 w0 w A n c xs) (hm : Mod (fun _ => False) w w') : Row7 w0 w' A n c xs :=
  ⟨h.own.mod hm (fun _ _ => id), h.old.trans hm (fun _ _ h => h)⟩
theorem Row7.nil (w : World) : Row7 w w none 0 0 [] := ⟨OwV.nil _ _ _, Mod.refl _ _⟩
theorem Row7.grow {w0 w w' : World} {A A' : Option Addr} {n c n' c' : Nat} {xs ys : List UInt8} (h : Row7 w0 w A n c xs) (ho : OwV w' w0.heap.size 5 A' n' c' (xs.map bv ++ ys.map bv)) (hg : w.grownBy w' (blkOf A)) : Row7 w0 w' A' n' c' (xs ++ ys) :=
  ⟨by rw [List.map_append]; exact ho, h.old.grown hg (fun k e hk => by have := (h.own.lt k e).1; omega)⟩
theorem Row7.len {w0 w : World} {A : Option Addr} {n c : Nat} {xs : List UInt8} (h : Row7 w0 w A n c xs) : xs.length = n := by have := h.own.len; simpa using this

def numOk (e s f : Int) : Bool := okN e 2 && okN s 4 && okN f 4
def refOk (e s f : Int) (l : List RcD) : Bool := numOk e s f && l.all mayB
def refR (e s f : Int) (l : List RcD) : List UInt8 := if refOk e s f l then packB e s f l else []
structure BytesAns (w : World) (b : Bool) (bs : List UInt8) (e : Ending) (w' : World) : Prop where
  ex : ∃ A m c, e = .returned (.tuple #[.slice A m c, .bool b]) ∧ Sl w' A m c bs
  old : Mod (fun _ => False) w w'
end Go.Proofs.Ytpkgeidenkjnfaa
