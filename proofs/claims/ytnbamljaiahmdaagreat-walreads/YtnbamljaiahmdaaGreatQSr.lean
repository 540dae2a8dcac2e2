/-
  bobbinref07: Light, bytes.
  bobbinref07.bytes.
  bobbinref07.Pack, Fits.
-/
import Derived.Test.YtnbamljaiahmdaaGreatQS
import Derived.Test.YtnbamljaiahmdaaGreatQRe3
namespace Go.Proofs.YtnbamljaiahmdaaGreat
open Go Go.RowKit Go.Shelf

def light1 (x : RcD) : Bool := decide ((x.o.m : Int) ≤ 100) && decide ((x.v.m : Int) ≤ 100)
def lightB (l : List RcD) (most : Nat) : Bool := decide (l.length ≤ most) && l.all light1
theorem lightB_len {l : List RcD} {most : Nat} (h : lightB l most = true) : l.length ≤ most ∧ ∀ x ∈ l, x.o.m ≤ 100 ∧ x.v.m ≤ 100 := by
  unfold lightB at h
  rw [Bool.and_eq_true, decide_eq_true_iff, List.all_eq_true] at h
  refine ⟨h.1, fun x hx => ?_⟩
  have := h.2 x hx
  simp [light1] at this
  omega

/-! ### bytes -/
/-- A number's bytes, or none. -/
def putE (n : Int) (k : Nat) : Int := if okN n k then 0 else 1
def putB (n : Int) (k : Nat) : List UInt8 := if okN n k then le k n.toNat else []
theorem putB_len (n : Int) (k : Nat) : (putB n k).length ≤ k := by unfold putB; split <;> simp [le_length]
theorem rput7 (w : World) (n : Int) (k : Nat) (hk : k = 2 ∨ k = 4) :
    Calls Tryz.prog 83 #[.int .i64 n, .int .i64 (k : Nat)] w fun e w' => ∃ A m c, e = .returned (.tuple #[.slice A m c, .int .i64 (putE n k)]) ∧ Sl w' A m c (putB n k) ∧ Mod (fun _ => False) w w' := by
  have hw : widthOk (k : Int) = true := by rcases hk with rfl | rfl <;> rfl
  by_cases h : okN n k = true
  · obtain ⟨h0, h1⟩ := (okN_pw _ _).1 h
    refine (refPut_ok w n (k : Nat) hw h0 (by rw [Int.toNat_natCast]; exact h1)).mono ?_
    rintro e w' ⟨A, c, rfl, hf, hm⟩
    refine ⟨A, _, c, by unfold putE; rw [if_pos h], ?_, hm⟩
    unfold putB
    rw [if_pos h]
    have := hf.sl
    rw [Int.toNat_natCast] at this ⊢
    exact this
  · refine (refPut_no w n (k : Nat) (.inr ?_)).mono ?_
    · rw [okN_pw] at h
      rw [Int.toNat_natCast]
      omega
    · rintro e w' ⟨rfl, rfl⟩
      refine ⟨none, 0, 0, by unfold putE; rw [if_neg h], ?_, Mod.refl _ _⟩
      unfold putB
      rw [if_neg h]
      exact Sl.none_ _ _ _

/-- A row of the call's own that began in w0; nothing that was there then has turned. -/
structure Row7 (w0 w : World) (A : Option Addr) (n c : Nat) (xs : List UInt8) : Prop where
  own : OwV w w0.heap.size 5 A n c (xs.map bv)
  old : Mod (fun _ => False) w0 w
theorem Row7.keep {w0 w w' : World} {A : Option Addr} {n c : Nat} {xs : List UInt8} (h : Row7 w0 w A n c xs) (hm : Mod (fun _ => False) w w') : Row7 w0 w' A n c xs :=
  ⟨h.own.mod hm (fun _ _ => id), h.old.trans hm (fun _ _ h => h)⟩
theorem Row7.nil (w : World) : Row7 w w none 0 0 [] := ⟨OwV.nil _ _ _, Mod.refl _ _⟩
theorem Row7.grow {w0 w w' : World} {A A' : Option Addr} {n c n' c' : Nat} {xs ys : List UInt8} (h : Row7 w0 w A n c xs) (ho : OwV w' w0.heap.size 5 A' n' c' (xs.map bv ++ ys.map bv)) (hg : w.grownBy w' (blkOf A)) : Row7 w0 w' A' n' c' (xs ++ ys) :=
  ⟨by rw [List.map_append]; exact ho, h.old.grown hg (fun k e hk => by have := (h.own.lt k e).1; omega)⟩
theorem Row7.len {w0 w : World} {A : Option Addr} {n c : Nat} {xs : List UInt8} (h : Row7 w0 w A n c xs) : xs.length = n := by have := h.own.len; simpa using this

def numOk (e s f : Int) : Bool := okN e 2 && okN s 4 && okN f 4
def refOk (e s f : Int) (l : List RcD) : Bool := numOk e s f && l.all mayB
def refR (e s f : Int) (l : List RcD) : List UInt8 := if refOk e s f l then packB e s f l else []
structure BytesAns (w : World) (b : Bool) (bs : List UInt8) (e : Ending) (w' : World) : Prop where
  ex : ∃ A m c, e = .returned (.tuple #[.slice A m c, .bool b]) ∧ Sl w' A m c bs
  old : Mod (fun _ => False) w w'
end Go.Proofs.YtnbamljaiahmdaaGreat

namespace Go.Proofs.YtnbamljaiahmdaaGreat
open Go Go.RowKit Go.Shelf

theorem putE_yes {n : Int} {k : Nat} (h : okN n k = true) : putE n k = 0 := by unfold putE; rw [if_pos h]
theorem putE_no {n : Int} {k : Nat} (h : okN n k = false) : putE n k = 1 := by unfold putE; rw [h]; rfl
theorem putB_yes {n : Int} {k : Nat} (h : okN n k = true) : putB n k = le k n.toNat := by unfold putB; rw [if_pos h]
theorem refR_no {e s f : Int} {l : List RcD} (h : refOk e s f l = false) : refR e s f l = [] := by unfold refR; rw [h]; rfl
theorem refR_yes {e s f : Int} {l : List RcD} (h : refOk e s f l = true) : refR e s f l = packB e s f l := by unfold refR; rw [if_pos h]
theorem byte1 (n : Nat) (h : n ≤ 255) : (le 1 n).map bv = [.int .u8 (n : Int)] := by
  show [bv (UInt8.ofNat n)] = _
  unfold bv
  rw [← byte_len n h]

set_option maxRecDepth 100000 in
set_option maxHeartbeats 4000000 in
theorem rbytes_ok (w : World) (x : BtD) (hx : x.At w) (hn : x.n ≤ 200) :
    Calls Tryz.prog 68 #[x.val] w (BytesAns w (refOk x.e x.s x.f x.l) (refR x.e x.s x.f x.l)) := by
  obtain ⟨w1, hw1⟩ : ∃ w1, w.alloc (.cells x.cells 68) = w1 := ⟨_, rfl⟩
  have hI : x.In w1 w.heap.size := by rw [← hw1]; exact BtD.In.new w x
  have hm1 : Mod (fun _ => False) w w1 := by rw [← hw1]; exact (Mod.refl _ w).alloc _
  have Hm1 := Lib.hid hm1
  have HI1 := Lib.hid hI
  have Hx := Lib.hid hx
  have hlen : x.l.length = x.n := Rs.len hx
  have Hlen := Lib.hid hlen
  have hnI : (x.n : Int) ≤ 200 := by omega
  have Hw1 := Lib.hid hw1
  have Hp1 : Hid (Calls Tryz.prog 83 #[.int .i64 x.e, .int .i64 2] w1 fun e w' => ∃ A m c, e = .returned (.tuple #[.slice A m c, .int .i64 (putE x.e 2)]) ∧ Sl w' A m c (putB x.e 2) ∧ Mod (fun _ => False) w1 w') := rput7 w1 x.e 2 (.inl rfl)
  have c0 := hI.c0
  clear hI hm1 hx hn hlen hw1
  go_enter Tryz.func68, Tryz.ntmps68
  go_wp2_with fail
  rw [show w.alloc (.cells x.cells 68) = w1 from Hw1.out]
  clear Hw1
  refine Hp1.out.mono ?_
  rintro e w2 ⟨Aa, ma, ca, rfl, ha, hm2⟩
  have Hm2 := Lib.hid (Hm1.out.trans hm2 (fun _ _ h => h))
  have HI2 := Lib.hid (HI1.out.keep hm2)
  have Ha := Lib.hid ha
  have c1 := HI2.out.c1
  have Hp2 : Hid (Calls Tryz.prog 83 #[.int .i64 x.s, .int .i64 4] w2 fun e w' => ∃ A m c, e = .returned (.tuple #[.slice A m c, .int .i64 (putE x.s 4)]) ∧ Sl w' A m c (putB x.s 4) ∧ Mod (fun _ => False) w2 w') := rput7 w2 x.s 4 (.inr rfl)
  clear c0 Hp1 hm2 Hm1 HI1 ha
  go_wp2_with fail
  refine Hp2.out.mono ?_
  rintro e w3 ⟨Ab, mb, cb, rfl, hb, hm3⟩
  have Hm3 := Lib.hid (Hm2.out.trans hm3 (fun _ _ h => h))
  have HI3 := Lib.hid (HI2.out.keep hm3)
  have Ha3 := Lib.hid (Ha.out.mod hm3 (fun _ _ _ => id))
  have Hb := Lib.hid hb
  have c2 := HI3.out.c2
  have Hp3 : Hid (Calls Tryz.prog 83 #[.int .i64 x.f, .int .i64 4] w3 fun e w' => ∃ A m c, e = .returned (.tuple #[.slice A m c, .int .i64 (putE x.f 4)]) ∧ Sl w' A m c (putB x.f 4) ∧ Mod (fun _ => False) w3 w') := rput7 w3 x.f 4 (.inr rfl)
  clear c1 Hp2 hm3 Hm2 HI2 hb Ha
  go_wp2_with fail
  refine Hp3.out.mono ?_
  rintro e w4 ⟨Ag, mg, cg, rfl, hg, hm4⟩
  have Hm4 := Lib.hid (Hm3.out.trans hm4 (fun _ _ h => h))
  have HI4 := Lib.hid (HI3.out.keep hm4)
  have Ha4 := Lib.hid (Ha3.out.mod hm4 (fun _ _ _ => id))
  have Hb4 := Lib.hid (Hb.out.mod hm4 (fun _ _ _ => id))
  have Hg4 := Lib.hid hg
  clear c2 Hp3 hm4 Hm3 HI3 hg Ha3 Hb
  cases h1 : okN x.e 2 with
  | false =>
    have Hr : Hid (refOk x.e x.s x.f x.l = false) := by show _ = _; unfold refOk numOk; rw [h1]; rfl
    have Hb : Hid (refR x.e x.s x.f x.l = []) := refR_no Hr.out
    rw [putE_no h1]
    clear h1
    go_wp2
    go_ret2
    exact ⟨⟨none, 0, 0, by rw [Hr.out]; rfl, by rw [Hb.out]; exact Sl.none_ _ _ _⟩, Hm4.out⟩
  | true =>
  rw [putE_yes h1]
  cases h2 : okN x.s 4 with
  | false =>
    have Hr : Hid (refOk x.e x.s x.f x.l = false) := by show _ = _; unfold refOk numOk; rw [h1, h2]; rfl
    have Hb : Hid (refR x.e x.s x.f x.l = []) := refR_no Hr.out
    rw [putE_no h2]
    clear h1 h2
    go_wp2
    go_ret2
    exact ⟨⟨none, 0, 0, by rw [Hr.out]; rfl, by rw [Hb.out]; exact Sl.none_ _ _ _⟩, Hm4.out⟩
  | true =>
  rw [putE_yes h2]
  cases h3 : okN x.f 4 with
  | false =>
    have Hr : Hid (refOk x.e x.s x.f x.l = false) := by show _ = _; unfold refOk numOk; rw [h1, h2, h3]; rfl
    have Hb : Hid (refR x.e x.s x.f x.l = []) := refR_no Hr.out
    rw [putE_no h3]
    clear h1 h2 h3
    go_wp2
    go_ret2
    exact ⟨⟨none, 0, 0, by rw [Hr.out]; rfl, by rw [Hb.out]; exact Sl.none_ _ _ _⟩, Hm4.out⟩
  | true =>
  rw [putE_yes h3]
  have Hr : Hid (refOk x.e x.s x.f x.l = x.l.all mayB) := by show _ = _; unfold refOk numOk; rw [h1, h2, h3]; rfl
  rw [putB_yes h1] at Ha4
  rw [putB_yes h2] at Hb4
  rw [putB_yes h3] at Hg4
  clear h1 h2 h3
  obtain rfl : ma = 2 := by rw [← Ha4.out.len, le_length]
  obtain rfl : mb = 4 := by rw [← Hb4.out.len, le_length]
  obtain rfl : mg = 4 := by rw [← Hg4.out.len, le_length]
  have hr0 := Row7.nil w4
  have hsrc := Ha4.out.src
  go_wp2_with (at_builtin; refine wpList_app (.const (.slice none 0 0)) (.tmp 42) byteElem rfl rfl rfl rfl hr0.own hsrc (by omega) (by unfold maxLen; omega) (Nat.le_refl _) ?_)
  intro A1 k1 w5 how hgr hat
  have hr1 : Row7 w4 w5 A1 2 k1 (le 2 x.e.toNat) := hr0.grow (ys := le 2 x.e.toNat) (by simpa using how) hgr
  have Hr1 := Lib.hid hr1
  have hown := hr1.own
  have hsrc2 := (Hb4.out.mod hr1.old (fun _ _ _ => id)).src
  have hsz : w4.heap.size ≤ w5.heap.size := hr1.old.size
  clear how hgr hat hr1 hr0 hsrc
  go_wp2_with (at_builtin; refine wpList_app (.tmp 43) (.tmp 44) byteElem rfl rfl rfl rfl hown hsrc2 (by omega) (by unfold maxLen; omega) hsz ?_)
  intro A2 k2 w6 how hgr hat
  have hr1 := Hr1.out.grow how hgr
  have Hr2 := Lib.hid hr1
  have hown2 := hr1.own
  have hsrc3 := (Hg4.out.mod hr1.old (fun _ _ _ => id)).src
  have hsz2 : w4.heap.size ≤ w6.heap.size := hr1.old.size
  clear how hgr hat hr1 Hr1 hown hsrc2 hsz
  go_wp2_with (at_builtin; refine wpList_app (.tmp 46) (.tmp 47) byteElem rfl rfl rfl rfl hown2 hsrc3 (by omega) (by unfold maxLen; omega) hsz2 ?_)
  intro A3 k3 w7 how hgr hat
  have hr1 := Hr2.out.grow how hgr
  have c3 := (HI4.out.keep hr1.old).c3
  have hr2 := hr1.keep ((Mod.refl _ w7).alloc (.cells #[.int .u8 (x.n : Int)] 5))
  have Hr3 := Lib.hid hr2
  have hown3 := hr2.own
  have hsrc4 := Src.one w7 (.int .u8 (x.n : Int)) 5 rfl
  have hsz3 : w4.heap.size ≤ (w7.alloc (.cells #[.int .u8 (x.n : Int)] 5)).heap.size := hr2.old.size
  clear how hgr hat hr1 hr2 Hr2 hown2 hsrc3 hsz2
  go_wp2_with (at_builtin; refine wpList_app (.tmp 49) (.tmp 54) byteElem rfl rfl rfl rfl hown3 hsrc4 (by omega) (by unfold maxLen; omega) hsz3 ?_)
  intro A4 k4 w8 how hgr hat
  have hr1 : Row7 w4 w8 A4 11 k4 (headB x.e x.s x.f x.n) := Hr3.out.grow (ys := le 1 x.n) (by rw [byte1 x.n (by omega)]; exact how) hgr
  have Hr8 := Lib.hid hr1
  clear how hgr hat hr1 Hr3 hown3 hsrc4 hsz3 c3 Ha4 Hb4 Hg4
  go_wp2_with fail
  go_loopw [10, 11] (fun out i wr => ∃ (j m c : Nat) (A : Option Addr), j ≤ x.n ∧ i = .int .i64 j ∧ out = .slice A m c ∧ (x.l.take j).all mayB = true ∧ Row7 w4 wr A m c (headB x.e x.s x.f x.n ++ recsB (x.l.take j))) (fun _ i _ => x.n - (intOf i).toNat)
  case atStart => exact ⟨0, 11, k4, A4, by omega, rfl, rfl, by simp, by simpa [recsB] using Hr8.out⟩
  case round =>
    obtain ⟨j, m, c, A, hj, rfl, rfl, hall, hrow⟩ := hrel
    have Hall := Lib.hid hall
    have Hrow := Lib.hid hrow
    have hm : (m : Int) ≤ 20000 := by
      have h1 := hrow.len
      have h2 := recsB_len (l := x.l.take j) (fun y hy => Hx.out.ats y (List.mem_of_mem_take hy)) hall
      have h3 : (x.l.take j).length ≤ j := by simp; omega
      have h4 : (x.l.take j).length * 76 ≤ 200 * 76 := Nat.mul_le_mul_right 76 (by omega)
      rw [List.length_append, headB_len] at h1
      omega
    have c3 := (HI4.out.keep hrow.old).c3
    clear hall hrow Hr8
    by_cases hlt : j < x.n
    · obtain ⟨b, o, hA, hc⟩ := Rs.cells Hx.out (by omega)
      rw [hA] at c3
      have hx : x.l[j]? = some (x.l[j]'(by rw [Hlen.out]; exact hlt)) := List.getElem?_eq_getElem _
      obtain ⟨y, hxe⟩ : ∃ y, y = x.l[j]'(by rw [Hlen.out]; exact hlt) := ⟨_, rfl⟩
      rw [← hxe] at hx
      clear hxe hA
      have hmr := Hm4.out.trans Hrow.out.old (fun _ _ h => h)
      have hC := (hc j y hx).keep (hmr.block b (hc j y hx).lt id)
      have HyA : Hid (y.At wr) := (Hx.out.ats y (List.mem_of_getElem? hx)).keep hmr
      have Hmr := Lib.hid hmr
      have Hy := Lib.hid hx
      have p0 := hC.k
      have p1 := hC.f1
      have p2 := hC.f2
      have p3 := hC.f3
      have p4 := hC.f4
      have p5 := hC.f5
      have p6 := hC.f6
      have p7 := hC.f7
      have p8 := hC.f8
      have p9 := hC.f9
      have p10 := hC.c10
      have p11 := hC.c11
      have p12 := hC.c12
      have p13 := hC.c13
      clear hC hc hx hmr
      cases hmay : mayB y with
      | false =>
        have Hno : Hid (x.l.all mayB = false) := all_no Hy.out hmay
        have Hb : Hid (refR x.e x.s x.f x.l = []) := refR_no (by rw [Hr.out, Hno.out])
        have He := Lib.hid (rencode_no wr y hmay)
        clear hmay
        go_wp2_with fail
        refine He.out.mono ?_
        rintro e w9 ⟨rfl, hm9⟩
        have H9 := Lib.hid (Hmr.out.trans hm9 (fun _ _ h => h))
        clear hm9 He c3 p0 p1 p2 p3 p4 p5 p6 p7 p8 p9 p10 p11 p12 p13
        go_wp2
        go_ret2
        exact ⟨⟨none, 0, 0, by rw [Hr.out, Hno.out]; rfl, by rw [Hb.out]; exact Sl.none_ _ _ _⟩, H9.out⟩
      | true =>
        have Hal : Hid ((x.l.take (j + 1)).all mayB = true) := by show _ = _; rw [all_succ Hy.out, Hall.out, hmay]; rfl
        have Hsz := Lib.hid (encB_size HyA.out hmay).2
        have He := Lib.hid (rencode_yes wr y HyA.out hmay)
        clear hmay
        go_wp2_with fail
        refine He.out.mono ?_
        rintro e w9 ⟨B, d, rfl, hB, hm9⟩
        obtain ⟨q, hq⟩ : ∃ q, (encB y).length = q := ⟨_, rfl⟩
        have Hq := Lib.hid hq
        rw [hq] at hB Hsz ⊢
        have hq75 : (q : Int) ≤ 75 := by have := Hsz.out; omega
        have hfar : ∀ k, blkOf B = some k → blkOf A ≠ some k := fun k e e' => by have := (hB.lt k e).1; have := (Hrow.out.own.lt k e').2; omega
        have hr9 := (Hrow.out.keep hm9).keep ((Mod.refl _ w9).alloc (.cells #[.int .u8 (q : Int)] 5))
        have Hr9 := Lib.hid hr9
        have hown := hr9.own
        have hsrc := Src.one w9 (.int .u8 (q : Int)) 5 rfl
        have hsz : w4.heap.size ≤ (w9.alloc (.cells #[.int .u8 (q : Int)] 5)).heap.size := hr9.old.size
        have HB := Lib.hid (hB.alloc (.cells #[.int .u8 (q : Int)] 5))
        have Hfar := Lib.hid hfar
        clear hm9 He c3 hr9 hB hfar hq Hrow p0 p1 p2 p3 p4 p5 p6 p7 p8 p9 p10 p11 p12 p13
        go_wp2_with (at_builtin; refine wpList_app (.tmp 74) (.tmp 78) byteElem rfl rfl rfl rfl hown hsrc (by omega) (by unfold maxLen; omega) hsz ?_)
        intro A5 k5 w10 how hgr hat
        have hr10 : Row7 w4 w10 A5 (m + 1) k5 ((headB x.e x.s x.f x.n ++ recsB (x.l.take j)) ++ [UInt8.ofNat q]) := Hr9.out.grow (ys := [UInt8.ofNat q]) (by rw [show [UInt8.ofNat q].map bv = [.int .u8 (q : Int)] from byte1 q (by omega)]; exact how) hgr
        have hsB : Sl w10 B q d (encB y) := by
          have hk : OwV w10 wr.heap.size 5 B q d ((encB y).map bv) := by
            refine HB.out.mod (F := fun k => blkOf A = some k) ?_ (fun k e e' => Hfar.out k e e')
            exact (Mod.refl (fun k => blkOf A = some k) _).grown hgr (fun k e _ => e)
          exact hk.sl
        have hown2 := hr10.own
        have hsrc2 := hsB.src
        have Hr10 := Lib.hid hr10
        have hsz2 : w4.heap.size ≤ w10.heap.size := hr10.old.size
        clear how hgr hat hr10 hsB hown hsrc hsz HB Hfar Hr9
        go_wp2_with (at_builtin; refine wpList_app (.tmp 80) (.tmp 81) byteElem rfl rfl rfl rfl hown2 hsrc2 (by omega) (by unfold maxLen; omega) hsz2 ?_)
        intro A6 k6 w11 how hgr hat
        have hr11 := Hr10.out.grow (ys := encB y) (by simpa using how) hgr
        have H11 : Hid (Row7 w4 w11 A6 (m + 1 + q) k6 (headB x.e x.s x.f x.n ++ recsB (x.l.take (j + 1)))) := by
          show Row7 _ _ _ _ _ _
          rw [recsB_succ Hy.out]
          unfold lenc
          rw [Hq.out]
          simpa using hr11
        clear how hgr hat hr11 hown2 hsrc2 hsz2 Hr10
        go_wp2
        go_roundw
        case rel => exact ⟨j + 1, m + 1 + q, k6, A6, by omega, by go_num, rfl, Hal.out, H11.out⟩
        case measure => simp [intOf]; omega
    · have Hj : Hid (j = x.n) := by show _ = _; omega
      have e : x.l.take j = x.l := List.take_of_length_le (by rw [Hlen.out]; omega)
      rw [e] at Hall Hrow
      clear e
      have Hb : Hid (refR x.e x.s x.f x.l = packB x.e x.s x.f x.l) := refR_yes (by rw [Hr.out, Hall.out])
      go_wp2
      go_ret2
      refine ⟨⟨A, m, c, by rw [Hr.out, Hall.out]; rfl, ?_⟩, Hm4.out.trans Hrow.out.old (fun _ _ h => h)⟩
      rw [Hb.out]
      unfold packB
      rw [Hlen.out]
      exact Hrow.out.own.sl
end Go.Proofs.YtnbamljaiahmdaaGreat

namespace Go.Proofs.YtnbamljaiahmdaaGreat
open Go Go.RowKit Go.Shelf

theorem okN_inB2 {e : Int} : okN e 2 = inB e 65535 := by
  rw [Bool.eq_iff_iff, okN_pw]
  simp [inB, pw]
  omega
theorem okN4_of {s : Int} (h : inB s 16777215 = true) : okN s 4 = true := by
  rw [okN_pw]
  simp [inB] at h
  simp [pw]
  omega
/-- The document's tests, and ours. -/
theorem head_ref (e s f : Int) : headOk e s f = (numOk e s f && decide (s ≤ 16777215) && decide (f ≤ s)) := by
  rw [Bool.eq_iff_iff]
  unfold headOk numOk
  simp only [Bool.and_eq_true, okN_pw, inB, pw, decide_eq_true_iff]
  simp
  omega

structure RPackAns (w : World) (er : Int) (bs : List UInt8) (e : Ending) (w' : World) : Prop where
  ex : ∃ A m c, e = .returned (.tuple #[.slice A m c, .int .i64 er]) ∧ Sl w' A m c bs
  old : Mod (fun _ => False) w w'

set_option maxRecDepth 100000 in
set_option maxHeartbeats 2000000 in
theorem rpack_ok (w : World) (x : BtD) (hx : x.At w) (hn : x.n ≤ 200) :
    Calls Tryz.prog 48 #[x.val] w (RPackAns w (packE x.e x.s x.f x.l) (packR x.e x.s x.f x.l)) := by
  obtain ⟨w1, hw1⟩ : ∃ w1, w.alloc (.cells x.cells 68) = w1 := ⟨_, rfl⟩
  have hI : x.In w1 w.heap.size := by rw [← hw1]; exact BtD.In.new w x
  have hm1 : Mod (fun _ => False) w w1 := by rw [← hw1]; exact (Mod.refl _ w).alloc _
  have Hm1 := Lib.hid hm1
  have HI1 := Lib.hid hI
  have Hx := Lib.hid hx
  have hlen : x.l.length = x.n := Rs.len hx
  have Hlen := Lib.hid hlen
  have Hn := Lib.hid hn
  have Hw1 := Lib.hid hw1
  have Hb := Lib.hid (rbytes_ok w1 x (hx.keep hm1) hn)
  have c0 := hI.c0
  have c1 := hI.c1
  have c2 := hI.c2
  have c3 := hI.c3
  clear hI hm1 hx hn hlen hw1
  go_enter Tryz.func48, Tryz.ntmps48
  go_wp2_with fail
  rw [show w.alloc (.cells x.cells 68) = w1 from Hw1.out]
  clear Hw1
  refine Hb.out.mono ?_
  rintro e w2 ⟨⟨A, m, c, rfl, hs⟩, hm2⟩
  have Hm2 := Lib.hid (Hm1.out.trans hm2 (fun _ _ h => h))
  have hI2 := HI1.out.keep hm2
  have c1 := hI2.c1
  have c2 := hI2.c2
  have c3 := hI2.c3
  have Hs := Lib.hid hs
  clear c0 Hb hm2 Hm1 HI1 hs hI2
  cases hok : refOk x.e x.s x.f x.l with
  | false =>
    have He : Hid (packE x.e x.s x.f x.l = 1) := by
      show _ = _
      unfold packE
      rw [head_ref]
      unfold refOk at hok
      rw [show (numOk x.e x.s x.f && decide (x.s ≤ 16777215) && decide (x.f ≤ x.s) && x.l.all mayB) = false by
        rcases Bool.and_eq_false_iff.1 hok with h | h <;> rw [h] <;> simp]
      rfl
    have Hb : Hid (packR x.e x.s x.f x.l = []) := packR_no (by rw [He.out]; decide)
    clear hok
    go_wp2
    go_ret2
    exact ⟨⟨none, 0, 0, by rw [He.out]; rfl, by rw [Hb.out]; exact Sl.none_ _ _ _⟩, Hm2.out⟩
  | true =>
  have hok2 := hok
  unfold refOk at hok
  rw [Bool.and_eq_true] at hok
  obtain ⟨hnum, hall⟩ := hok
  rw [refR_yes hok2] at Hs
  by_cases hs : 16777215 < x.s
  · have He : Hid (packE x.e x.s x.f x.l = 1) := packE_arg (by rw [head_ref, decide_eq_false (by omega : ¬ x.s ≤ 16777215)]; simp)
    have Hb : Hid (packR x.e x.s x.f x.l = []) := packR_no (by rw [He.out]; decide)
    have hd : decide ((16777215 : Int) < x.s) = true := by simpa using hs
    clear hok2 hnum hall hs
    go_wp2
    go_ret2
    exact ⟨⟨none, 0, 0, by rw [He.out]; rfl, by rw [Hb.out]; exact Sl.none_ _ _ _⟩, Hm2.out⟩
  have hd : decide ((16777215 : Int) < x.s) = false := by simpa using hs
  by_cases hf : x.s < x.f
  · have He : Hid (packE x.e x.s x.f x.l = 1) := packE_arg (by rw [head_ref, decide_eq_false (by omega : ¬ x.f ≤ x.s)]; simp)
    have Hb : Hid (packR x.e x.s x.f x.l = []) := packR_no (by rw [He.out]; decide)
    have hd2 : decide (x.s < x.f) = true := by simpa using hf
    clear hok2 hnum hall hs hf
    go_wp2
    go_ret2
    exact ⟨⟨none, 0, 0, by rw [He.out]; rfl, by rw [Hb.out]; exact Sl.none_ _ _ _⟩, Hm2.out⟩
  have hd2 : decide (x.s < x.f) = false := by simpa using hf
  have hhead : headOk x.e x.s x.f = true := by rw [head_ref, hnum, decide_eq_true (by omega : x.s ≤ 16777215), decide_eq_true (by omega : x.f ≤ x.s)]; rfl
  have Hhd := Lib.hid hhead
  have Hall := Lib.hid hall
  have Hml : Hid ((packB x.e x.s x.f x.l).length = m) := Hs.out.len
  clear hok2 hnum hall hs hf hhead
  by_cases h60 : 60 < x.n
  · have He : Hid (packE x.e x.s x.f x.l = 2) := packE_long Hhd.out Hall.out (.inl (by rw [Hlen.out]; exact h60))
    have Hb : Hid (packR x.e x.s x.f x.l = []) := packR_no (by rw [He.out]; decide)
    have hd3 : decide ((60 : Int) < x.n) = true := by simp; omega
    clear h60
    go_wp2
    go_ret2
    exact ⟨⟨none, 0, 0, by rw [He.out]; rfl, by rw [Hb.out]; exact Sl.none_ _ _ _⟩, Hm2.out⟩
  by_cases h248 : 248 < m
  · have He : Hid (packE x.e x.s x.f x.l = 2) := packE_long Hhd.out Hall.out (.inr (by rw [Hml.out]; exact h248))
    have Hb : Hid (packR x.e x.s x.f x.l = []) := packR_no (by rw [He.out]; decide)
    have hd3 : decide ((60 : Int) < x.n) = false := by simp; omega
    have hd4 : decide ((248 : Int) < m) = true := by simp; omega
    clear h60 h248
    go_wp2
    go_ret2
    exact ⟨⟨none, 0, 0, by rw [He.out]; rfl, by rw [Hb.out]; exact Sl.none_ _ _ _⟩, Hm2.out⟩
  · have He : Hid (packE x.e x.s x.f x.l = 0) := packE_ok Hhd.out Hall.out (by rw [Hml.out, Hlen.out]; omega)
    have Hb : Hid (packR x.e x.s x.f x.l = packB x.e x.s x.f x.l) := packR_ok He.out
    have hd3 : decide ((60 : Int) < x.n) = false := by simp; omega
    have hd4 : decide ((248 : Int) < m) = false := by simp; omega
    clear h60 h248
    go_wp2
    go_ret2
    exact ⟨⟨A, m, c, by rw [He.out]; rfl, by rw [Hb.out]; exact Hs.out⟩, Hm2.out⟩

end Go.Proofs.YtnbamljaiahmdaaGreat
