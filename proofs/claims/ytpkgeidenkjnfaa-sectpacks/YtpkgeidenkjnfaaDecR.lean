/-
  rec.Decode: what it reads, by values; readValue.
-/
import Derived.Test.YtpkgeidenkjnfaaRBase
namespace Go.Proofs.Ytpkgeidenkjnfaa
open Go Go.RowKit

/-- A value, and a record, by what they are. -/
structure Vl where
  is : Bool
  b : List UInt8
structure Rc where
  k : Int
  f : Nat → Int
  o : Vl
  v : Vl
def VlD.p (x : VlD) : Vl := ⟨x.is, x.vs⟩
def RcD.p (x : RcD) : Rc := ⟨x.k, x.f, x.o.p, x.v.p⟩
def Vl.none : Vl := ⟨false, []⟩
def Rc.zero : Rc := ⟨0, fun _ => 0, Vl.none, Vl.none⟩

/-- What has been read: an error, or something, with what is left. -/
inductive Rdn (α : Type) where
  | bad (e : Int)
  | got (x : α) (xs : List UInt8)
def decV : List UInt8 → Rdn Vl
  | [] => .bad 6
  | b :: ys => if b = 255 then .got Vl.none ys else if 32 < b.toNat then .bad 7 else if ys.length < b.toNat then .bad 6 else .got ⟨true, ys.take b.toNat⟩ (ys.drop b.toNat)
def decF (r : Rc) (xs : List UInt8) : Fld → Rdn Rc
  | .num i wd => if xs.length < wd then .bad 6 else .got { r with f := upd r.f i (unle (xs.take wd)) } (xs.drop wd)
  | .old => match decV xs with
    | .bad e => .bad e
    | .got v ys => .got { r with o := v } ys
  | .new => match decV xs with
    | .bad e => .bad e
    | .got v ys => .got { r with v := v } ys
def decStep : Rdn Rc → Fld → Rdn Rc
  | .bad e, _ => .bad e
  | .got r xs, f => decF r xs f

section
variable {w : World} {g : Nat} {A : Option Addr} {n c : Nat} {xs : List UInt8}
theorem get1_none (h : Rd w g A n c []) :
    Calls Try.prog 42 #[.pointer (some ⟨g, 0, none⟩), .int .i64 1] w fun e w' => e = .returned (.tuple #[.int .i64 0, .int .i64 6]) ∧ w = w' := by
  have := h.2.1.len
  simp at this
  exact get_short w g A n c [] h 1 rfl (by omega)
theorem get1_some {b : UInt8} {ys : List UInt8} (h : Rd w g A n c (b :: ys)) (hc : c ≤ maxLen) :
    Calls Try.prog 42 #[.pointer (some ⟨g, 0, none⟩), .int .i64 1] w fun e w' => e = .returned (.tuple #[.int .i64 b.toNat, .int .i64 0]) ∧
      ∃ A', Rd w' g A' (n - 1) (c - 1) ys ∧ blkOf A' = blkOf A ∧ Mod (fun i => i = g) w w' ∧ w'.heap.size = w.heap.size := by
  have := h.2.1.len
  simp at this
  refine (get_ok1 w g A n c (b :: ys) h hc (by omega)).mono ?_
  rintro e w' ⟨rfl, A', h1, h2, h3, h4⟩
  refine ⟨?_, A', h1, h2, h3, h4⟩
  simp [unle]
end

/-- A value that was read, in memory of the call's own. -/
def VlD.Own (w : World) (base : Nat) (x : VlD) : Prop := OwV w base 5 x.B x.m x.d (x.vs.map bv)
theorem VlD.Own.at_ {w : World} {base : Nat} {x : VlD} (h : x.Own w base) : x.At w := OwV.sl h
theorem VlD.none_own (w : World) (base : Nat) : VlD.none.Own w base := OwV.nil _ _ _
theorem ne_of_type {w : World} {base : Nat} {e : TypeId} {A : Option Addr} {n c : Nat} {vs : List Value} (h : OwV w base e A n c vs) {g : Nat} {cs : Array Value} {t : TypeId} {fr : Nat × Nat} (hg : w.heap[g]? = some (.cells cs t fr)) (ht : t ≠ e) : ∀ k, blkOf A = some k → k ≠ g := by
  rintro k hk rfl
  obtain ⟨_, cur, hc, _⟩ := h.block hk
  rw [hg] at hc
  injection hc with hc
  injection hc with _ hc
  exact ht hc

/-- What readValue answers. -/
def ValAns (W W' : World) (rg : Nat) (A : Option Addr) (e : Ending) : Rdn Vl → Prop
  | .bad er => e = .returned (.tuple #[.agg #[.bool false, .slice none 0 0], .int .i64 er])
  | .got v ys => ∃ y : VlD, e = .returned (.tuple #[.agg #[.bool y.is, .slice y.B y.m y.d], .int .i64 0]) ∧ y.p = v ∧ y.Own W' W.heap.size ∧ ∃ A' n' c', Rd W' rg A' n' c' ys ∧ c' ≤ maxLen ∧ blkOf A' = blkOf A

theorem two_set {w : World} {b : Nat} {a0 a1 : Value} {t : TypeId} (h : w.heap[b]? = some (.cells #[a0, a1] t (0, 0))) (x0 x1 : Value) : ((w.setCell ⟨b, 0, none⟩ x0).setCell ⟨b, 1, none⟩ x1).heap[b]? = some (.cells #[x0, x1] t (0, 0)) := by
  rw [heap_set (heap_set h 0 x0) 1 x1]
  rfl
theorem two_mod {F : Nat → Prop} {a w : World} {b : Nat} (h : Mod F a w) (hb : b < a.heap.size → F b) (x0 x1 : Value) : Mod F a ((w.setCell ⟨b, 0, none⟩ x0).setCell ⟨b, 1, none⟩ x1) := (h.setCell (p := ⟨b, 0, none⟩) hb _).setCell (p := ⟨b, 1, none⟩) hb _
theorem beq255 (b : UInt8) (h : b ≠ 255) : (((b.toNat : Int)) == 255) = false := by
  rw [beq_eq_false_iff_ne]
  intro e
  apply h
  apply UInt8.toNat_inj.1
  have : (255 : UInt8).toNat = 255 := rfl
  omega

set_option maxRecDepth 100000 in
set_option maxHeartbeats 2000000 in
theorem readValue_ok (W : World) (rg : Nat) (A : Option Addr) (n c : Nat) (xs : List UInt8) (h : Rd W rg A n c xs) (hc : c ≤ maxLen) (hr : ∀ k, blkOf A = some k → k < W.heap.size) :
    Calls Try.prog 61 #[.pointer (some ⟨rg, 0, none⟩)] W fun e W' => ValAns W W' rg A e (decV xs) ∧ Mod (fun k => k = rg) W W' := by
  obtain ⟨W0, hW0⟩ : ∃ W0, W.alloc (.cells #[.bool false, .slice none 0 0] 43) = W0 := ⟨_, rfl⟩
  have hm0 : Mod (fun _ => False) W W0 := by rw [← hW0]; exact (Mod.refl _ W).alloc _
  have hres : W0.heap[W.heap.size]? = some (.cells #[.bool false, .slice none 0 0] 43 (0, 0)) := by rw [← hW0]; exact heap_alloc_new W _
  have hs0 : W0.heap.size = W.heap.size + 1 := by rw [← hW0, World.size_alloc]
  have hrlt := h.lt
  have h0 : Rd W0 rg A n c xs := h.mod hm0 id (fun _ _ _ => id)
  have Hm0 : Hid (Mod (fun k => k = rg) W W0) := hm0.mono (fun _ _ h => h.elim)
  have p0 : W0.cell? ⟨W.heap.size, 0, none⟩ = some (.bool false) := by rw [cell_of_row _ _ _ _ _ _ hres]; rfl
  have p1 : W0.cell? ⟨W.heap.size, 1, none⟩ = some (.slice none 0 0) := by rw [cell_of_row _ _ _ _ _ _ hres]; rfl
  have f0 := frozen_of_block hres 0
  have f1 := frozen_of_block hres 1
  have Hres := Lib.hid hres
  have Hs0 := Lib.hid hs0
  clear hres h hm0 hs0
  cases xs with
  | nil =>
    have Hg := Lib.hid (get1_none h0)
    clear h0
    go_enter Try.func61, Try.ntmps61
    go_wp2_with fail
    refine Hg.out.mono ?_
    rintro e w1 ⟨rfl, rfl⟩
    clear Hg
    go_wp2
    refine bodyPost_ret (v := .tuple #[.agg #[.bool false, .slice none 0 0], .int .i64 6]) (by simp [results, Try.results61, go_sem, p0, p1]) rfl ?_
    exact ⟨rfl, two_mod Hm0.out (fun h => by omega) _ _⟩
  | cons b ys =>
    have Hg := Lib.hid (get1_some h0 hc)
    clear h0
    go_enter Try.func61, Try.ntmps61
    go_wp2_with fail
    refine Hg.out.mono ?_
    rintro e W1 ⟨rfl, A1, h1, hA1, hm1, hs1⟩
    have hres1 : W1.heap[W.heap.size]? = some (.cells #[.bool false, .slice none 0 0] 43 (0, 0)) := (hm1.block _ (by have := Hs0.out; omega) (by omega)).trans Hres.out
    have r0 : W1.cell? ⟨W.heap.size, 0, none⟩ = some (.bool false) := by rw [cell_of_row _ _ _ _ _ _ hres1]; rfl
    have r1 : W1.cell? ⟨W.heap.size, 1, none⟩ = some (.slice none 0 0) := by rw [cell_of_row _ _ _ _ _ _ hres1]; rfl
    have e0 := frozen_of_block hres1 0
    have e1 := frozen_of_block hres1 1
    have Hm1 : Hid (Mod (fun k => k = rg) W W1) := Hm0.out.trans hm1 (fun _ _ h => h)
    have HA1 : Hid (blkOf A1 = blkOf A) := hA1
    have hbl := b.toNat_lt
    have Hres1 := Lib.hid hres1
    have Hs1 : Hid (W1.heap.size = W.heap.size + 1) := hs1.trans Hs0.out
    have HR1 := Lib.hid h1
    have Hlen : Hid (ys.length = n - 1) := h1.2.1.len
    clear Hg hm1 hs1 hA1 p0 p1 f0 f1 Hres h1 Hm0 hres1 hW0
    by_cases h255 : b = 255
    · subst h255
      have Hd : Hid (decV (255 :: ys) = .got Vl.none ys) := by show _ = _; simp [decV]
      go_wp2
      refine bodyPost_ret (v := .tuple #[.agg #[.bool false, .slice none 0 0], .int .i64 0]) (by simp [results, Try.results61, go_sem, r0, r1]) rfl ?_
      rw [Hd.out]
      have hm2 : Mod (fun k => k = W.heap.size) W1 ((W1.setCell ⟨W.heap.size, 0, none⟩ (.bool false)).setCell ⟨W.heap.size, 1, none⟩ (.slice none 0 0)) := two_mod (F := fun k => k = W.heap.size) (Mod.refl _ W1) (fun _ => rfl) _ _
      refine ⟨⟨VlD.none, rfl, rfl, VlD.none_own _ _, A1, n - 1, c - 1, HR1.out.mod hm2 (by omega) (fun k hk _ => ?_), by omega, HA1.out⟩, two_mod Hm1.out (fun h => by omega) _ _⟩
      have := hr k (by rw [← HA1.out]; exact hk)
      omega
    · have hb5 := beq255 b h255
      by_cases h32 : 32 < b.toNat
      · have Hd : Hid (decV (b :: ys) = .bad 7) := by show _ = _; simp [decV, h255, h32]
        go_wp2
        refine bodyPost_ret (v := .tuple #[.agg #[.bool false, .slice none 0 0], .int .i64 7]) (by simp [results, Try.results61, go_sem, r0, r1]) rfl ?_
        rw [Hd.out]
        exact ⟨rfl, two_mod Hm1.out (fun h => by omega) _ _⟩
      · obtain ⟨z, hz⟩ : ∃ z, b.toNat = z := ⟨_, rfl⟩
        rw [hz] at h32
        have Hd : Hid (decV (b :: ys) = if ys.length < z then .bad 6 else .got ⟨true, ys.take z⟩ (ys.drop z)) := by show _ = _; simp [decV, h255, hz, h32]
        have hz32 : z ≤ 32 := by omega
        rw [hz] at hb5
        rw [hz]
        clear hbl hz h255 h32
        go_wp2
        have hA0 := Lib.hid HR1.out
        have HvB : Hid ((W1.alloc (.cells #[.bool true, .slice none 0 0] 43)).heap[W1.heap.size]? = some (.cells #[.bool true, .slice none 0 0] 43 (0, 0))) := heap_alloc_new W1 _
        have Hma : Hid (Mod (fun _ => False) W1 (W1.alloc (.cells #[.bool true, .slice none 0 0] 43))) := (Mod.refl _ W1).alloc _
        clear r0 r1 e0 e1
        go_loopw [27] (fun i wr => ∃ (j : Nat) (A' B : Option Addr) (d : Nat), j ≤ z ∧ j ≤ ys.length ∧ i = .int .i64 j ∧ Rd wr rg A' (n - 1 - j) (c - 1 - j) (ys.drop j) ∧ blkOf A' = blkOf A ∧
          wr.heap[W1.heap.size]? = some (.cells #[.bool true, .slice B j d] 43 (0, 0)) ∧ OwV wr W.heap.size 5 B j d ((ys.take j).map bv) ∧ wr.heap[W.heap.size]? = some (.cells #[.bool false, .slice none 0 0] 43 (0, 0)) ∧ Mod (fun k => k = rg) W wr) (fun i _ => z - (intOf i).toNat)
        case atStart =>
          exact ⟨0, A1, none, 0, by omega, by omega, rfl, HR1.out.mod Hma.out id (fun _ _ _ => id), HA1.out, HvB.out, OwV.nil _ _ _, (Hma.out.block _ (by have := Hs1.out; omega) id).trans Hres1.out, Hm1.out.trans Hma.out (fun _ _ h => h.elim)⟩
        case round =>
          obtain ⟨j, A', B, d, hj, hjl, rfl, hrd, hA', hvb, hown, hrs, hmod⟩ := hrel
          have Hrd := Lib.hid hrd
          have HA' := Lib.hid hA'
          have Hvb := Lib.hid hvb
          have Hown := Lib.hid hown
          have Hrs := Lib.hid hrs
          have Hmod := Lib.hid hmod
          have hvlt : W1.heap.size < wr.heap.size := (Array.getElem?_eq_some_iff.1 hvb).1
          clear hrd hA' hvb hown hrs hmod HvB Hma
          by_cases hlt : j < z
          · cases hyj : ys.drop j with
            | nil =>
              have hle : ys.length ≤ j := by simpa using hyj
              have Hd2 : Hid (decV (b :: ys) = .bad 6) := by show _ = _; rw [Hd.out, if_pos (by omega)]
              have hrd := Hrd.out
              rw [hyj] at hrd
              have Hg := Lib.hid (get1_none hrd)
              have r0 : wr.cell? ⟨W.heap.size, 0, none⟩ = some (.bool false) := by rw [cell_of_row _ _ _ _ _ _ Hrs.out]; rfl
              have r1 : wr.cell? ⟨W.heap.size, 1, none⟩ = some (.slice none 0 0) := by rw [cell_of_row _ _ _ _ _ _ Hrs.out]; rfl
              have e0 := frozen_of_block Hrs.out 0
              have e1 := frozen_of_block Hrs.out 1
              clear hrd hyj hle Hd
              go_wp2_with fail
              refine Hg.out.mono ?_
              rintro e w2 ⟨rfl, rfl⟩
              clear Hg
              go_wp2
              refine bodyPost_ret (v := .tuple #[.agg #[.bool false, .slice none 0 0], .int .i64 6]) (by simp [results, Try.results61, go_sem, r0, r1]) rfl ?_
              rw [Hd2.out]
              exact ⟨rfl, two_mod Hmod.out (fun h => by omega) _ _⟩
            | cons y zs =>
              have hrd := Hrd.out
              rw [hyj] at hrd
              have Hg := Lib.hid (get1_some hrd (by omega))
              have Hy : Hid (ys.take j ++ [y] = ys.take (j + 1) ∧ ys.drop (j + 1) = zs ∧ j + 1 ≤ ys.length) := by
                have hjl' : j < ys.length := by
                  have : (ys.drop j).length = (y :: zs).length := by rw [hyj]
                  simp at this
                  omega
                have e := List.drop_eq_getElem_cons hjl'
                rw [hyj] at e
                injection e with e1 e2
                exact ⟨by rw [List.take_succ_eq_append_getElem hjl', e1], e2.symm, hjl'⟩
              clear hrd hyj
              go_wp2_with fail
              refine Hg.out.mono ?_
              rintro e w2 ⟨rfl, A2, h2, hA2, hm2, hs2⟩
              have hneR := ne_of_type Hown.out Hrd.out.1 (by decide)
              have hneV := ne_of_type Hown.out Hvb.out (by decide)
              have hown2 : OwV w2 W.heap.size 5 B j d ((ys.take j).map bv) := Hown.out.mod hm2 hneR
              have hvb2 : w2.heap[W1.heap.size]? = some (.cells #[.bool true, .slice B j d] 43 (0, 0)) := (hm2.block _ hvlt (by have := Hs1.out; omega)).trans Hvb.out
              have hrs2 : w2.heap[W.heap.size]? = some (.cells #[.bool false, .slice none 0 0] 43 (0, 0)) := (hm2.block _ (by have := Hs1.out; omega) (by omega)).trans Hrs.out
              have hmod2 : Mod (fun k => k = rg) W w2 := Hmod.out.trans hm2 (fun _ _ h => h)
              have H2 := Lib.hid h2
              have HA2 : Hid (blkOf A2 = blkOf A) := hA2.trans HA'.out
              have Hrs2 := Lib.hid hrs2
              have Hvb2 := Lib.hid hvb2
              have Hmod2 := Lib.hid hmod2
              have hvlt2 : W1.heap.size < w2.heap.size := (Array.getElem?_eq_some_iff.1 hvb2).1
              have HneV := Lib.hid hneV
              have q1 : w2.cell? ⟨W1.heap.size, 1, none⟩ = some (.slice B j d) := by rw [cell_of_row _ _ _ _ _ _ hvb2]; rfl
              have hy8 := y.toNat_lt
              have hown3 : OwV (w2.alloc (.cells #[bv y] 5)) W.heap.size 5 B j d ((ys.take j).map bv) := hown2.alloc _
              have hsrc := Src.one w2 (bv y) 5 rfl
              have hml : j + 1 ≤ maxLen := by unfold maxLen; omega
              have hbase : W.heap.size ≤ (w2.alloc (.cells #[bv y] 5)).heap.size := by have := Hs1.out; simp; omega
              clear h2 hA2 hm2 hs2 hown2 hvb2 hrs2 hmod2 hneR hneV Hg
              go_wp2_with (at_builtin; refine wpList_app (.tmp 39) (.tmp 42) byteElem rfl rfl rfl rfl hown3 hsrc (by omega) hml hbase ?_)
              intro B' d' w3 hown' hgr hat
              have hgone : ∀ k, k < w2.heap.size → blkOf B ≠ some k → w3.heap[k]? = w2.heap[k]? := fun k hk hn => (hgr.block k (by rw [World.size_alloc]; omega) (fun e => hn e.symm)).trans (Below.heap_alloc w2 _ k hk)
              have hvb3 : w3.heap[W1.heap.size]? = some (.cells #[.bool true, .slice B j d] 43 (0, 0)) := (hgone _ hvlt2 (fun e => HneV.out _ e rfl)).trans Hvb2.out
              have hrs3 : w3.heap[W.heap.size]? = some (.cells #[.bool false, .slice none 0 0] 43 (0, 0)) := (hgone _ (by have := Hs1.out; omega) (fun e => ne_of_type Hown.out Hrs.out (by decide) _ e rfl)).trans Hrs2.out
              have hm3 : Mod (fun k => blkOf B = some k) w2 w3 := ⟨hgr.os, hgr.tape, hgr.output, Nat.le_trans (by simp) hgr.size, fun k hk hn => hgone k hk hn⟩
              have hmod3 : Mod (fun k => k = rg) W w3 := Hmod2.out.trans hm3 (fun k hk e => by have := (Hown.out.lt k e).1; omega)
              have hrd3 : Rd w3 rg A2 (n - 1 - j - 1) (c - 1 - j - 1) zs := H2.out.mod hm3 (fun e => ne_of_type Hown.out Hrd.out.1 (by decide) _ e rfl) (fun k hk _ e => by
                have h1 := (Hown.out.lt k e).1
                have h2 := hr k (by rw [← HA2.out]; exact hk)
                omega)
              have hne' := ne_of_type hown' hvb3 (by decide)
              have hf3 := frozen_of_block hvb3 1
              have q3 : w3.cell? ⟨W1.heap.size, 1, none⟩ = some (.slice B j d) := by rw [cell_of_row _ _ _ _ _ _ hvb3]; rfl
              have hms : Mod (fun k => k = W1.heap.size) w3 (w3.setCell ⟨W1.heap.size, 1, none⟩ (.slice B' (j + 1) d')) := (Mod.refl (fun k => k = W1.heap.size) w3).setCell (p := ⟨W1.heap.size, 1, none⟩) (fun _ => rfl) _
              have Hfin : Hid (Rd (w3.setCell ⟨W1.heap.size, 1, none⟩ (.slice B' (j + 1) d')) rg A2 (n - 1 - (j + 1)) (c - 1 - (j + 1)) (ys.drop (j + 1)) ∧
                  (w3.setCell ⟨W1.heap.size, 1, none⟩ (.slice B' (j + 1) d')).heap[W1.heap.size]? = some (.cells #[.bool true, .slice B' (j + 1) d'] 43 (0, 0)) ∧
                  OwV (w3.setCell ⟨W1.heap.size, 1, none⟩ (.slice B' (j + 1) d')) W.heap.size 5 B' (j + 1) d' ((ys.take (j + 1)).map bv) ∧
                  (w3.setCell ⟨W1.heap.size, 1, none⟩ (.slice B' (j + 1) d')).heap[W.heap.size]? = some (.cells #[.bool false, .slice none 0 0] 43 (0, 0)) ∧
                  Mod (fun k => k = rg) W (w3.setCell ⟨W1.heap.size, 1, none⟩ (.slice B' (j + 1) d'))) := by
                have hsz := Hs1.out
                refine ⟨?_, ?_, ?_, ?_, ?_⟩
                · have := hrd3.mod hms (by omega) (fun k hk _ e => by have h2 := hr k (by rw [← HA2.out]; exact hk); omega)
                  rw [Hy.out.2.1, ← Nat.sub_sub, ← Nat.sub_sub]
                  exact this
                · rw [heap_set hvb3]; rfl
                · rw [← Hy.out.1, List.map_append, List.map_take]
                  exact hown'.mod hms (fun k hk e => hne' k hk e)
                · exact (hms.block W.heap.size (Array.getElem?_eq_some_iff.1 hrs3).1 (by omega)).trans hrs3
                · exact hmod3.setCell (p := ⟨W1.heap.size, 1, none⟩) (fun h => absurd (show W1.heap.size < W.heap.size from h) (by omega)) _
              clear hgone hvb3 hrs3 hm3 hmod3 hrd3 hne' hms hown' hgr hat hown3 hsrc hbase q1
              go_wp2
              go_roundw
              case rel => exact ⟨j + 1, A2, B', d', by omega, Hy.out.2.2, by go_num, Hfin.out.1, HA2.out, Hfin.out.2.1, Hfin.out.2.2.1, Hfin.out.2.2.2.1, Hfin.out.2.2.2.2⟩
              case measure => simp [intOf]; omega
          · obtain rfl : j = z := by omega
            have Hd2 : Hid (decV (b :: ys) = .got ⟨true, ys.take j⟩ (ys.drop j)) := by show _ = _; rw [Hd.out, if_neg (by omega)]
            have r0 : wr.cell? ⟨W.heap.size, 0, none⟩ = some (.bool false) := by rw [cell_of_row _ _ _ _ _ _ Hrs.out]; rfl
            have r1 : wr.cell? ⟨W.heap.size, 1, none⟩ = some (.slice none 0 0) := by rw [cell_of_row _ _ _ _ _ _ Hrs.out]; rfl
            have e0 := frozen_of_block Hrs.out 0
            have e1 := frozen_of_block Hrs.out 1
            have v0 : wr.cell? ⟨W1.heap.size, 0, none⟩ = some (.bool true) := by rw [cell_of_row _ _ _ _ _ _ Hvb.out]; rfl
            have v1 : wr.cell? ⟨W1.heap.size, 1, none⟩ = some (.slice B j d) := by rw [cell_of_row _ _ _ _ _ _ Hvb.out]; rfl
            clear Hd
            go_wp2
            refine bodyPost_ret (v := .tuple #[.agg #[.bool true, .slice B j d], .int .i64 0]) (by simp [results, Try.results61, go_sem, r0, r1]) rfl ?_
            rw [Hd2.out]
            have hm2 : Mod (fun k => k = W.heap.size) wr ((wr.setCell ⟨W.heap.size, 0, none⟩ (.bool true)).setCell ⟨W.heap.size, 1, none⟩ (.slice B j d)) := two_mod (F := fun k => k = W.heap.size) (Mod.refl _ wr) (fun _ => rfl) _ _
            refine ⟨⟨⟨true, B, j, d, ys.take j⟩, rfl, rfl, Hown.out.mod hm2 (fun k hk e => ne_of_type Hown.out Hrs.out (by decide) k hk e), A', _, _, Hrd.out.mod hm2 (by omega) (fun k hk _ => ?_), by omega, HA'.out⟩, two_mod Hmod.out (fun h => by omega) _ _⟩
            have := hr k (by rw [← HA'.out]; exact hk)
            omega
end Go.Proofs.Ytpkgeidenkjnfaa
