/-
  rec.Decode: what it reads, by values; readValue.
  rec.Decode: its two functions.
  rec.Decode.
-/
import Derived.Test.YtnbamljaiahmdaaGreatQF
import Derived.Test.YtnbamljaiahmdaaGreatQMay
namespace Go.Proofs.YtnbamljaiahmdaaGreat
open Go Go.RowKit

/-- A value, and a record, by what they are. -/
structure Vl where
  is : Bool
  b : List UInt8
structure Rc where
  k : Int
  f : Nat → Int
  o : Vl
  v : Vl
def VlD.p (x : VlD) : Vl := ⟨x.is, x.vs⟩
def RcD.p (x : RcD) : Rc := ⟨x.k, x.f, x.o.p, x.v.p⟩
def Vl.none : Vl := ⟨false, []⟩
def Rc.zero : Rc := ⟨0, fun _ => 0, Vl.none, Vl.none⟩

/-- What has been read: an error, or something, with what is left. -/
inductive Rdn (α : Type) where
  | bad (e : Int)
  | got (x : α) (xs : List UInt8)
def decV : List UInt8 → Rdn Vl
  | [] => .bad 6
  | b :: ys => if b = 255 then .got Vl.none ys else if 32 < b.toNat then .bad 7 else if ys.length < b.toNat then .bad 6 else .got ⟨true, ys.take b.toNat⟩ (ys.drop b.toNat)
def decF (r : Rc) (xs : List UInt8) : Fld → Rdn Rc
  | .num i wd => if xs.length < wd then .bad 6 else .got { r with f := upd r.f i (unle (xs.take wd)) } (xs.drop wd)
  | .old => match decV xs with
    | .bad e => .bad e
    | .got v ys => .got { r with o := v } ys
  | .new => match decV xs with
    | .bad e => .bad e
    | .got v ys => .got { r with v := v } ys
def decStep : Rdn Rc → Fld → Rdn Rc
  | .bad e, _ => .bad e
  | .got r xs, f => decF r xs f

section
variable {w : World} {g : Nat} {A : Option Addr} {n c : Nat} {xs : List UInt8}
theorem get1_none (h : Rd w g A n c []) :
    Calls Tryz.prog 89 #[.pointer (some ⟨g, 0, none⟩), .int .i64 1] w fun e w' => e = .returned (.tuple #[.int .i64 0, .int .i64 6]) ∧ w = w' := by
  have := h.2.1.len
  simp at this
  exact get_short w g A n c [] h 1 rfl (by omega)
theorem get1_some {b : UInt8} {ys : List UInt8} (h : Rd w g A n c (b :: ys)) (hc : c ≤ maxLen) :
    Calls Tryz.prog 89 #[.pointer (some ⟨g, 0, none⟩), .int .i64 1] w fun e w' => e = .returned (.tuple #[.int .i64 b.toNat, .int .i64 0]) ∧
      ∃ A', Rd w' g A' (n - 1) (c - 1) ys ∧ blkOf A' = blkOf A ∧ Mod (fun i => i = g) w w' ∧ w'.heap.size = w.heap.size := by
  have := h.2.1.len
  simp at this
  refine (get_ok1 w g A n c (b :: ys) h hc (by omega)).mono ?_
  rintro e w' ⟨rfl, A', h1, h2, h3, h4⟩
  refine ⟨?_, A', h1, h2, h3, h4⟩
  simp [unle]
end

/-- A value that was read, in memory of the call's own. -/
def VlD.Own (w : World) (base : Nat) (x : VlD) : Prop := OwV w base 5 x.B x.m x.d (x.vs.map bv)
theorem VlD.Own.at_ {w : World} {base : Nat} {x : VlD} (h : x.Own w base) : x.At w := OwV.sl h
theorem VlD.none_own (w : World) (base : Nat) : VlD.none.Own w base := OwV.nil _ _ _
theorem ne_of_type {w : World} {base : Nat} {e : TypeId} {A : Option Addr} {n c : Nat} {vs : List Value} (h : OwV w base e A n c vs) {g : Nat} {cs : Array Value} {t : TypeId} {fr : Nat × Nat} (hg : w.heap[g]? = some (.cells cs t fr)) (ht : t ≠ e) : ∀ k, blkOf A = some k → k ≠ g := by
  rintro k hk rfl
  obtain ⟨_, cur, hc, _⟩ := h.block hk
  rw [hg] at hc
  injection hc with hc
  injection hc with _ hc
  exact ht hc

/-- What readValue answers. -/
def ValAns (W W' : World) (rg : Nat) (A : Option Addr) (e : Ending) : Rdn Vl → Prop
  | .bad er => e = .returned (.tuple #[.agg #[.bool false, .slice none 0 0], .int .i64 er])
  | .got v ys => ∃ y : VlD, e = .returned (.tuple #[.agg #[.bool y.is, .slice y.B y.m y.d], .int .i64 0]) ∧ y.p = v ∧ y.Own W' W.heap.size ∧ ∃ A' n' c', Rd W' rg A' n' c' ys ∧ c' ≤ maxLen ∧ blkOf A' = blkOf A

theorem two_set {w : World} {b : Nat} {a0 a1 : Value} {t : TypeId} (h : w.heap[b]? = some (.cells #[a0, a1] t (0, 0))) (x0 x1 : Value) : ((w.setCell ⟨b, 0, none⟩ x0).setCell ⟨b, 1, none⟩ x1).heap[b]? = some (.cells #[x0, x1] t (0, 0)) := by
  rw [heap_set (heap_set h 0 x0) 1 x1]
  rfl
theorem two_mod {F : Nat → Prop} {a w : World} {b : Nat} (h : Mod F a w) (hb : b < a.heap.size → F b) (x0 x1 : Value) : Mod F a ((w.setCell ⟨b, 0, none⟩ x0).setCell ⟨b, 1, none⟩ x1) := (h.setCell (p := ⟨b, 0, none⟩) hb _).setCell (p := ⟨b, 1, none⟩) hb _
theorem beq255 (b : UInt8) (h : b ≠ 255) : (((b.toNat : Int)) == 255) = false := by
  rw [beq_eq_false_iff_ne]
  intro e
  apply h
  apply UInt8.toNat_inj.1
  have : (255 : UInt8).toNat = 255 := rfl
  omega

set_option maxRecDepth 100000 in
set_option maxHeartbeats 2000000 in
theorem readValue_ok (W : World) (rg : Nat) (A : Option Addr) (n c : Nat) (xs : List UInt8) (h : Rd W rg A n c xs) (hc : c ≤ maxLen) (hr : ∀ k, blkOf A = some k → k < W.heap.size) :
    Calls Tryz.prog 102 #[.pointer (some ⟨rg, 0, none⟩)] W fun e W' => ValAns W W' rg A e (decV xs) ∧ Mod (fun k => k = rg) W W' := by
  obtain ⟨W0, hW0⟩ : ∃ W0, W.alloc (.cells #[.bool false, .slice none 0 0] 45) = W0 := ⟨_, rfl⟩
  have hm0 : Mod (fun _ => False) W W0 := by rw [← hW0]; exact (Mod.refl _ W).alloc _
  have hres : W0.heap[W.heap.size]? = some (.cells #[.bool false, .slice none 0 0] 45 (0, 0)) := by rw [← hW0]; exact heap_alloc_new W _
  have hs0 : W0.heap.size = W.heap.size + 1 := by rw [← hW0, World.size_alloc]
  have hrlt := h.lt
  have h0 : Rd W0 rg A n c xs := h.mod hm0 id (fun _ _ _ => id)
  have Hm0 : Hid (Mod (fun k => k = rg) W W0) := hm0.mono (fun _ _ h => h.elim)
  have p0 : W0.cell? ⟨W.heap.size, 0, none⟩ = some (.bool false) := by rw [cell_of_row _ _ _ _ _ _ hres]; rfl
  have p1 : W0.cell? ⟨W.heap.size, 1, none⟩ = some (.slice none 0 0) := by rw [cell_of_row _ _ _ _ _ _ hres]; rfl
  have f0 := frozen_of_block hres 0
  have f1 := frozen_of_block hres 1
  have Hres := Lib.hid hres
  have Hs0 := Lib.hid hs0
  clear hres h hm0 hs0
  cases xs with
  | nil =>
    have Hg := Lib.hid (get1_none h0)
    clear h0
    go_enter Tryz.func102, Tryz.ntmps102
    go_wp2_with fail
    refine Hg.out.mono ?_
    rintro e w1 ⟨rfl, rfl⟩
    clear Hg
    go_wp2
    refine bodyPost_ret (v := .tuple #[.agg #[.bool false, .slice none 0 0], .int .i64 6]) (by simp [results, Tryz.results102, go_sem, p0, p1]) rfl ?_
    exact ⟨rfl, two_mod Hm0.out (fun h => by omega) _ _⟩
  | cons b ys =>
    have Hg := Lib.hid (get1_some h0 hc)
    clear h0
    go_enter Tryz.func102, Tryz.ntmps102
    go_wp2_with fail
    refine Hg.out.mono ?_
    rintro e W1 ⟨rfl, A1, h1, hA1, hm1, hs1⟩
    have hres1 : W1.heap[W.heap.size]? = some (.cells #[.bool false, .slice none 0 0] 45 (0, 0)) := (hm1.block _ (by have := Hs0.out; omega) (by omega)).trans Hres.out
    have r0 : W1.cell? ⟨W.heap.size, 0, none⟩ = some (.bool false) := by rw [cell_of_row _ _ _ _ _ _ hres1]; rfl
    have r1 : W1.cell? ⟨W.heap.size, 1, none⟩ = some (.slice none 0 0) := by rw [cell_of_row _ _ _ _ _ _ hres1]; rfl
    have e0 := frozen_of_block hres1 0
    have e1 := frozen_of_block hres1 1
    have Hm1 : Hid (Mod (fun k => k = rg) W W1) := Hm0.out.trans hm1 (fun _ _ h => h)
    have HA1 : Hid (blkOf A1 = blkOf A) := hA1
    have hbl := b.toNat_lt
    have Hres1 := Lib.hid hres1
    have Hs1 : Hid (W1.heap.size = W.heap.size + 1) := hs1.trans Hs0.out
    have HR1 := Lib.hid h1
    have Hlen : Hid (ys.length = n - 1) := h1.2.1.len
    clear Hg hm1 hs1 hA1 p0 p1 f0 f1 Hres h1 Hm0 hres1 hW0
    by_cases h255 : b = 255
    · subst h255
      have Hd : Hid (decV (255 :: ys) = .got Vl.none ys) := by show _ = _; simp [decV]
      go_wp2
      refine bodyPost_ret (v := .tuple #[.agg #[.bool false, .slice none 0 0], .int .i64 0]) (by simp [results, Tryz.results102, go_sem, r0, r1]) rfl ?_
      rw [Hd.out]
      have hm2 : Mod (fun k => k = W.heap.size) W1 ((W1.setCell ⟨W.heap.size, 0, none⟩ (.bool false)).setCell ⟨W.heap.size, 1, none⟩ (.slice none 0 0)) := two_mod (F := fun k => k = W.heap.size) (Mod.refl _ W1) (fun _ => rfl) _ _
      refine ⟨⟨VlD.none, rfl, rfl, VlD.none_own _ _, A1, n - 1, c - 1, HR1.out.mod hm2 (by omega) (fun k hk _ => ?_), by omega, HA1.out⟩, two_mod Hm1.out (fun h => by omega) _ _⟩
      have := hr k (by rw [← HA1.out]; exact hk)
      omega
    · have hb5 := beq255 b h255
      by_cases h32 : 32 < b.toNat
      · have Hd : Hid (decV (b :: ys) = .bad 7) := by show _ = _; simp [decV, h255, h32]
        go_wp2
        refine bodyPost_ret (v := .tuple #[.agg #[.bool false, .slice none 0 0], .int .i64 7]) (by simp [results, Tryz.results102, go_sem, r0, r1]) rfl ?_
        rw [Hd.out]
        exact ⟨rfl, two_mod Hm1.out (fun h => by omega) _ _⟩
      · obtain ⟨z, hz⟩ : ∃ z, b.toNat = z := ⟨_, rfl⟩
        rw [hz] at h32
        have Hd : Hid (decV (b :: ys) = if ys.length < z then .bad 6 else .got ⟨true, ys.take z⟩ (ys.drop z)) := by show _ = _; simp [decV, h255, hz, h32]
        have hz32 : z ≤ 32 := by omega
        rw [hz] at hb5
        rw [hz]
        clear hbl hz h255 h32
        go_wp2
        have hA0 := Lib.hid HR1.out
        have HvB : Hid ((W1.alloc (.cells #[.bool true, .slice none 0 0] 45)).heap[W1.heap.size]? = some (.cells #[.bool true, .slice none 0 0] 45 (0, 0))) := heap_alloc_new W1 _
        have Hma : Hid (Mod (fun _ => False) W1 (W1.alloc (.cells #[.bool true, .slice none 0 0] 45))) := (Mod.refl _ W1).alloc _
        clear r0 r1 e0 e1
        go_loopw [27] (fun i wr => ∃ (j : Nat) (A' B : Option Addr) (d : Nat), j ≤ z ∧ j ≤ ys.length ∧ i = .int .i64 j ∧ Rd wr rg A' (n - 1 - j) (c - 1 - j) (ys.drop j) ∧ blkOf A' = blkOf A ∧
          wr.heap[W1.heap.size]? = some (.cells #[.bool true, .slice B j d] 45 (0, 0)) ∧ OwV wr W.heap.size 5 B j d ((ys.take j).map bv) ∧ wr.heap[W.heap.size]? = some (.cells #[.bool false, .slice none 0 0] 45 (0, 0)) ∧ Mod (fun k => k = rg) W wr) (fun i _ => z - (intOf i).toNat)
        case atStart =>
          exact ⟨0, A1, none, 0, by omega, by omega, rfl, HR1.out.mod Hma.out id (fun _ _ _ => id), HA1.out, HvB.out, OwV.nil _ _ _, (Hma.out.block _ (by have := Hs1.out; omega) id).trans Hres1.out, Hm1.out.trans Hma.out (fun _ _ h => h.elim)⟩
        case round =>
          obtain ⟨j, A', B, d, hj, hjl, rfl, hrd, hA', hvb, hown, hrs, hmod⟩ := hrel
          have Hrd := Lib.hid hrd
          have HA' := Lib.hid hA'
          have Hvb := Lib.hid hvb
          have Hown := Lib.hid hown
          have Hrs := Lib.hid hrs
          have Hmod := Lib.hid hmod
          have hvlt : W1.heap.size < wr.heap.size := (Array.getElem?_eq_some_iff.1 hvb).1
          clear hrd hA' hvb hown hrs hmod HvB Hma
          by_cases hlt : j < z
          · cases hyj : ys.drop j with
            | nil =>
              have hle : ys.length ≤ j := by simpa using hyj
              have Hd2 : Hid (decV (b :: ys) = .bad 6) := by show _ = _; rw [Hd.out, if_pos (by omega)]
              have hrd := Hrd.out
              rw [hyj] at hrd
              have Hg := Lib.hid (get1_none hrd)
              have r0 : wr.cell? ⟨W.heap.size, 0, none⟩ = some (.bool false) := by rw [cell_of_row _ _ _ _ _ _ Hrs.out]; rfl
              have r1 : wr.cell? ⟨W.heap.size, 1, none⟩ = some (.slice none 0 0) := by rw [cell_of_row _ _ _ _ _ _ Hrs.out]; rfl
              have e0 := frozen_of_block Hrs.out 0
              have e1 := frozen_of_block Hrs.out 1
              clear hrd hyj hle Hd
              go_wp2_with fail
              refine Hg.out.mono ?_
              rintro e w2 ⟨rfl, rfl⟩
              clear Hg
              go_wp2
              refine bodyPost_ret (v := .tuple #[.agg #[.bool false, .slice none 0 0], .int .i64 6]) (by simp [results, Tryz.results102, go_sem, r0, r1]) rfl ?_
              rw [Hd2.out]
              exact ⟨rfl, two_mod Hmod.out (fun h => by omega) _ _⟩
            | cons y zs =>
              have hrd := Hrd.out
              rw [hyj] at hrd
              have Hg := Lib.hid (get1_some hrd (by omega))
              have Hy : Hid (ys.take j ++ [y] = ys.take (j + 1) ∧ ys.drop (j + 1) = zs ∧ j + 1 ≤ ys.length) := by
                have hjl' : j < ys.length := by
                  have : (ys.drop j).length = (y :: zs).length := by rw [hyj]
                  simp at this
                  omega
                have e := List.drop_eq_getElem_cons hjl'
                rw [hyj] at e
                injection e with e1 e2
                exact ⟨by rw [List.take_succ_eq_append_getElem hjl', e1], e2.symm, hjl'⟩
              clear hrd hyj
              go_wp2_with fail
              refine Hg.out.mono ?_
              rintro e w2 ⟨rfl, A2, h2, hA2, hm2, hs2⟩
              have hneR := ne_of_type Hown.out Hrd.out.1 (by decide)
              have hneV := ne_of_type Hown.out Hvb.out (by decide)
              have hown2 : OwV w2 W.heap.size 5 B j d ((ys.take j).map bv) := Hown.out.mod hm2 hneR
              have hvb2 : w2.heap[W1.heap.size]? = some (.cells #[.bool true, .slice B j d] 45 (0, 0)) := (hm2.block _ hvlt (by have := Hs1.out; omega)).trans Hvb.out
              have hrs2 : w2.heap[W.heap.size]? = some (.cells #[.bool false, .slice none 0 0] 45 (0, 0)) := (hm2.block _ (by have := Hs1.out; omega) (by omega)).trans Hrs.out
              have hmod2 : Mod (fun k => k = rg) W w2 := Hmod.out.trans hm2 (fun _ _ h => h)
              have H2 := Lib.hid h2
              have HA2 : Hid (blkOf A2 = blkOf A) := hA2.trans HA'.out
              have Hrs2 := Lib.hid hrs2
              have Hvb2 := Lib.hid hvb2
              have Hmod2 := Lib.hid hmod2
              have hvlt2 : W1.heap.size < w2.heap.size := (Array.getElem?_eq_some_iff.1 hvb2).1
              have HneV := Lib.hid hneV
              have q1 : w2.cell? ⟨W1.heap.size, 1, none⟩ = some (.slice B j d) := by rw [cell_of_row _ _ _ _ _ _ hvb2]; rfl
              have hy8 := y.toNat_lt
              have hown3 : OwV (w2.alloc (.cells #[bv y] 5)) W.heap.size 5 B j d ((ys.take j).map bv) := hown2.alloc _
              have hsrc := Src.one w2 (bv y) 5 rfl
              have hml : j + 1 ≤ maxLen := by unfold maxLen; omega
              have hbase : W.heap.size ≤ (w2.alloc (.cells #[bv y] 5)).heap.size := by have := Hs1.out; simp; omega
              clear h2 hA2 hm2 hs2 hown2 hvb2 hrs2 hmod2 hneR hneV Hg
              go_wp2_with (at_builtin; refine wpList_app (.tmp 39) (.tmp 42) byteElem rfl rfl rfl rfl hown3 hsrc (by omega) hml hbase ?_)
              intro B' d' w3 hown' hgr hat
              have hgone : ∀ k, k < w2.heap.size → blkOf B ≠ some k → w3.heap[k]? = w2.heap[k]? := fun k hk hn => (hgr.block k (by rw [World.size_alloc]; omega) (fun e => hn e.symm)).trans (Below.heap_alloc w2 _ k hk)
              have hvb3 : w3.heap[W1.heap.size]? = some (.cells #[.bool true, .slice B j d] 45 (0, 0)) := (hgone _ hvlt2 (fun e => HneV.out _ e rfl)).trans Hvb2.out
              have hrs3 : w3.heap[W.heap.size]? = some (.cells #[.bool false, .slice none 0 0] 45 (0, 0)) := (hgone _ (by have := Hs1.out; omega) (fun e => ne_of_type Hown.out Hrs.out (by decide) _ e rfl)).trans Hrs2.out
              have hm3 : Mod (fun k => blkOf B = some k) w2 w3 := ⟨hgr.os, hgr.tape, hgr.output, Nat.le_trans (by simp) hgr.size, fun k hk hn => hgone k hk hn⟩
              have hmod3 : Mod (fun k => k = rg) W w3 := Hmod2.out.trans hm3 (fun k hk e => by have := (Hown.out.lt k e).1; omega)
              have hrd3 : Rd w3 rg A2 (n - 1 - j - 1) (c - 1 - j - 1) zs := H2.out.mod hm3 (fun e => ne_of_type Hown.out Hrd.out.1 (by decide) _ e rfl) (fun k hk _ e => by
                have h1 := (Hown.out.lt k e).1
                have h2 := hr k (by rw [← HA2.out]; exact hk)
                omega)
              have hne' := ne_of_type hown' hvb3 (by decide)
              have hf3 := frozen_of_block hvb3 1
              have q3 : w3.cell? ⟨W1.heap.size, 1, none⟩ = some (.slice B j d) := by rw [cell_of_row _ _ _ _ _ _ hvb3]; rfl
              have hms : Mod (fun k => k = W1.heap.size) w3 (w3.setCell ⟨W1.heap.size, 1, none⟩ (.slice B' (j + 1) d')) := (Mod.refl (fun k => k = W1.heap.size) w3).setCell (p := ⟨W1.heap.size, 1, none⟩) (fun _ => rfl) _
              have Hfin : Hid (Rd (w3.setCell ⟨W1.heap.size, 1, none⟩ (.slice B' (j + 1) d')) rg A2 (n - 1 - (j + 1)) (c - 1 - (j + 1)) (ys.drop (j + 1)) ∧
                  (w3.setCell ⟨W1.heap.size, 1, none⟩ (.slice B' (j + 1) d')).heap[W1.heap.size]? = some (.cells #[.bool true, .slice B' (j + 1) d'] 45 (0, 0)) ∧
                  OwV (w3.setCell ⟨W1.heap.size, 1, none⟩ (.slice B' (j + 1) d')) W.heap.size 5 B' (j + 1) d' ((ys.take (j + 1)).map bv) ∧
                  (w3.setCell ⟨W1.heap.size, 1, none⟩ (.slice B' (j + 1) d')).heap[W.heap.size]? = some (.cells #[.bool false, .slice none 0 0] 45 (0, 0)) ∧
                  Mod (fun k => k = rg) W (w3.setCell ⟨W1.heap.size, 1, none⟩ (.slice B' (j + 1) d'))) := by
                have hsz := Hs1.out
                refine ⟨?_, ?_, ?_, ?_, ?_⟩
                · have := hrd3.mod hms (by omega) (fun k hk _ e => by have h2 := hr k (by rw [← HA2.out]; exact hk); omega)
                  rw [Hy.out.2.1, ← Nat.sub_sub, ← Nat.sub_sub]
                  exact this
                · rw [heap_set hvb3]; rfl
                · rw [← Hy.out.1, List.map_append, List.map_take]
                  exact hown'.mod hms (fun k hk e => hne' k hk e)
                · exact (hms.block W.heap.size (Array.getElem?_eq_some_iff.1 hrs3).1 (by omega)).trans hrs3
                · exact hmod3.setCell (p := ⟨W1.heap.size, 1, none⟩) (fun h => absurd (show W1.heap.size < W.heap.size from h) (by omega)) _
              clear hgone hvb3 hrs3 hm3 hmod3 hrd3 hne' hms hown' hgr hat hown3 hsrc hbase q1
              go_wp2
              go_roundw
              case rel => exact ⟨j + 1, A2, B', d', by omega, Hy.out.2.2, by go_num, Hfin.out.1, HA2.out, Hfin.out.2.1, Hfin.out.2.2.1, Hfin.out.2.2.2.1, Hfin.out.2.2.2.2⟩
              case measure => simp [intOf]; omega
          · obtain rfl : j = z := by omega
            have Hd2 : Hid (decV (b :: ys) = .got ⟨true, ys.take j⟩ (ys.drop j)) := by show _ = _; rw [Hd.out, if_neg (by omega)]
            have r0 : wr.cell? ⟨W.heap.size, 0, none⟩ = some (.bool false) := by rw [cell_of_row _ _ _ _ _ _ Hrs.out]; rfl
            have r1 : wr.cell? ⟨W.heap.size, 1, none⟩ = some (.slice none 0 0) := by rw [cell_of_row _ _ _ _ _ _ Hrs.out]; rfl
            have e0 := frozen_of_block Hrs.out 0
            have e1 := frozen_of_block Hrs.out 1
            have v0 : wr.cell? ⟨W1.heap.size, 0, none⟩ = some (.bool true) := by rw [cell_of_row _ _ _ _ _ _ Hvb.out]; rfl
            have v1 : wr.cell? ⟨W1.heap.size, 1, none⟩ = some (.slice B j d) := by rw [cell_of_row _ _ _ _ _ _ Hvb.out]; rfl
            clear Hd
            go_wp2
            refine bodyPost_ret (v := .tuple #[.agg #[.bool true, .slice B j d], .int .i64 0]) (by simp [results, Tryz.results102, go_sem, r0, r1]) rfl ?_
            rw [Hd2.out]
            have hm2 : Mod (fun k => k = W.heap.size) wr ((wr.setCell ⟨W.heap.size, 0, none⟩ (.bool true)).setCell ⟨W.heap.size, 1, none⟩ (.slice B j d)) := two_mod (F := fun k => k = W.heap.size) (Mod.refl _ wr) (fun _ => rfl) _ _
            refine ⟨⟨⟨true, B, j, d, ys.take j⟩, rfl, rfl, Hown.out.mod hm2 (fun k hk e => ne_of_type Hown.out Hrs.out (by decide) k hk e), A', _, _, Hrd.out.mod hm2 (by omega) (fun k hk _ => ?_), by omega, HA'.out⟩, two_mod Hmod.out (fun h => by omega) _ _⟩
            have := hr k (by rw [← HA'.out]; exact hk)
            omega
end Go.Proofs.YtnbamljaiahmdaaGreat

namespace Go.Proofs.YtnbamljaiahmdaaGreat
open Go Go.RowKit Go.Shelf

def Rdn.err : Rdn Rc → Int
  | .bad e => e
  | .got _ _ => 0
/-- Where Decode's things lie: the bytes' row, the Reader, the boxes of 'in' and 'e', the record. -/
structure DL where
  rb : Nat
  rg : Nat
  ib : Nat
  eb : Nat
  g : Nat
  base : Nat
  o1 : base ≤ rb
  o2 : rb < rg
  o3 : rg < ib
  o4 : ib < eb
  o5 : eb < g
/-- Decode's memory when s has been read. -/
structure DS (L : DL) (w0 : World) (s : Rdn Rc) (W : World) : Prop where
  ibox : Bx W L.ib 140 (.pointer (some ⟨L.rg, 0, none⟩))
  ebox : Bx W L.eb 25 (.int .i64 s.err)
  rcd : ∃ y : RcD, y.In W L.g ∧ y.o.Own W w0.heap.size ∧ y.v.Own W w0.heap.size ∧ ∀ r xs, s = .got r xs → y.p = r
  rd : ∀ r xs, s = .got r xs → ∃ A n c, Rd W L.rg A n c xs ∧ c ≤ maxLen ∧ blkOf A = some L.rb
  ne : ∀ e, s = .bad e → e ≠ 0
  old : Mod (fun _ => False) w0 W
  base : L.base = w0.heap.size
  rlt : L.rb < W.heap.size

/-- The Reader has turned, and new memory has come. -/
theorem Own.far {w W W' : World} {x : VlD} {F : Nat → Prop} (h : x.Own W w.heap.size) (hm : Mod F W W') (hF : ∀ k, F k → ∃ cs t fr, W.heap[k]? = some (.cells cs t fr) ∧ t ≠ 5) : x.Own W' w.heap.size :=
  OwV.mod h hm (fun k hk e => by
    obtain ⟨cs, t, fr, h1, h2⟩ := hF k e
    exact ne_of_type h h1 h2 k hk rfl)

/-- A number is stored, and an error. -/
theorem DS.num {L : DL} {w0 W W1 : World} {r : Rc} {xs : List UInt8} (h : DS L w0 (.got r xs) W) (hm : Mod (fun k => k = L.rg) W W1) {i : Nat} (h1 : 1 ≤ i) (h9 : i ≤ 9) (z : Int) (s : Rdn Rc)
    (hs : (s = .bad 6) ∨ ∃ ys, s = .got { r with f := upd r.f i z } ys ∧ ∃ A n c, Rd W1 L.rg A n c ys ∧ c ≤ maxLen ∧ blkOf A = some L.rb) :
    DS L w0 s ((W1.setCell ⟨L.g, i, none⟩ (.int .i64 z)).setCell ⟨L.eb, 0, none⟩ (.int .i64 s.err)) := by
  obtain ⟨y, hy, hyo, hyv, hyp⟩ := h.rcd
  have o2 := L.o2; have o3 := L.o3; have o4 := L.o4; have o5 := L.o5; have o1 := L.o1
  obtain ⟨A0, n0, c0, hrd0, _, _⟩ := h.rd r xs rfl
  have hyp := hyp r xs rfl
  have b1 := h.ibox.mod hm (by omega)
  have b2 := h.ebox.mod hm (by omega)
  have b3 := hy.mod hm (by omega)
  have hm2 : Mod (fun k => k = L.g ∨ k = L.eb) W1 ((W1.setCell ⟨L.g, i, none⟩ (.int .i64 z)).setCell ⟨L.eb, 0, none⟩ (.int .i64 s.err)) := ((Mod.refl _ W1).setCell (p := ⟨L.g, i, none⟩) (fun _ => .inl rfl) _).setCell (p := ⟨L.eb, 0, none⟩) (fun _ => .inr rfl) _
  have far : ∀ k, (k = L.g ∨ k = L.eb) → ∃ cs t fr, W1.heap[k]? = some (.cells cs t fr) ∧ t ≠ 5 := by
    rintro k (rfl | rfl)
    · exact ⟨_, _, _, b3, by decide⟩
    · exact ⟨_, _, _, b2, by decide⟩
  have far0 : ∀ k, k = L.rg → ∃ cs t fr, W.heap[k]? = some (.cells cs t fr) ∧ t ≠ 5 := by
    rintro k rfl
    exact ⟨_, _, _, hrd0.1, by decide⟩
  have hbase := h.base
  refine ⟨b1.mod hm2 (by omega), ?_, ?_, ?_, ?_, ?_, h.base, ?_⟩
  · exact (b2.mod ((Mod.refl (fun k => k = L.g) W1).setCell (p := ⟨L.g, i, none⟩) (fun _ => rfl) (.int .i64 z)) (by omega)).set _
  · refine ⟨{ y with f := upd y.f i z }, ?_, ?_, ?_, ?_⟩
    · exact (b3.setN h1 h9 z).mod ((Mod.refl (fun k => k = L.eb) _).setCell (p := ⟨L.eb, 0, none⟩) (fun _ => rfl) _) (by omega)
    · exact Own.far (Own.far hyo hm far0) hm2 far
    · exact Own.far (Own.far hyv hm far0) hm2 far
    · rintro r' xs' rfl
      rcases hs with e | ⟨ys, e, _⟩
      · cases e
      · injection e with e1 e2
        subst e1
        rw [← hyp]
        rfl
  · rintro r' xs' rfl
    rcases hs with e | ⟨ys, e, A, n, c, k1, k2, k3⟩
    · cases e
    · injection e with e1 e2
      subst e2
      exact ⟨A, n, c, k1.mod hm2 (by omega) (fun k hk _ => by rw [k3] at hk; injection hk with hk; omega), k2, k3⟩
  · rintro e rfl
    rcases hs with e' | ⟨ys, e', _⟩
    · injection e' with e'; omega
    · cases e'
  · exact (h.old.trans hm (fun k hk e => by omega)).trans hm2 (fun k hk e => by omega)
  · have := h.rlt; have := hm.size; have := hm2.size; omega

set_option maxRecDepth 100000 in
set_option maxHeartbeats 1000000 in
theorem dec1_ok (L : DL) (w0 W : World) (s : Rdn Rc) (h : DS L w0 s W) (i wd : Nat) (h1 : 1 ≤ i) (h9 : i ≤ 9) (hw : wd = 1 ∨ wd = 2 ∨ wd = 4) :
    Calls Tryz.prog 100 #[.pointer (some ⟨L.g, i, none⟩), .int .i64 wd, .pointer (some ⟨L.eb, 0, none⟩), .pointer (some ⟨L.ib, 0, none⟩)] W fun e W' => e = .returned (.tuple #[]) ∧ DS L w0 (decStep s (.num i wd)) W' := by
  have he := h.ebox.cell
  have o5 := L.o5
  have o4 := L.o4
  have o3 := L.o3
  cases s with
  | bad e =>
    have hne : (e == 0) = false := by rw [beq_eq_false_iff_ne]; exact h.ne e rfl
    have H := Lib.hid h
    dsimp only [Rdn.err] at he
    clear h
    go_enter Tryz.func100, Tryz.ntmps100
    go_wp2
    go_end0
    exact ⟨rfl, H.out⟩
  | got r xs =>
    obtain ⟨A, n, c, hrd, hc, hA⟩ := h.rd r xs rfl
    obtain ⟨y, hy, _⟩ := h.rcd
    have hi := h.ibox.cell
    have hcg := hy.num h1 h9
    have hfg := hy.fz i
    have hef := h.ebox.fz
    have hlen := hrd.2.1.len
    dsimp only [Rdn.err] at he
    have H := Lib.hid h
    have HY := Lib.hid hy
    by_cases hs : xs.length < wd
    · have Hg := Lib.hid (get_short W L.rg A n c xs hrd (wd : Int) (by rcases hw with rfl | rfl | rfl <;> rfl) (by omega))
      have Hd : Hid (decStep (.got r xs) (.num i wd) = .bad 6) := by show _ = _; simp [decStep, decF, hs]
      have Hf := Lib.hid (H.out.num (Mod.refl _ W) h1 h9 0 (.bad 6) (.inl rfl))
      clear h hy hrd hs hlen
      go_enter Tryz.func100, Tryz.ntmps100
      go_wp2_with fail
      refine Hg.out.mono ?_
      rintro e W1 ⟨rfl, rfl⟩
      clear Hg
      go_wp2
      go_end0
      exact ⟨rfl, by rw [Hd.out]; exact Hf.out⟩
    · have hg := get_ok W L.rg A n c xs hrd hc (wd : Int) (by rcases hw with rfl | rfl | rfl <;> rfl) (by omega)
      rw [Int.toNat_natCast] at hg
      have Hg := Lib.hid hg
      have Hd : Hid (decStep (.got r xs) (.num i wd) = .got { r with f := upd r.f i (unle (xs.take wd)) } (xs.drop wd)) := by show _ = _; simp [decStep, decF, hs]
      have HA := Lib.hid hA
      clear h hy hrd hs hlen hg hA
      go_enter Tryz.func100, Tryz.ntmps100
      go_wp2_with fail
      refine Hg.out.mono ?_
      rintro e W1 ⟨rfl, A', k1, k2, k3, k4⟩
      have Hf := Lib.hid (H.out.num k3 h1 h9 (unle (xs.take wd)) (.got { r with f := upd r.f i (unle (xs.take wd)) } (xs.drop wd)) (.inr ⟨_, rfl, A', _, _, k1, by omega, k2.trans HA.out⟩))
      have hy1 := HY.out.mod k3 (by omega)
      have hcg1 := hy1.num h1 h9
      have hfg1 := hy1.fz i
      have hb1 := H.out.ebox.mod k3 (by omega)
      have he1 := hb1.cell
      have hef1 := hb1.fz
      dsimp only [Rdn.err] at he1
      clear Hg k1 k2 k3 k4 hy1 hb1 hcg hfg hef he hi
      go_wp2
      go_end0
      exact ⟨rfl, by rw [Hd.out]; exact Hf.out⟩

/-- A value is stored, and an error. -/
theorem DS.val_o {L : DL} {w0 W W1 : World} {r : Rc} {xs : List UInt8} (h : DS L w0 (.got r xs) W) (hm : Mod (fun k => k = L.rg) W W1) (z : VlD) (hz : z.Own W1 w0.heap.size) (s : Rdn Rc)
    (hs : (∃ e, e ≠ 0 ∧ s = .bad e) ∨ ∃ ys, s = .got { r with o := z.p } ys ∧ ∃ A n c, Rd W1 L.rg A n c ys ∧ c ≤ maxLen ∧ blkOf A = some L.rb) :
    DS L w0 s (((W1.setCell ⟨L.g, 10, none⟩ (.bool z.is)).setCell ⟨L.g, 11, none⟩ (.slice z.B z.m z.d)).setCell ⟨L.eb, 0, none⟩ (.int .i64 s.err)) := by
  obtain ⟨y, hy, hyo, hyv, hyp⟩ := h.rcd
  have o2 := L.o2; have o3 := L.o3; have o4 := L.o4; have o5 := L.o5; have o1 := L.o1
  obtain ⟨A0, n0, c0, hrd0, _, _⟩ := h.rd r xs rfl
  have hyp := hyp r xs rfl
  have b1 := h.ibox.mod hm (by omega)
  have b2 := h.ebox.mod hm (by omega)
  have b3 := hy.mod hm (by omega)
  have hmg : Mod (fun k => k = L.g) W1 ((W1.setCell ⟨L.g, 10, none⟩ (.bool z.is)).setCell ⟨L.g, 11, none⟩ (.slice z.B z.m z.d)) := ((Mod.refl (fun k => k = L.g) W1).setCell (p := ⟨L.g, 10, none⟩) (fun _ => rfl) _).setCell (p := ⟨L.g, 11, none⟩) (fun _ => rfl) _
  have hm2 : Mod (fun k => k = L.g ∨ k = L.eb) W1 (((W1.setCell ⟨L.g, 10, none⟩ (.bool z.is)).setCell ⟨L.g, 11, none⟩ (.slice z.B z.m z.d)).setCell ⟨L.eb, 0, none⟩ (.int .i64 s.err)) := (hmg.mono (fun _ _ h => .inl h)).setCell (p := ⟨L.eb, 0, none⟩) (fun _ => .inr rfl) _
  have far : ∀ k, (k = L.g ∨ k = L.eb) → ∃ cs t fr, W1.heap[k]? = some (.cells cs t fr) ∧ t ≠ 5 := by
    rintro k (rfl | rfl)
    · exact ⟨_, _, _, b3, by decide⟩
    · exact ⟨_, _, _, b2, by decide⟩
  have far0 : ∀ k, k = L.rg → ∃ cs t fr, W.heap[k]? = some (.cells cs t fr) ∧ t ≠ 5 := by
    rintro k rfl
    exact ⟨_, _, _, hrd0.1, by decide⟩
  have hbase := h.base
  refine ⟨b1.mod hm2 (by omega), (b2.mod hmg (by omega)).set _, ?_, ?_, ?_, ?_, h.base, ?_⟩
  · refine ⟨{ y with o := z }, (b3.setO z).mod ((Mod.refl (fun k => k = L.eb) _).setCell (p := ⟨L.eb, 0, none⟩) (fun _ => rfl) _) (by omega), Own.far hz hm2 far, Own.far (Own.far hyv hm far0) hm2 far, ?_⟩
    rintro r' xs' rfl
    rcases hs with ⟨e, _, e'⟩ | ⟨ys, e, _⟩
    · cases e'
    · injection e with e1 e2
      subst e1
      rw [← hyp]
      rfl
  · rintro r' xs' rfl
    rcases hs with ⟨e, _, e'⟩ | ⟨ys, e, A, n, c, k1, k2, k3⟩
    · cases e'
    · injection e with e1 e2
      subst e2
      exact ⟨A, n, c, k1.mod hm2 (by omega) (fun k hk _ => by rw [k3] at hk; injection hk with hk; omega), k2, k3⟩
  · rintro e rfl
    rcases hs with ⟨e0, h0, e'⟩ | ⟨ys, e', _⟩
    · injection e' with e'; omega
    · cases e'
  · exact (h.old.trans hm (fun k hk e => by omega)).trans hm2 (fun k hk e => by omega)
  · have := h.rlt; have := hm.size; have := hm2.size; omega

set_option maxRecDepth 100000 in
set_option maxHeartbeats 1000000 in
theorem dec2_o (L : DL) (w0 W : World) (s : Rdn Rc) (h : DS L w0 s W) :
    Calls Tryz.prog 101 #[.pointer (some ⟨L.g, 10, none⟩), .pointer (some ⟨L.eb, 0, none⟩), .pointer (some ⟨L.ib, 0, none⟩)] W fun e W' => e = .returned (.tuple #[]) ∧ DS L w0 (decStep s .old) W' := by
  have he := h.ebox.cell
  have o5 := L.o5
  have o4 := L.o4
  have o3 := L.o3
  cases s with
  | bad e =>
    have hne : (e == 0) = false := by rw [beq_eq_false_iff_ne]; exact h.ne e rfl
    have H := Lib.hid h
    dsimp only [Rdn.err] at he
    clear h
    go_enter Tryz.func101, Tryz.ntmps101
    go_wp2
    go_end0
    exact ⟨rfl, H.out⟩
  | got r xs =>
    obtain ⟨A, n, c, hrd, hc, hA⟩ := h.rd r xs rfl
    obtain ⟨y, hy, _⟩ := h.rcd
    have hi := h.ibox.cell
    dsimp only [Rdn.err] at he
    have H := Lib.hid h
    have HY := Lib.hid hy
    have Hg := Lib.hid (readValue_ok W L.rg A n c xs hrd hc (fun k hk => by rw [hA] at hk; injection hk with hk; have := h.rlt; omega))
    have HA := Lib.hid hA
    have hw0 := h.old.size
    clear h hy hrd hA hc
    go_enter Tryz.func101, Tryz.ntmps101
    go_wp2_with fail
    refine Hg.out.mono ?_
    rintro e W1 ⟨ha, k3⟩
    have hy1 := HY.out.mod k3 (by omega)
    have c0 := hy1.c10
    have c1 := hy1.c11
    have f0 := hy1.fz 10
    have f1 := hy1.fz 11
    have hb1 := H.out.ebox.mod k3 (by omega)
    have he1 := hb1.cell
    have hef1 := hb1.fz
    dsimp only [Rdn.err] at he1
    have K3 := Lib.hid k3
    clear Hg hy1 hb1 he hi k3
    cases hd : decV xs with
    | bad er =>
      rw [hd] at ha
      obtain rfl := ha
      have Hd : Hid (decStep (.got r xs) .old = .bad er) := by show _ = _; simp only [decStep, decF, hd]
      have hne : er ≠ 0 := by
        unfold decV at hd
        split at hd
        · injection hd with hd; omega
        · split at hd
          · cases hd
          · split at hd
            · injection hd with hd; omega
            · split at hd
              · injection hd with hd; omega
              · cases hd
      have Hf := Lib.hid (H.out.val_o K3.out VlD.none (VlD.none_own _ _) (.bad er) (.inl ⟨er, hne, rfl⟩))
      clear hd hne
      go_wp2
      go_end0
      exact ⟨rfl, by rw [Hd.out]; exact Hf.out⟩
    | got v ys =>
      rw [hd] at ha
      obtain ⟨z, rfl, hzp, hzo, A', n', c', k1, k2, k4⟩ := ha
      have Hd : Hid (decStep (.got r xs) .old = .got { r with o := v } ys) := by show _ = _; simp only [decStep, decF, hd]
      have Hf := Lib.hid (H.out.val_o K3.out z (OwV.rebase hzo (fun k hk => by have := (OwV.lt hzo k hk).1; omega)) (.got { r with o := v } ys) (.inr ⟨ys, by rw [hzp], A', n', c', k1, k2, k4.trans HA.out⟩))
      clear hd hzp hzo k1 k2 k4
      go_wp2
      go_end0
      exact ⟨rfl, by rw [Hd.out]; exact Hf.out⟩

/-- A value is stored, and an error. -/
theorem DS.val_v {L : DL} {w0 W W1 : World} {r : Rc} {xs : List UInt8} (h : DS L w0 (.got r xs) W) (hm : Mod (fun k => k = L.rg) W W1) (z : VlD) (hz : z.Own W1 w0.heap.size) (s : Rdn Rc)
    (hs : (∃ e, e ≠ 0 ∧ s = .bad e) ∨ ∃ ys, s = .got { r with v := z.p } ys ∧ ∃ A n c, Rd W1 L.rg A n c ys ∧ c ≤ maxLen ∧ blkOf A = some L.rb) :
    DS L w0 s (((W1.setCell ⟨L.g, 12, none⟩ (.bool z.is)).setCell ⟨L.g, 13, none⟩ (.slice z.B z.m z.d)).setCell ⟨L.eb, 0, none⟩ (.int .i64 s.err)) := by
  obtain ⟨y, hy, hyo, hyv, hyp⟩ := h.rcd
  have o2 := L.o2; have o3 := L.o3; have o4 := L.o4; have o5 := L.o5; have o1 := L.o1
  obtain ⟨A0, n0, c0, hrd0, _, _⟩ := h.rd r xs rfl
  have hyp := hyp r xs rfl
  have b1 := h.ibox.mod hm (by omega)
  have b2 := h.ebox.mod hm (by omega)
  have b3 := hy.mod hm (by omega)
  have hmg : Mod (fun k => k = L.g) W1 ((W1.setCell ⟨L.g, 12, none⟩ (.bool z.is)).setCell ⟨L.g, 13, none⟩ (.slice z.B z.m z.d)) := ((Mod.refl (fun k => k = L.g) W1).setCell (p := ⟨L.g, 12, none⟩) (fun _ => rfl) _).setCell (p := ⟨L.g, 13, none⟩) (fun _ => rfl) _
  have hm2 : Mod (fun k => k = L.g ∨ k = L.eb) W1 (((W1.setCell ⟨L.g, 12, none⟩ (.bool z.is)).setCell ⟨L.g, 13, none⟩ (.slice z.B z.m z.d)).setCell ⟨L.eb, 0, none⟩ (.int .i64 s.err)) := (hmg.mono (fun _ _ h => .inl h)).setCell (p := ⟨L.eb, 0, none⟩) (fun _ => .inr rfl) _
  have far : ∀ k, (k = L.g ∨ k = L.eb) → ∃ cs t fr, W1.heap[k]? = some (.cells cs t fr) ∧ t ≠ 5 := by
    rintro k (rfl | rfl)
    · exact ⟨_, _, _, b3, by decide⟩
    · exact ⟨_, _, _, b2, by decide⟩
  have far0 : ∀ k, k = L.rg → ∃ cs t fr, W.heap[k]? = some (.cells cs t fr) ∧ t ≠ 5 := by
    rintro k rfl
    exact ⟨_, _, _, hrd0.1, by decide⟩
  have hbase := h.base
  refine ⟨b1.mod hm2 (by omega), (b2.mod hmg (by omega)).set _, ?_, ?_, ?_, ?_, h.base, ?_⟩
  · refine ⟨{ y with v := z }, (b3.setV z).mod ((Mod.refl (fun k => k = L.eb) _).setCell (p := ⟨L.eb, 0, none⟩) (fun _ => rfl) _) (by omega), Own.far (Own.far hyo hm far0) hm2 far, Own.far hz hm2 far, ?_⟩
    rintro r' xs' rfl
    rcases hs with ⟨e, _, e'⟩ | ⟨ys, e, _⟩
    · cases e'
    · injection e with e1 e2
      subst e1
      rw [← hyp]
      rfl
  · rintro r' xs' rfl
    rcases hs with ⟨e, _, e'⟩ | ⟨ys, e, A, n, c, k1, k2, k3⟩
    · cases e'
    · injection e with e1 e2
      subst e2
      exact ⟨A, n, c, k1.mod hm2 (by omega) (fun k hk _ => by rw [k3] at hk; injection hk with hk; omega), k2, k3⟩
  · rintro e rfl
    rcases hs with ⟨e0, h0, e'⟩ | ⟨ys, e', _⟩
    · injection e' with e'; omega
    · cases e'
  · exact (h.old.trans hm (fun k hk e => by omega)).trans hm2 (fun k hk e => by omega)
  · have := h.rlt; have := hm.size; have := hm2.size; omega

set_option maxRecDepth 100000 in
set_option maxHeartbeats 1000000 in
theorem dec2_v (L : DL) (w0 W : World) (s : Rdn Rc) (h : DS L w0 s W) :
    Calls Tryz.prog 101 #[.pointer (some ⟨L.g, 12, none⟩), .pointer (some ⟨L.eb, 0, none⟩), .pointer (some ⟨L.ib, 0, none⟩)] W fun e W' => e = .returned (.tuple #[]) ∧ DS L w0 (decStep s .new) W' := by
  have he := h.ebox.cell
  have o5 := L.o5
  have o4 := L.o4
  have o3 := L.o3
  cases s with
  | bad e =>
    have hne : (e == 0) = false := by rw [beq_eq_false_iff_ne]; exact h.ne e rfl
    have H := Lib.hid h
    dsimp only [Rdn.err] at he
    clear h
    go_enter Tryz.func101, Tryz.ntmps101
    go_wp2
    go_end0
    exact ⟨rfl, H.out⟩
  | got r xs =>
    obtain ⟨A, n, c, hrd, hc, hA⟩ := h.rd r xs rfl
    obtain ⟨y, hy, _⟩ := h.rcd
    have hi := h.ibox.cell
    dsimp only [Rdn.err] at he
    have H := Lib.hid h
    have HY := Lib.hid hy
    have Hg := Lib.hid (readValue_ok W L.rg A n c xs hrd hc (fun k hk => by rw [hA] at hk; injection hk with hk; have := h.rlt; omega))
    have HA := Lib.hid hA
    have hw0 := h.old.size
    clear h hy hrd hA hc
    go_enter Tryz.func101, Tryz.ntmps101
    go_wp2_with fail
    refine Hg.out.mono ?_
    rintro e W1 ⟨ha, k3⟩
    have hy1 := HY.out.mod k3 (by omega)
    have c0 := hy1.c12
    have c1 := hy1.c13
    have f0 := hy1.fz 12
    have f1 := hy1.fz 13
    have hb1 := H.out.ebox.mod k3 (by omega)
    have he1 := hb1.cell
    have hef1 := hb1.fz
    dsimp only [Rdn.err] at he1
    have K3 := Lib.hid k3
    clear Hg hy1 hb1 he hi k3
    cases hd : decV xs with
    | bad er =>
      rw [hd] at ha
      obtain rfl := ha
      have Hd : Hid (decStep (.got r xs) .new = .bad er) := by show _ = _; simp only [decStep, decF, hd]
      have hne : er ≠ 0 := by
        unfold decV at hd
        split at hd
        · injection hd with hd; omega
        · split at hd
          · cases hd
          · split at hd
            · injection hd with hd; omega
            · split at hd
              · injection hd with hd; omega
              · cases hd
      have Hf := Lib.hid (H.out.val_v K3.out VlD.none (VlD.none_own _ _) (.bad er) (.inl ⟨er, hne, rfl⟩))
      clear hd hne
      go_wp2
      go_end0
      exact ⟨rfl, by rw [Hd.out]; exact Hf.out⟩
    | got v ys =>
      rw [hd] at ha
      obtain ⟨z, rfl, hzp, hzo, A', n', c', k1, k2, k4⟩ := ha
      have Hd : Hid (decStep (.got r xs) .new = .got { r with v := v } ys) := by show _ = _; simp only [decStep, decF, hd]
      have Hf := Lib.hid (H.out.val_v K3.out z (OwV.rebase hzo (fun k hk => by have := (OwV.lt hzo k hk).1; omega)) (.got { r with v := v } ys) (.inr ⟨ys, by rw [hzp], A', n', c', k1, k2, k4.trans HA.out⟩))
      clear hd hzp hzo k1 k2 k4
      go_wp2
      go_end0
      exact ⟨rfl, by rw [Hd.out]; exact Hf.out⟩
end Go.Proofs.YtnbamljaiahmdaaGreat

namespace Go.Proofs.YtnbamljaiahmdaaGreat
open Go Go.RowKit Go.Shelf

def RcD.zero : RcD := ⟨0, fun _ => 0, VlD.none, VlD.none⟩
/-- A record is stored whole. -/
def stRec (W : World) (b : Nat) (y : RcD) : World :=
  (((((((((((((W.setCell ⟨b, 0, none⟩ (.int .i64 y.k)).setCell ⟨b, 1, none⟩ (.int .i64 (y.f 1))).setCell ⟨b, 2, none⟩ (.int .i64 (y.f 2))).setCell ⟨b, 3, none⟩ (.int .i64 (y.f 3))).setCell ⟨b, 4, none⟩ (.int .i64 (y.f 4))).setCell ⟨b, 5, none⟩ (.int .i64 (y.f 5))).setCell ⟨b, 6, none⟩ (.int .i64 (y.f 6))).setCell ⟨b, 7, none⟩ (.int .i64 (y.f 7))).setCell ⟨b, 8, none⟩ (.int .i64 (y.f 8))).setCell ⟨b, 9, none⟩ (.int .i64 (y.f 9))).setCell ⟨b, 10, none⟩ (.bool y.o.is)).setCell ⟨b, 11, none⟩ (.slice y.o.B y.o.m y.o.d)).setCell ⟨b, 12, none⟩ (.bool y.v.is)).setCell ⟨b, 13, none⟩ (.slice y.v.B y.v.m y.v.d)
theorem RcD.In.setK {w : World} {x : RcD} {g : Nat} (h : x.In w g) (z : Int) : ({ x with k := z } : RcD).In (w.setCell ⟨g, 0, none⟩ (.int .i64 z)) g := by
  show _ = _
  rw [heap_set h]
  rfl
theorem stRec_in {W : World} {b : Nat} {x : RcD} (h : x.In W b) (y : RcD) : y.In (stRec W b y) b := by
  have h0 := h.setK y.k
  have h1 := h0.setN (i := 1) (by omega) (by omega) (y.f 1)
  have h2 := h1.setN (i := 2) (by omega) (by omega) (y.f 2)
  have h3 := h2.setN (i := 3) (by omega) (by omega) (y.f 3)
  have h4 := h3.setN (i := 4) (by omega) (by omega) (y.f 4)
  have h5 := h4.setN (i := 5) (by omega) (by omega) (y.f 5)
  have h6 := h5.setN (i := 6) (by omega) (by omega) (y.f 6)
  have h7 := h6.setN (i := 7) (by omega) (by omega) (y.f 7)
  have h8 := h7.setN (i := 8) (by omega) (by omega) (y.f 8)
  have h9 := h8.setN (i := 9) (by omega) (by omega) (y.f 9)
  exact (h9.setO y.o).setV y.v
theorem stRec_mod (W : World) (b : Nat) (y : RcD) : Mod (fun k => k = b) W (stRec W b y) := by
  have st : ∀ {w : World} (i : Nat) (u : Value), Mod (fun k => k = b) W w → Mod (fun k => k = b) W (w.setCell ⟨b, i, none⟩ u) := fun i u h => h.setCell (p := ⟨b, i, none⟩) (fun _ => rfl) u
  unfold stRec
  exact st 13 _ (st 12 _ (st 11 _ (st 10 _ (st 9 _ (st 8 _ (st 7 _ (st 6 _ (st 5 _ (st 4 _ (st 3 _ (st 2 _ (st 1 _ (st 0 _ (Mod.refl _ W))))))))))))))

/-- What is read of bytes: an error, and the record. -/
def decode : List UInt8 → Int × Rc
  | [] => (6, Rc.zero)
  | b :: ys => match fieldsOf b.toNat with
    | none => (7, Rc.zero)
    | some fl => match fl.foldl decStep (.got ⟨b.toNat, fun _ => 0, Vl.none, Vl.none⟩ ys) with
      | .bad e => (e, Rc.zero)
      | .got r [] => (0, r)
      | .got _ (_ :: _) => (7, Rc.zero)

/-- What Decode answers. -/
def DecAns (w w' : World) (e : Ending) (a : Int × Rc) : Prop := ∃ y : RcD, e = .returned (.tuple #[.agg y.cells, .int .i64 a.1]) ∧ y.p = a.2 ∧ y.o.Own w' w.heap.size ∧ y.v.Own w' w.heap.size

end Go.Proofs.YtnbamljaiahmdaaGreat
