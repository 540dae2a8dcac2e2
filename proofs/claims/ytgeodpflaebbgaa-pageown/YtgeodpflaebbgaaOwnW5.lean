/-
  PageOwn: what is handed in, and what is answered, stays.
-/
import Derived.Test.YtgeodpflaebbgaaRefs6
import Derived.Deep.RegionLaw
import Derived.Deep.RegionHeld3
namespace Go.Proofs.Ytgeodpflaebbgaa
open Go Go.RowKit

/-- One byte is stored somewhere: a slice of bytes still reads as bytes. -/
theorem Sl.poke {w : World} {A : Option Addr} {n c : Nat} {xs : List UInt8} (h : Sl w A n c xs) {g i : Nat} {cs : Array Value} {t : TypeId} (hg : w.heap[g]? = some (.cells cs t (0, 0))) (b : UInt8) :
    ∃ ys, Sl (w.setCell ⟨g, i, none⟩ (bv b)) A n c ys := by
  by_cases hn : 0 < n
  · obtain ⟨k, o, rfl, hc⟩ := h.2.2 hn
    have each : ∀ j, j < n → ∃ y : UInt8, (w.setCell ⟨g, i, none⟩ (bv b)).cell? ⟨k, o + j, none⟩ = some (bv y) := by
      intro j hj
      have h0 := hc j hj
      by_cases hk : k = g
      · subst hk
        rw [cell_of_row _ _ _ _ _ _ (heap_set hg i (bv b))]
        rw [cell_of_row _ _ _ _ _ _ hg] at h0
        rw [Array.getElem?_setIfInBounds]
        split
        · split
          · exact ⟨b, rfl⟩
          · rename_i e1 e2
            have := (Array.getElem?_eq_some_iff.1 h0).1
            omega
        · exact ⟨_, h0⟩
      · exact ⟨_, (World.cell?_of_block (Below.heap_setCell w ⟨g, i, none⟩ (bv b) k (fun e => hk e))).trans h0⟩
    obtain ⟨ys, hl, hq⟩ := list_of n each
    refine ⟨ys, hl, h.2.1, fun _ => ⟨k, o, rfl, fun j hj => ?_⟩⟩
    have := hq j _ (List.getElem?_eq_getElem (by omega))
    rw [this, List.getD_eq_getElem?_getD, List.getElem?_eq_getElem (by omega)]
    rfl
  · obtain rfl : n = 0 := by omega
    exact ⟨[], rfl, h.2.1, fun h => absurd h (by omega)⟩
theorem Ty8.poke {w : World} {base k g i : Nat} {v : Value} (h : Ty8 w base k) : Ty8 (w.setCell ⟨g, i, none⟩ v) base k := by
  obtain ⟨h1, cs, h2⟩ := h
  refine ⟨h1, ?_⟩
  by_cases e : k = g
  · subst e; exact ⟨_, heap_set h2 i v⟩
  · exact ⟨cs, (Below.heap_setCell w ⟨g, i, none⟩ v k (fun e' => e e')).trans h2⟩
theorem Vals.poke {w : World} {base : Nat} {g i : Nat} {cs : Array Value} {t : TypeId} (hg : w.heap[g]? = some (.cells cs t (0, 0))) (b : UInt8) :
    ∀ {L : List Pr} {rs : List Rec}, Vals w (Ty8 w base) L rs → ∃ rs', Vals (w.setCell ⟨g, i, none⟩ (bv b)) (Ty8 (w.setCell ⟨g, i, none⟩ (bv b)) base) L rs'
  | [], [], _ => ⟨[], trivial⟩
  | e :: L, r :: rs, h => by
    obtain ⟨ys, hy⟩ := h.1.2.1.poke (i := i) hg b
    obtain ⟨rs', h'⟩ := Vals.poke hg b h.2
    exact ⟨(e.1, ys) :: rs', ⟨rfl, hy, fun k hk hn => (h.1.2.2 k hk hn).poke⟩, h'⟩
section
variable {P : Program} {w : World}
/-- append, the operation by itself (for a region that draws its order). -/
theorem wp_app {o : Oper} {a : Act} {K : Act → World → Prop} {Q : Exit → Act → World → Prop} (s x : Operand) {t e : TypeId} {z : Value} {bytes : Nat}
    {base : Nat} {A : Option Addr} {n c : Nat} {vs : List Value} {A2 : Option Addr} {m c2 : Nat} {news : List Value}
    (he : Elem P t e z bytes)
    (ho : o.op = .call { callee := .builtin .append, args := #[s, x], argTypes := #[t, t] })
    (hes : a.eval s = .slice A n c) (hex : a.eval x = .slice A2 m c2)
    (hown : OwV w base e A n c vs) (hs : Src w A2 m news)
    (hb : (n + m) * bytes ≤ 140737488355328) (h63 : n + m ≤ maxLen) (hbase : base ≤ w.heap.size)
    (h : ∀ A' c' w', OwV w' base e A' (n + m) c' (vs ++ news) → w.grownBy w' (blkOf A) → (blkOf A' = blkOf A ∨ blkOf A' = some w.heap.size) → K (a.put o.dst (.slice A' (n + m) c')) w') :
    Oper.wp P o a w K Q := by
  obtain ⟨A', c', w', hr, h2, h3, h4⟩ := run_app (P := P) (w := w) he o.type hown (c2 := c2) hs hb h63 hbase
  unfold Oper.wp execOp
  simp only [ho, resolve, invoke, builtin, Sem.run_bind, Sem.run_pure, Result.andThen_ok, List.map_toArray, List.map_cons, List.map_nil, hes, hex, hr]
  exact h A' c' w' h2 h3 h4
end
/-- The law's own Val, with a copy of the value's bytes. -/
structure In8 (w6 W : World) (bx : Nat) (is : Bool) (A : Option Addr) (m c : Nat) (vs : List UInt8) : Prop where
  box : W.heap[bx]? = some (.cells #[.bool is, .slice A m c] 34 (0, 0))
  row : OwV W w6.heap.size 5 A m c (vs.map bv)
  mod : Mod (fun _ => False) w6 W
  lo : w6.heap.size ≤ bx
theorem In8.cells {w6 W : World} {bx : Nat} {is : Bool} {A : Option Addr} {m c : Nat} {vs : List UInt8} (h : In8 w6 W bx is A m c vs) : W.cell? ⟨bx, 0, none⟩ = some (.bool is) ∧ W.cell? ⟨bx, 1, none⟩ = some (.slice A m c) :=
  ⟨by rw [cell_of_row _ _ _ _ _ _ h.box]; rfl, by rw [cell_of_row _ _ _ _ _ _ h.box]; rfl⟩
theorem In8.ne {w6 W : World} {bx : Nat} {is : Bool} {A : Option Addr} {m c : Nat} {vs : List UInt8} (h : In8 w6 W bx is A m c vs) : blkOf A ≠ some bx := fun e => by
  obtain ⟨_, cur, hc, _⟩ := h.row.block e
  rw [h.box] at hc
  injection hc with hc
  injection hc with _ hc
  exact absurd hc (by decide)
/-- What All answered, while its values' bytes are turned. -/
structure Own2 (w9 : World) (A : Option Addr) (N c : Nat) (L : List Pr) (W : World) : Prop where
  own : OwN W w9.heap.size 49 2 A N c (prs L)
  vals : ∃ rs, Vals W (Ty8 W w9.heap.size) L rs
  old : Mod (fun k => w9.heap.size ≤ k) w9 W
theorem Own2.drew {w9 : World} {A : Option Addr} {N c : Nat} {L : List Pr} {W : World} (h : Own2 w9 A N c L W) : Own2 w9 A N c L W.drew := by
  obtain ⟨rs, hv⟩ := h.vals
  exact ⟨h.own, ⟨rs, hv.mod (Mod.refl (fun _ => False) W).drew (fun k _ hk => ⟨id, hk.mod (Mod.refl (fun _ => False) W).drew id⟩)⟩, h.old.drew⟩
theorem Own2.poke {w9 : World} {A : Option Addr} {N c : Nat} {L : List Pr} {W : World} (h : Own2 w9 A N c L W) {g : Nat} (hg : Ty8 W w9.heap.size g) (i : Nat) (y : UInt8) : Own2 w9 A N c L (W.setCell ⟨g, i, none⟩ (bv y)) := by
  obtain ⟨rs, hv⟩ := h.vals
  obtain ⟨hlo, cs, hcs⟩ := hg
  have hm : Mod (fun k => k = g) W (W.setCell ⟨g, i, none⟩ (bv y)) := (Mod.refl (fun k => k = g) W).setCell (p := ⟨g, i, none⟩) (fun _ => rfl) _
  refine ⟨h.own.mod hm (fun k hk e => ?_), hv.poke hcs y, h.old.trans hm (fun k _ e => by omega)⟩
  subst e
  obtain ⟨cur, hc⟩ := h.own.typed hk
  rw [hcs] at hc
  injection hc with hc
  injection hc with _ hc
  exact absurd hc (by decide)
/-- The copy, while its bytes are turned. -/
structure Own4 (w11 : World) (A : Option Addr) (m c : Nat) (W : World) : Prop where
  sl : ∃ ys, Sl W A m c ys
  ty : ∀ k, blkOf A = some k → ∃ cs, W.heap[k]? = some (.cells cs 5 (0, 0))
  old : Mod (fun k => blkOf A = some k) w11 W
theorem Own4.drew {w11 : World} {A : Option Addr} {m c : Nat} {W : World} (h : Own4 w11 A m c W) : Own4 w11 A m c W.drew := ⟨h.sl, h.ty, h.old.drew⟩
theorem Own4.poke {w11 : World} {A : Option Addr} {m c : Nat} {W : World} (h : Own4 w11 A m c W) {g : Nat} (hg : blkOf A = some g) (i : Nat) (y : UInt8) : Own4 w11 A m c (W.setCell ⟨g, i, none⟩ (bv y)) := by
  obtain ⟨ys, hs⟩ := h.sl
  obtain ⟨cs, hcs⟩ := h.ty g hg
  have hm : Mod (fun k => k = g) W (W.setCell ⟨g, i, none⟩ (bv y)) := (Mod.refl (fun k => k = g) W).setCell (p := ⟨g, i, none⟩) (fun _ => rfl) _
  refine ⟨hs.poke hcs y, fun k hk => ?_, h.old.trans hm (fun k _ e => by rw [e]; exact hg)⟩
  rw [hg] at hk
  injection hk with hk
  subst hk
  exact ⟨_, heap_set hcs i (bv y)⟩
theorem byte_succ (x : UInt8) : ∃ y : UInt8, Value.int .u8 (((x.toNat : Int) + 1) % 256) = bv y := by
  refine ⟨x + 1, ?_⟩
  show Value.int .u8 _ = Value.int .u8 _
  congr 1

set_option maxRecDepth 100000 in
set_option maxHeartbeats 8000000 in
theorem pageown_walk (A : Option Addr) (n c : Nat) (l : List OpD) (w : World) (hl : OpsAt w A n c l) (k : Int) (x : VlD) (hx : x.At w) :
    Calls Try.prog 9 #[.slice A n c, .int .i64 k, x.v] w fun e w' => e = .returned (.bool true) ∧ Below w.heap.size w w' := by
  obtain ⟨is, B, m, d, vs⟩ := x
  show Calls Try.prog 9 #[.slice A n c, .int .i64 k, .agg #[.bool is, .slice B m d]] w _
  have hsl : Sl w B m d vs := hx
  have ha : Mod (fun _ => False) w (w.alloc (.cells #[.bool is, .slice B m d] 34)) := (Mod.refl _ w).alloc _
  obtain ⟨w0, hw0⟩ : ∃ w0, w0 = w.alloc (.cells #[.bool is, .slice B m d] 34) := ⟨_, rfl⟩
  rw [← hw0] at ha
  have hbx : w0.heap[w.heap.size]? = some (.cells #[.bool is, .slice B m d] 34 (0, 0)) := by rw [hw0]; exact heap_alloc_new w _
  have Hblk := Lib.hid hbx
  have Hboxes : Hid (∀ W, Mod (fun _ => False) w0 W → W.cell? ⟨w.heap.size, 0, none⟩ = some (.bool is) ∧ W.cell? ⟨w.heap.size, 1, none⟩ = some (.slice B m d)) := fun W hm => by
    have hb := (hm.block _ (Array.getElem?_eq_some_iff.1 hbx).1 id).trans hbx
    exact ⟨by rw [cell_of_row _ _ _ _ _ _ hb]; rfl, by rw [cell_of_row _ _ _ _ _ _ hb]; rfl⟩
  have Hops := Lib.hid (hl.keep ha)
  have Hsl := Lib.hid (hsl.mod ha (fun _ _ _ => id))
  have hvl := hsl.len
  have hll := hl.len
  have Ha := Lib.hid ha
  clear hl hx hsl ha hbx
  have Hfew := Lib.hid (fun W hm => few_ok W A n c l (Hops.out.keep (w' := W) hm))
  go_enter Try.func9, Try.ntmps9
  go_wp2_with fail
  rw [← hw0]
  clear hw0
  refine (awake_ok _).mono ?_
  rintro e w1 ⟨rfl, hm1⟩
  have Hm1 := Lib.hid hm1
  clear hm1
  go_wp2_with fail
  refine (Hfew.out _ Hm1.out).mono ?_
  rintro e w2 ⟨rfl, rfl⟩
  obtain ⟨b0, b1⟩ := Hboxes.out w2 Hm1.out
  have Hend := Lib.hid ((Ha.out.trans Hm1.out (fun _ _ h => h)).below (Nat.le_refl _) (fun _ _ => id))
  cases hfew : fewB l with
  | false =>
    clear hfew
    go_wp2
    go_ret
    exact ⟨rfl, Hend.out⟩
  | true =>
    by_cases hm100 : 100 < m
    · clear hfew
      go_wp2
      go_ret
      exact ⟨rfl, Hend.out⟩
    · have hn60 : n ≤ 60 := by
        unfold fewB at hfew
        simp at hfew
        omega
      clear hfew Hend
      have Hnew := Lib.hid (lv_new w0 w2 Hm1.out 1 (by omega) (by omega))
      go_wp2_with fail
      refine Hnew.out.mono ?_
      rintro e w3 ⟨q0, rfl, h0, _⟩
      have H0 := Lib.hid h0
      clear h0 Hnew b0 b1
      go_wp2
      go_loopw [9, 11] (fun p i wr => ∃ (j q : Nat) (g : Pg), j ≤ n ∧ i = .int .i64 j ∧ p = .slice (some ⟨q, 0, none⟩) 248 248 ∧ Lv w0 wr q g) (fun _ i _ => n - (intOf i).toNat)
      case atStart => exact ⟨0, q0, _, by omega, rfl, rfl, H0.out⟩
      case round =>
        obtain ⟨j, q, g, hj, rfl, rfl, hL⟩ := hrel
        have HL := Lib.hid hL
        by_cases hlt : j < n
        · obtain ⟨y, hy⟩ : ∃ y, l[j]? = some y := ⟨_, List.getElem?_eq_getElem (by omega)⟩
          have ho := Hops.out.keep hL.old
          obtain ⟨b, o, rfl, hcs⟩ := ho.cells (by omega)
          obtain ⟨c0, c1, c2, c3⟩ := hcs j y hy
          have Hdo := Lib.hid (does_ok w0 wr q g hL y (ho.vals y (List.mem_of_getElem? hy)))
          clear hcs hy ho hL
          go_wp2_with fail
          refine Hdo.out.mono ?_
          rintro e w4 ⟨(⟨h1, q', rfl, h2⟩ | ⟨h1, rfl⟩), hm4⟩
          · have H2 := Lib.hid h2
            clear h2 h1 hm4 c0 c1 c2 c3
            go_wp2
            go_roundw
            case rel => exact ⟨j + 1, q', _, by omega, by go_num, rfl, H2.out⟩
            case measure => simp [intOf]; omega
          · have H2 := Lib.hid (HL.out.keep hm4)
            have h1' : ((opP g y).1 == 0) = false := by simpa using h1
            clear h1 hm4 c0 c1 c2 c3
            go_wp2
            go_roundw
            case rel => exact ⟨j + 1, q, _, by omega, by go_num, rfl, H2.out⟩
            case measure => simp [intOf]; omega
        · obtain rfl : j = n := by omega
          clear hL
          have hsp := HL.out.sl
          have Hown0 : Hid (OwV wr wr.heap.size 5 none 0 0 []) := OwV.nil _ _ _
          have Hsrc := Lib.hid hsp.src
          have Hlw := Lib.hid hsp.len
          clear hsp
          go_wp2_with (at_builtin; refine wpList_app (.const (.slice none 0 0)) (.tmp 62) byteElem rfl rfl rfl rfl Hown0.out Hsrc.out (by omega) (by unfold maxLen; omega) (Nat.le_refl _) ?_; intro A6 c6 w6 h1 h2 h3; have H1 := Lib.hid h1; have H2 := Lib.hid h2; clear h1 h2 h3)
          have hm6 : Mod (fun _ => False) wr w6 := (Mod.refl _ wr).grown H2.out (fun k e _ => by simp [blkOf] at e)
          have HL6 := Lib.hid (HL.out.keep hm6)
          have HW6 : Hid (OwV w6 wr.heap.size 5 A6 248 c6 ((enc g).map bv)) := by have := H1.out; rw [List.nil_append, Nat.zero_add] at this; exact this
          clear H1 H2 Hown0 Hsrc hm6
          have HS0 : Hid (w6.drew.cell? ⟨w.heap.size, 0, none⟩ = some (.bool is) ∧ w6.drew.cell? ⟨w.heap.size, 1, none⟩ = some (.slice B m d)) := Hboxes.out _ HL6.out.old.drew
          have HSa : Hid ((w6.drew.alloc (.cells #[.bool false, .slice none 0 0] 34)).cell? ⟨w.heap.size, 0, none⟩ = some (.bool is) ∧ (w6.drew.alloc (.cells #[.bool false, .slice none 0 0] 34)).cell? ⟨w.heap.size, 1, none⟩ = some (.slice B m d)) := Hboxes.out _ (HL6.out.old.drew.alloc _)
          have HSk : Hid (∀ W W' : World, W.cell? ⟨w.heap.size, 0, none⟩ = some (.bool is) ∧ W.cell? ⟨w.heap.size, 1, none⟩ = some (.slice B m d) → W.grownBy W' (blkOf none) → W'.cell? ⟨w.heap.size, 0, none⟩ = some (.bool is) ∧ W'.cell? ⟨w.heap.size, 1, none⟩ = some (.slice B m d)) := fun W W' h hg => ⟨hg.cell h.1 (by simp [blkOf]), hg.cell h.2 (by simp [blkOf])⟩
          have HSal : Hid (∀ (W : World) (o : Obj), W.cell? ⟨w.heap.size, 0, none⟩ = some (.bool is) ∧ W.cell? ⟨w.heap.size, 1, none⟩ = some (.slice B m d) → (W.alloc o).cell? ⟨w.heap.size, 0, none⟩ = some (.bool is) ∧ (W.alloc o).cell? ⟨w.heap.size, 1, none⟩ = some (.slice B m d)) := fun W o h => by
            have hb := Below.heap_alloc W o w.heap.size (World.block_lt_of_cell? W _ h.1)
            exact ⟨(World.cell?_of_block hb).trans h.1, (World.cell?_of_block hb).trans h.2⟩
          have hlo6 : w.heap.size < w6.heap.size := by have := HL6.out.old.size; have := (Array.getElem?_eq_some_iff.1 Hblk.out).1; omega
          have Hbx : Hid (∀ w7 : World, (w6.drew.alloc (.cells #[.bool false, .slice none 0 0] 34)).grownBy w7 (blkOf none) → w7.cell? ⟨w6.heap.size, 0, none⟩ = some (.bool false) ∧ w7.cell? ⟨w6.heap.size, 1, none⟩ = some (.slice none 0 0) ∧ w7.frozen? ⟨w6.heap.size, 0, none⟩ = false ∧ w7.frozen? ⟨w6.heap.size, 1, none⟩ = false) := fun w7 hg => by
            have hb := (hg.block w6.heap.size (by rw [World.size_alloc]; show w6.heap.size < w6.heap.size + 1; omega) (by simp [blkOf])).trans (heap_alloc_new w6.drew _)
            exact ⟨by rw [cell_of_row _ _ _ _ _ _ hb]; rfl, by rw [cell_of_row _ _ _ _ _ _ hb]; rfl, frozen_of_block hb 0, frozen_of_block hb 1⟩
          have Hby : Hid (∀ (T : Prop) (w7 : World), (w6.drew.alloc (.cells #[.bool false, .slice none 0 0] 34)).grownBy w7 (blkOf none) → (w7.cell? ⟨w6.heap.size, 0, none⟩ = some (.bool false) → w7.cell? ⟨w6.heap.size, 1, none⟩ = some (.slice none 0 0) → w7.frozen? ⟨w6.heap.size, 0, none⟩ = false → w7.frozen? ⟨w6.heap.size, 1, none⟩ = false → T) → T) := fun T w7 hg h => by
            obtain ⟨y0, y1, y2, y3⟩ := Hbx.out w7 hg
            exact h y0 y1 y2 y3
          have HSs : Hid (∀ (W : World) (v u : Value), W.cell? ⟨w.heap.size, 0, none⟩ = some (.bool is) ∧ W.cell? ⟨w.heap.size, 1, none⟩ = some (.slice B m d) → ((W.setCell ⟨w6.heap.size, 0, none⟩ v).setCell ⟨w6.heap.size, 1, none⟩ u).cell? ⟨w.heap.size, 0, none⟩ = some (.bool is) ∧ ((W.setCell ⟨w6.heap.size, 0, none⟩ v).setCell ⟨w6.heap.size, 1, none⟩ u).cell? ⟨w.heap.size, 1, none⟩ = some (.slice B m d)) := fun W v u h => by
            have hb := (Below.heap_setCell (W.setCell ⟨w6.heap.size, 0, none⟩ v) ⟨w6.heap.size, 1, none⟩ u w.heap.size (by show w.heap.size ≠ w6.heap.size; omega)).trans (Below.heap_setCell W ⟨w6.heap.size, 0, none⟩ v w.heap.size (by show w.heap.size ≠ w6.heap.size; omega))
            exact ⟨(World.cell?_of_block hb).trans h.1, (World.cell?_of_block hb).trans h.2⟩
          have Hr1 : Hid (Src w6.drew B m (vs.map bv)) := (Hsl.out.mod HL6.out.old.drew (fun _ _ _ => id)).src
          have Hr2 : Hid (Src (w6.drew.alloc (.cells #[.bool false, .slice none 0 0] 34)) B m (vs.map bv)) := (Hsl.out.mod (HL6.out.old.drew.alloc _) (fun _ _ _ => id)).src
          have hbb : (0 + m) * 1 ≤ 140737488355328 := by omega
          have hml : 0 + m ≤ maxLen := by unfold maxLen; omega
          go_region_held3 (fun w' => w'.cell? ⟨w.heap.size, 0, none⟩ = some (.bool is) ∧ w'.cell? ⟨w.heap.size, 1, none⟩ = some (.slice B m d)) (first | exact HS0.out | exact HSa.out | exact HSk.out _ _ HS0.out hg7 | exact HSal.out _ _ (HSk.out _ _ HS0.out hg7) | exact HSk.out _ _ HSa.out hg7 | exact HSs.out _ _ _ (HSk.out _ _ HSa.out hg7)) ((rw [if_pos (by simp [Region.wanted])]; refine wp_app (base := 0) (A2 := B) (m := m) (c2 := d) (news := vs.map bv) (.const (.slice none 0 0)) (.tmp 67) byteElem rfl rfl (by go_simp) (OwV.nil _ _ _) (by first | exact Hr1.out | exact Hr2.out) hbb hml (Nat.zero_le _) ?_; intro A7 c7 w7 ho7 hg7 hat7; first | (refine Hby.out _ _ hg7 ?_; intro y0 y1 y2 y3) | skip))
          case' refine_2.refine_3.refine_3.refine_3.refine_3.refine_1.refine_2.refine_3.refine_1.refine_2.refine_1.refine_2 =>
            have hin : In8 w6 (w7.alloc (.cells #[.bool is, .slice A7 m c7] 34)) w7.heap.size is A7 m c7 vs := by
              have hmm : Mod (fun _ => False) w6 w7 := (Mod.refl _ w6).drew.grown hg7 (fun k e _ => by simp [blkOf] at e)
              rw [Nat.zero_add, List.nil_append] at ho7
              refine ⟨heap_alloc_new w7 _, (ho7.rebase (fun k hk => ?_)).alloc _, hmm.alloc _, hmm.size⟩
              rcases hat7 with e | e
              · rw [e] at hk; simp [blkOf] at hk
              · rw [e] at hk; injection hk with hk; have : w6.drew.heap.size = w6.heap.size := rfl; omega
            clear ho7 hg7 hat7
            generalize hW8 : w7.alloc (.cells #[.bool is, .slice A7 m c7] 34) = W8 at *
            generalize w7.heap.size = bx at *
            clear hW8
          case' refine_2.refine_3.refine_3.refine_3.refine_3.refine_2.refine_1.refine_2.refine_1.refine_2.refine_3.refine_1.refine_2 =>
            have hin : In8 w6 ((w7.setCell ⟨w6.heap.size, 0, none⟩ (.bool is)).setCell ⟨w6.heap.size, 1, none⟩ (.slice A7 m c7)) w6.heap.size is A7 m c7 vs := by
              have hma : Mod (fun _ => False) w6 (w6.drew.alloc (.cells #[.bool false, .slice none 0 0] 34)) := (Mod.refl _ w6).drew.alloc _
              have hmm : Mod (fun _ => False) w6 w7 := hma.grown hg7 (fun k e _ => by simp [blkOf] at e)
              have hsz6 : (w6.alloc (.cells #[.bool false, .slice none 0 0] 34)).heap.size = w6.heap.size + 1 := World.size_alloc _ _
              have hb7 : w7.heap[w6.heap.size]? = some (.cells #[.bool false, .slice none 0 0] 34 (0, 0)) := (hg7.block w6.heap.size (by show w6.heap.size < (w6.alloc (.cells #[.bool false, .slice none 0 0] 34)).heap.size; omega) (by simp [blkOf])).trans (heap_alloc_new w6 _)
              obtain ⟨hmb, hbb⟩ := box2 hb7 (.bool is) (.slice A7 m c7)
              rw [Nat.zero_add, List.nil_append] at ho7
              have hkin : ∀ k, blkOf A7 = some k → w6.heap.size < k := fun k hk => by
                rcases hat7 with e | e
                · rw [e] at hk; simp [blkOf] at hk
                · rw [e] at hk; injection hk with hk; have hk' : (w6.alloc (.cells #[.bool false, .slice none 0 0] 34)).heap.size = k := hk; omega
              exact ⟨hbb, (ho7.rebase (fun k hk => Nat.le_of_lt (hkin k hk))).mod hmb (fun k hk e => by have := hkin k hk; omega), hmm.trans hmb (fun k hk e => by omega), Nat.le_refl _⟩
            clear ho7 hg7 hat7 y0 y1 y2 y3
            generalize (w7.setCell ⟨w6.heap.size, 0, none⟩ (.bool is)).setCell ⟨w6.heap.size, 1, none⟩ (.slice A7 m c7) = W8 at *
            obtain ⟨bx, hbx⟩ : ∃ bx, bx = w6.heap.size := ⟨_, rfl⟩
            rw [← hbx] at hin ⊢
            clear hbx
          all_goals
            clear HS0 HSa HSk HSal HSs Hbx Hby Hr1 Hr2
            obtain ⟨b0, b1⟩ := hin.cells
            have HIn := Lib.hid hin
            have hm68 := hin.mod
            have hL8 := HL6.out.keep hm68
            have Hsw8 := Lib.hid (HW6.out.sl.mod hm68 (fun _ _ _ => id))
            have hput := put_page W8 _ _ _ _ hL8.sl k is A7 m c7 vs hin.row.sl
            rw [cont_enc hL8.good, dec_enc hL8.good, if_pos (by simp)] at hput
            have Hput := Lib.hid hput
            have HL8 := Lib.hid hL8
            clear hin hm68 hL8 hput
            go_wp2_with fail
            refine Hput.out.mono ?_
            rintro e w9 hans
            have hm89 : Mod (fun _ => False) W8 w9 := by
              rcases hans with ⟨_, _, _, h⟩ | ⟨_, _, h⟩
              · exact h.old
              · exact h
            have Hans : Hid (∃ PA pn pc, e = .returned (.tuple #[.slice PA pn pc, .int .i64 (putP g k is vs).1]) ∧ ((putP g k is vs).1 = 0 → ∃ q', PA = some ⟨q', 0, none⟩ ∧ pn = 248 ∧ pc = 248 ∧ PgAt W8 w9 q' (putP g k is vs).2)) := by
              rcases hans with ⟨h1, q', h2, h3⟩ | ⟨h1, h2, _⟩
              · exact ⟨some ⟨q', 0, none⟩, 248, 248, by rw [h2, h1], fun _ => ⟨q', rfl, rfl, rfl, h3⟩⟩
              · exact ⟨none, 0, 0, h2, fun h => absurd h h1⟩
            obtain ⟨PA, pn, pc, rfl, hpg⟩ := Hans.out
            have Hpg := Lib.hid hpg
            have Hm89 := Lib.hid hm89
            have HL9 := Lib.hid (HL8.out.keep hm89)
            have Hal := Lib.hid (lv_all HL9.out)
            have hcnt := HL9.out.good.count
            clear hans Hans hpg b0 b1 Hput hm89
            generalize her : (putP g k is vs).1 = er at *
            go_wp2_with fail
            refine Hal.out.mono ?_
            rintro e w10 ⟨A10, c10, L10, rfl, hk10⟩
            have H10 : Hid (Own2 w9 A10 g.l.length c10 L10 w10) := ⟨hk10.own, ⟨_, hk10.vals⟩, hk10.old.mono (fun _ _ h => h.elim)⟩
            have hL10 : L10.length = g.l.length := hk10.vals.len
            have Hn32 := Lib.hid (hk10.vals.short HL9.out.good.val)
            clear hk10 Hal
            obtain ⟨N, hN⟩ : ∃ N, g.l.length = N := ⟨_, rfl⟩
            rw [hN] at H10 hL10 hcnt ⊢
            clear hN
            go_wp2
            go_loopw [19] (fun i wr => ∃ (ii : Nat), ii ≤ N ∧ i = .int .i64 ii ∧ Own2 w9 A10 N c10 L10 wr) (fun i _ => N - (intOf i).toNat)
            case atStart => exact ⟨0, by omega, rfl, H10.out⟩
            case round =>
              obtain ⟨ii, hii, rfl, hO⟩ := hrel
              by_cases hlt2 : ii < N
              · obtain ⟨z, hz⟩ : ∃ z, L10[ii]? = some z := ⟨_, List.getElem?_eq_getElem (by omega)⟩
                obtain ⟨b, o, rfl, hcs⟩ := hO.own.pl.2.2 (by omega)
                have Hcs : Hid (∀ W, Own2 w9 (some ⟨b, o, none⟩) N c10 L10 W → W.cell? ⟨b, o + ii * 2 + 1, none⟩ = some (.slice z.2.a z.2.n z.2.c) ∧ ∃ ys, Sl W z.2.a z.2.n z.2.c ys ∧ ∀ kk, blkOf z.2.a = some kk → 0 < z.2.n → Ty8 W w9.heap.size kk) := fun W hW => by
                  obtain ⟨b', o', e, hc'⟩ := hW.own.pl.2.2 (by omega)
                  injection e with e
                  injection e with e1 e2
                  subst e1 e2
                  obtain ⟨rs, hv⟩ := hW.vals
                  obtain ⟨r, hr⟩ : ∃ r, rs[ii]? = some r := ⟨_, List.getElem?_eq_getElem (by have := hv.len; omega)⟩
                  obtain ⟨z', hz', _, hs', hty⟩ := hv.nth ii r hr
                  rw [hz] at hz'
                  injection hz' with hz'
                  subst hz'
                  exact ⟨(hc' ii z hz).2, r.2, hs', hty⟩
                have HO := Lib.hid hO
                have hz32 : z.2.n ≤ 32 := Hn32.out z (List.mem_of_getElem? hz)
                clear hcs hO hz
                go_wp2
                go_loopw [20] (fun jv wr' => ∃ (jj : Nat), jj ≤ z.2.n ∧ jv = .int .i64 jj ∧ Own2 w9 (some ⟨b, o, none⟩) N c10 L10 wr') (fun jv _ => z.2.n - (intOf jv).toNat)
                case atStart => exact ⟨0, by omega, rfl, HO.out⟩
                case round =>
                  obtain ⟨jj, hjj, rfl, hO2⟩ := hrel
                  obtain ⟨a1, ys, hys, hty⟩ := Hcs.out _ hO2
                  have HO2 := Lib.hid hO2
                  clear hO2
                  by_cases hlt3 : jj < z.2.n
                  · obtain ⟨g', o2, hga, hgc⟩ := hys.2.2 (by omega)
                    have hcj := hgc jj hlt3
                    have hty' := hty g' (by rw [hga]; rfl) (by omega)
                    obtain ⟨xb, hxb⟩ : ∃ xb, ys.getD jj 0 = xb := ⟨_, rfl⟩
                    rw [hxb] at hcj
                    obtain ⟨y, hy⟩ := byte_succ xb
                    have hnext : Own2 w9 (some ⟨b, o, none⟩) N c10 L10 (wr.drew.setCell ⟨g', o2 + jj, none⟩ (bv y)) := HO2.out.drew.poke (hty'.mod (Mod.refl (fun _ => False) wr).drew id) _ y
                    rw [← hy] at hnext
                    have hfz : wr.drew.frozen? ⟨g', o2 + jj, none⟩ = false := by
                      obtain ⟨_, cs, hcs'⟩ := hty'
                      exact frozen_of_block (w := wr.drew) hcs' _
                    have hcj' : wr.drew.cell? ⟨g', o2 + jj, none⟩ = some (bv xb) := hcj
                    have Hnext := Lib.hid hnext
                    rw [hga] at a1
                    clear hys hty hgc hty' hnext HO2 hy hxb
                    go_wp2_with fail
                    go_still_tail 16, (by kernel_rfl)
                    change wpList _ _ _ _ _ wr.drew
                    clear a1 hcj
                    generalize wr.drew = wd at *
                    go_wp2
                    go_roundw
                    case rel => exact ⟨jj + 1, by omega, by go_num, Hnext.out⟩
                    case measure => simp [intOf]; omega
                  · obtain rfl : jj = z.2.n := by omega
                    clear hys hty
                    go_wp2
                    go_roundw
                    case rel => exact ⟨ii + 1, by omega, by go_num, HO2.out⟩
                    case measure => simp [intOf]; omega
              · obtain rfl : ii = N := by omega
                have hin := HIn.out
                have h89 := Hm89.out.size
                have hm69 := hin.mod.trans Hm89.out (fun _ _ h => h)
                have hkin : ∀ kk, blkOf A7 = some kk → w6.heap.size ≤ kk ∧ kk < W8.heap.size := hin.row.lt
                have hbxlt : bx < W8.heap.size := (Array.getElem?_eq_some_iff.1 hin.box).1
                have hrow9 := hin.row.mod Hm89.out (fun _ _ => id)
                have hrow11 : OwV wr w6.heap.size 5 A7 m c7 (vs.map bv) := hrow9.mod hO.old (fun kk hk e => by have := (hkin kk hk).2; omega)
                have H40 : Hid (Own4 wr A7 m c7 wr) := ⟨⟨vs, hrow11.sl⟩, fun kk hk => by obtain ⟨_, cur, hc, _⟩ := hrow11.block hk; exact ⟨cur, hc⟩, Mod.refl _ _⟩
                have hw06 := HL6.out.old.size
                have hw69 := hm69.size
                have Hfin : Hid (∀ W, Own4 wr A7 m c7 W → (W.cell? ⟨bx, 0, none⟩ = some (.bool is) ∧ W.cell? ⟨bx, 1, none⟩ = some (.slice A7 m c7)) ∧ Lv w0 W q g ∧ Sl W A6 248 c6 (enc g) ∧ (er = 0 → ∃ q', PA = some ⟨q', 0, none⟩ ∧ pn = 248 ∧ pc = 248 ∧ Lv w0 W q' (putP g k is vs).2)) := fun W h4 => by
                  have hF : Mod (fun kk => w9.heap.size ≤ kk ∨ blkOf A7 = some kk) w9 W := (hO.old.mono (fun _ _ e => .inl e)).trans h4.old (fun _ _ e => .inr e)
                  have hlow : ∀ kk, kk < w6.heap.size → ¬ (w9.heap.size ≤ kk ∨ blkOf A7 = some kk) := fun kk hk e => by
                    rcases e with e | e
                    · omega
                    · have := (hkin kk e).1; omega
                  have hbx9 := (Hm89.out.block bx hbxlt id).trans hin.box
                  have hbxW : W.heap[bx]? = some (.cells #[.bool is, .slice A7 m c7] 34 (0, 0)) := (hF.block bx (by omega) (fun e => by
                    rcases e with e | e
                    · omega
                    · exact hin.ne e)).trans hbx9
                  refine ⟨⟨by rw [cell_of_row _ _ _ _ _ _ hbxW]; rfl, by rw [cell_of_row _ _ _ _ _ _ hbxW]; rfl⟩, HL9.out.mod hF (hlow _ HL6.out.lt) (fun kk hk => hlow kk (by omega)), (HW6.out.sl.mod hm69 (fun _ _ _ => id)).mod hF (fun kk hk hn => hlow kk (HW6.out.lt kk hk).2), fun he => ?_⟩
                  obtain ⟨q', e1, e2, e3, hp⟩ := Hpg.out he
                  refine ⟨q', e1, e2, e3, Lv.mod ⟨good_putP HL9.out.good k is vs, hp.from (HL6.out.old.trans hin.mod (fun _ _ h => h))⟩ hF (fun e => ?_) (fun kk hk => hlow kk (by omega))⟩
                  have hq1 := hp.lo
                  have hq2 := (Array.getElem?_eq_some_iff.1 hp.blk).1
                  rcases e with e | e
                  · omega
                  · have := (hkin q' e).2; omega
                have HA7 : Hid (0 < m → ∃ kk, A7 = some ⟨kk, 0, none⟩) := fun hm0 => by obtain ⟨kk, e, _⟩ := hrow11.cells hm0; exact ⟨kk, e⟩
                have Hgg := Lib.hid HL9.out.good
                clear hin hm69 hkin hbxlt hrow9 hrow11 hO HL9 HL8 HL6 HW6 Hsw8 Hpg HIn Hm89
                go_wp2
                go_loopw [21] (fun jv wr' => ∃ (jj : Nat), jj ≤ m ∧ jv = .int .i64 jj ∧ Own4 wr A7 m c7 wr') (fun jv _ => m - (intOf jv).toNat)
                case atStart => exact ⟨0, by omega, rfl, H40.out⟩
                case round =>
                  obtain ⟨jj, hjj, rfl, hO4⟩ := hrel
                  obtain ⟨⟨e0, e1⟩, hLq, hwas, hq'⟩ := Hfin.out _ hO4
                  by_cases hlt3 : jj < m
                  · obtain ⟨kk, rfl⟩ := HA7.out (by omega)
                    obtain ⟨ys, hys⟩ := hO4.sl
                    obtain ⟨b', o', eA, hgc⟩ := hys.2.2 (by omega)
                    injection eA with eA
                    injection eA with eA1 eA2
                    subst eA1 eA2
                    have hcj := hgc jj hlt3
                    rw [Nat.zero_add] at hcj
                    obtain ⟨cs, hcs'⟩ := hO4.ty kk rfl
                    obtain ⟨xb, hxb⟩ : ∃ xb, ys.getD jj 0 = xb := ⟨_, rfl⟩
                    rw [hxb] at hcj
                    obtain ⟨y, hy⟩ := byte_succ xb
                    have hfz : wr.drew.frozen? ⟨kk, jj, none⟩ = false := frozen_of_block (w := wr.drew) hcs' _
                    have hcj' : wr.drew.cell? ⟨kk, jj, none⟩ = some (bv xb) := hcj
                    have hnext := hO4.drew.poke (g := kk) rfl jj y
                    rw [← hy] at hnext
                    have Hnext := Lib.hid hnext
                    clear hys hgc hcs' hO4 hLq hwas hq' e0 hnext hy hxb
                    go_wp2_with fail
                    go_still_tail 10, (by kernel_rfl)
                    change wpList _ _ _ _ _ wr.drew
                    clear hcj e1
                    generalize wr.drew = wd at *
                    go_wp2
                    go_roundw
                    case rel => exact ⟨jj + 1, by omega, by go_num, Hnext.out⟩
                    case measure => simp [intOf]; omega
                  · obtain rfl : jj = m := by omega
                    have hsm := same_ok wr _ _ _ _ _ _ _ _ hLq.sl hwas (by omega) (by omega)
                    rw [eqB_self] at hsm
                    have Hsm := Lib.hid hsm
                    have HLq := Lib.hid hLq
                    have Hq' := Lib.hid hq'
                    clear hsm hLq hwas hq' hO4 e0
                    go_wp2_with fail
                    refine Hsm.out.mono ?_
                    rintro e w13 ⟨rfl, rr, rfl⟩
                    have hmr : Mod (fun _ => False) wr (wr.drewN rr) := (Mod.refl _ wr).drewN rr
                    have HLr := Lib.hid (HLq.out.keep hmr)
                    have Hq13 : Hid (er = 0 → ∃ q', PA = some ⟨q', 0, none⟩ ∧ pn = 248 ∧ pc = 248 ∧ Lv w0 (wr.drewN rr) q' (putP g k is vs).2) := fun he => by
                      obtain ⟨q', e1, e2, e3, h⟩ := Hq'.out he
                      exact ⟨q', e1, e2, e3, h.keep hmr⟩
                    clear hmr e1
                    generalize wr.drewN rr = w13 at *
                    have Hend := Lib.hid ((Ha.out.trans HLr.out.old (fun _ _ h => h)).below (Nat.le_refl _) (fun _ _ => id))
                    by_cases hez : er = 0
                    · subst hez
                      obtain ⟨q', rfl, rfl, rfl, hLq'⟩ := Hq13.out rfl
                      obtain ⟨hg', _, _⟩ := putP_ok her
                      rw [hg'] at hLq'
                      obtain ⟨v0, v1⟩ := Hboxes.out w13 HLr.out.old
                      have HQ := Lib.hid hLq'
                      have hgd := Hgg.out
                      have Hpgv := Lib.hid (put_get (k := k) (is := is) (v := vs) hgd)
                      clear hLq' hg' her hgd Hq13 Hq'
                      generalize (if is then mSet k vs g.l else mDel k g.l) = L' at *
                      cases is with
                      | true =>
                        have hma : Mod (fun _ => False) w13 (w13.alloc (.cells #[.bool true, .slice B jj d] 34)) := (Mod.refl _ w13).alloc _
                        have hbw : (w13.alloc (.cells #[.bool true, .slice B jj d] 34)).heap[w13.heap.size]? = some (.cells #[.bool true, .slice B jj d] 34 (0, 0)) := heap_alloc_new w13 _
                        have Hmd : Hid (∀ W, Mod (fun _ => False) (w13.alloc (.cells #[.bool true, .slice B jj d] 34)) W → W.cell? ⟨w13.heap.size, 0, none⟩ = some (.bool true) ∧ W.cell? ⟨w13.heap.size, 1, none⟩ = some (.slice B jj d)) := fun W hm => by
                          have hb := (hm.block _ (Array.getElem?_eq_some_iff.1 hbw).1 id).trans hbw
                          exact ⟨by rw [cell_of_row _ _ _ _ _ _ hb]; rfl, by rw [cell_of_row _ _ _ _ _ _ hb]; rfl⟩
                        obtain ⟨w14, hw14⟩ : ∃ w14, w14 = w13.alloc (.cells #[.bool true, .slice B jj d] 34) := ⟨_, rfl⟩
                        obtain ⟨x0, x1⟩ := Hboxes.out _ (HLr.out.keep ((Mod.refl (fun _ => False) w13).alloc (.cells #[.bool true, .slice B jj d] 34))).old
                        rw [← hw14] at hma Hmd
                        have HQ14 := Lib.hid (HQ.out.keep hma)
                        have hgt := lv_get (HQ14.out.keep (Mod.refl _ w14).drew) k
                        rw [show (⟨g.id, g.lsn, L'⟩ : Pg).l = L' from rfl, Hpgv.out] at hgt
                        have Hgt := Lib.hid hgt
                        have HS0 : Hid (w14.drew.cell? ⟨w13.heap.size, 0, none⟩ = some (.bool true) ∧ w14.drew.cell? ⟨w13.heap.size, 1, none⟩ = some (.slice B jj d)) := Hmd.out w14.drew (Mod.refl _ w14).drew
                        have HS : Hid (∀ W, Mod (fun _ => False) w14.drew W → W.cell? ⟨w13.heap.size, 0, none⟩ = some (.bool true) ∧ W.cell? ⟨w13.heap.size, 1, none⟩ = some (.slice B jj d)) := fun W hm => Hmd.out W ((Mod.refl _ w14).drew.trans hm (fun _ _ h => h))
                        have Hv : Hid (∀ W B15 m15 d15, Mod (fun _ => False) w14.drew W → Sl W B15 m15 d15 ((wantV true vs).getD []) → Calls Try.prog 27 #[.agg #[.bool (wantV true vs).isSome, .slice B15 m15 d15], .agg #[.bool true, .slice B jj d]] W fun e w' => e = .returned (.bool true) ∧ Mod (fun _ => False) W w') := fun W B15 m15 d15 hm hs => by
                          have hmW : Mod (fun _ => False) w13 W := hma.trans ((Mod.refl _ w14).drew.trans hm (fun _ _ h => h)) (fun _ _ h => h)
                          have hx := vals_ok W B15 B m15 jj d15 d ((wantV true vs).getD []) vs (wantV true vs).isSome true hs (Hsl.out.mod (HQ.out.old.trans hmW (fun _ _ h => h)) (fun _ _ _ => id)) (by rw [← hs.len]; show (vs : List UInt8).length ≤ _; first | (rw [hvl]; omega) | simp) (by omega)
                          rw [show (wantV true vs).getD [] = vs from rfl, eqB_self, show (true && ((wantV true vs).isSome == true)) = true from rfl] at hx
                          exact hx
                        have Hold14 := Lib.hid (Ha.out.trans HQ14.out.old (fun _ _ h => h))
                        clear hbw hgt hma
                        go_wp2_with fail
                        rw [← hw14]
                        clear hw14
                        go_region_held3 (fun w' => w'.cell? ⟨w13.heap.size, 0, none⟩ = some (.bool true) ∧ w'.cell? ⟨w13.heap.size, 1, none⟩ = some (.slice B jj d)) (first | exact HS0.out | exact HS.out _ (hm15.trans hm16 (fun _ _ h => h)) | exact HS.out _ hm15) (first | (go_at_call 22; refine Hgt.out.mono ?_; rintro e w15 ⟨B15, m15, d15, rfl, hs15, _, hm15⟩) | (go_at_call 27; refine (Hv.out _ _ _ _ hm15 hs15).mono ?_; rintro e w16 ⟨rfl, hm16⟩))
                        have Hm16 := Lib.hid (Hold14.out.drew.trans (hm15.trans hm16 (fun _ _ h => h)) (fun _ _ h => h))
                        clear hm15 hm16 hs15
                        go_wp2
                        go_ret
                        exact ⟨rfl, Hm16.out.below (Nat.le_refl _) (fun _ _ => id)⟩
                      | false =>
                        have hma : Mod (fun _ => False) w13 (w13.alloc (.cells #[.bool false, .slice none 0 0] 34)) := (Mod.refl _ w13).alloc _
                        have hbw : (w13.alloc (.cells #[.bool false, .slice none 0 0] 34)).heap[w13.heap.size]? = some (.cells #[.bool false, .slice none 0 0] 34 (0, 0)) := heap_alloc_new w13 _
                        have Hmd : Hid (∀ W, Mod (fun _ => False) (w13.alloc (.cells #[.bool false, .slice none 0 0] 34)) W → W.cell? ⟨w13.heap.size, 0, none⟩ = some (.bool false) ∧ W.cell? ⟨w13.heap.size, 1, none⟩ = some (.slice none 0 0)) := fun W hm => by
                          have hb := (hm.block _ (Array.getElem?_eq_some_iff.1 hbw).1 id).trans hbw
                          exact ⟨by rw [cell_of_row _ _ _ _ _ _ hb]; rfl, by rw [cell_of_row _ _ _ _ _ _ hb]; rfl⟩
                        obtain ⟨w14, hw14⟩ : ∃ w14, w14 = w13.alloc (.cells #[.bool false, .slice none 0 0] 34) := ⟨_, rfl⟩
                        obtain ⟨x0, x1⟩ := Hboxes.out _ (HLr.out.keep ((Mod.refl (fun _ => False) w13).alloc (.cells #[.bool false, .slice B jj d] 34))).old
                        rw [← hw14] at hma Hmd
                        have HQ14 := Lib.hid (HQ.out.keep hma)
                        have hgt := lv_get (HQ14.out.keep (Mod.refl _ w14).drew) k
                        rw [show (⟨g.id, g.lsn, L'⟩ : Pg).l = L' from rfl, Hpgv.out] at hgt
                        have Hgt := Lib.hid hgt
                        have HS0 : Hid (w14.drew.cell? ⟨w13.heap.size, 0, none⟩ = some (.bool false) ∧ w14.drew.cell? ⟨w13.heap.size, 1, none⟩ = some (.slice none 0 0)) := Hmd.out w14.drew (Mod.refl _ w14).drew
                        have HS : Hid (∀ W, Mod (fun _ => False) w14.drew W → W.cell? ⟨w13.heap.size, 0, none⟩ = some (.bool false) ∧ W.cell? ⟨w13.heap.size, 1, none⟩ = some (.slice none 0 0)) := fun W hm => Hmd.out W ((Mod.refl _ w14).drew.trans hm (fun _ _ h => h))
                        have Hv : Hid (∀ W B15 m15 d15, Mod (fun _ => False) w14.drew W → Sl W B15 m15 d15 ((wantV false vs).getD []) → Calls Try.prog 27 #[.agg #[.bool (wantV false vs).isSome, .slice B15 m15 d15], .agg #[.bool false, .slice none 0 0]] W fun e w' => e = .returned (.bool true) ∧ Mod (fun _ => False) W w') := fun W B15 m15 d15 hm hs => by
                          have hmW : Mod (fun _ => False) w13 W := hma.trans ((Mod.refl _ w14).drew.trans hm (fun _ _ h => h)) (fun _ _ h => h)
                          have hx := vals_ok W B15 none m15 0 d15 0 ((wantV false vs).getD []) [] (wantV false vs).isSome false hs (Sl.none_ _ _ _) (by rw [← hs.len]; show ([] : List UInt8).length ≤ _; first | (rw [hvl]; omega) | simp) (by omega)
                          rw [show (wantV false vs).getD [] = [] from rfl, eqB_self, show (true && ((wantV false vs).isSome == false)) = true from rfl] at hx
                          exact hx
                        have Hold14 := Lib.hid (Ha.out.trans HQ14.out.old (fun _ _ h => h))
                        clear hbw hgt hma
                        go_wp2_with fail
                        rw [← hw14]
                        clear hw14
                        go_region_held3 (fun w' => w'.cell? ⟨w13.heap.size, 0, none⟩ = some (.bool false) ∧ w'.cell? ⟨w13.heap.size, 1, none⟩ = some (.slice none 0 0)) (first | exact HS0.out | exact HS.out _ (hm15.trans hm16 (fun _ _ h => h)) | exact HS.out _ hm15) (first | (go_at_call 22; refine Hgt.out.mono ?_; rintro e w15 ⟨B15, m15, d15, rfl, hs15, _, hm15⟩) | (go_at_call 27; refine (Hv.out _ _ _ _ hm15 hs15).mono ?_; rintro e w16 ⟨rfl, hm16⟩))
                        have Hm16 := Lib.hid (Hold14.out.drew.trans (hm15.trans hm16 (fun _ _ h => h)) (fun _ _ h => h))
                        clear hm15 hm16 hs15
                        go_wp2
                        go_ret
                        exact ⟨rfl, Hm16.out.below (Nat.le_refl _) (fun _ _ => id)⟩
                    · have hez' : (er != 0) = true := by simpa using hez
                      clear hez
                      go_wp2
                      go_ret
                      exact ⟨rfl, Hend.out⟩
end Go.Proofs.Ytgeodpflaebbgaa
