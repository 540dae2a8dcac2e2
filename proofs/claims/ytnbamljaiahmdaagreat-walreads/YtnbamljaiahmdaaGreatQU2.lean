/-
  sect.Unpack.
  sect.Unpack: its walk.
  What was packed is unpacked to the same.
-/
import Derived.Test.YtnbamljaiahmdaaGreatQU
import Derived.Test.YtnbamljaiahmdaaGreatQS
namespace Go.Proofs.YtnbamljaiahmdaaGreat
open Go Go.RowKit Go.Shelf

/-- What has been read behind j records. -/
def recsJ (xs : List UInt8) : Nat → Option (List Rc × List UInt8)
  | 0 => some ([], xs)
  | j + 1 => match recsJ xs j with
    | none => none
    | some (l, ys) => match recR ys with
      | none => none
      | some (r, zs) => some (l ++ [r], zs)
theorem recsJ_no {xs ys : List UInt8} {l : List Rc} {j : Nat} (h : recsJ xs j = some (l, ys)) (hr : recR ys = none) : ∀ k, j < k → recsJ xs k = none
  | 0, hk => by omega
  | k + 1, hk => by
    rcases Nat.lt_or_ge j k with h1 | h1
    · show (match recsJ xs k with | none => none | some (l, ys) => match recR ys with | none => none | some (r, zs) => some (l ++ [r], zs)) = none
      rw [recsJ_no h hr k h1]
    · obtain rfl : j = k := by omega
      show (match recsJ xs j with | none => none | some (l, ys) => match recR ys with | none => none | some (r, zs) => some (l ++ [r], zs)) = none
      rw [h]
      show (match recR ys with | none => none | some (r, zs) => some (l ++ [r], zs)) = none
      rw [hr]
theorem recsJ_yes {xs ys zs : List UInt8} {l : List Rc} {r : Rc} {j : Nat} (h : recsJ xs j = some (l, ys)) (hr : recR ys = some (r, zs)) : recsJ xs (j + 1) = some (l ++ [r], zs) := by
  show (match recsJ xs j with | none => none | some (l, ys) => match recR ys with | none => none | some (r, zs) => some (l ++ [r], zs)) = _
  rw [h]
  show (match recR ys with | none => none | some (r, zs) => some (l ++ [r], zs)) = _
  rw [hr]
theorem takeM_len {xs b rest : List UInt8} (h : takeM xs = some (b, rest)) : rest.length < xs.length := by
  cases xs with
  | nil => cases h
  | cons a ys =>
    rw [takeM_cons] at h
    split at h
    · cases h
    · injection h with h
      injection h with _ h
      rw [← h, List.length_drop, List.length_cons]
      omega
theorem recR_len {xs rest : List UInt8} {r : Rc} (h : recR xs = some (r, rest)) : rest.length < xs.length := by
  unfold recR at h
  split at h
  · cases h
  · rename_i b rest' ht
    split at h
    · injection h with h
      injection h with _ h
      subst h
      exact takeM_len ht
    · cases h
theorem recsJ_len {xs : List UInt8} : ∀ {j : Nat} {l : List Rc} {ys : List UInt8}, recsJ xs j = some (l, ys) → ys.length ≤ xs.length
  | 0, l, ys, h => by injection h with h; injection h with _ h; rw [← h]; exact Nat.le_refl _
  | j + 1, l, ys, h => by
    cases h1 : recsJ xs j with
    | none =>
      have : recsJ xs (j + 1) = none := by
        show (match recsJ xs j with | none => none | some (l, ys) => match recR ys with | none => none | some (r, zs) => some (l ++ [r], zs)) = none
        rw [h1]
      rw [this] at h
      cases h
    | some p =>
      obtain ⟨l1, y1⟩ := p
      cases h2 : recR y1 with
      | none =>
        rw [recsJ_no h1 h2 (j + 1) (by omega)] at h
        cases h
      | some q =>
        obtain ⟨r, zs⟩ := q
        rw [recsJ_yes h1 h2] at h
        injection h with h
        injection h with _ h
        subst h
        have a := recsJ_len h1
        have b := recR_len h2
        omega

/-- What Unpack makes of bytes. -/
def unpackM (xs : List UInt8) : Option (List Rc) :=
  if xs.length < 11 ∨ 248 < xs.length then none
  else if (headOk (hdE xs) (hdS xs) (hdF xs) && decide (hdN xs ≤ 60)) = false then none
  else match recsJ (xs.drop 11) (hdN xs) with
    | none => none
    | some (l, rest) => if rest.all (· == 0) then some l else none

/-- What Unpack answers. -/
def UnAns (w w' : World) (xs : List UInt8) (e : Ending) : Option (List Rc) → Prop
  | none => e = .returned (.tuple #[.agg BtD.zero.cells, .int .i64 7])
  | some l => ∃ (B : Option Addr) (m d : Nat) (L : List RcD), e = .returned (.tuple #[.agg #[.int .i64 (hdE xs), .int .i64 (hdS xs), .int .i64 (hdF xs), .slice B m d], .int .i64 0]) ∧
      OwN w' w.heap.size 47 14 B m d (recsC L) ∧ (∀ y ∈ L, y.o.Own w' w.heap.size ∧ y.v.Own w' w.heap.size) ∧ L.map RcD.p = l

theorem OwN.rebase {w : World} {base base' : Nat} {e : TypeId} {size : Nat} {A : Option Addr} {n c : Nat} {vs : List Value} (h : OwN w base e size A n c vs) (hb : base' ≤ base) : OwN w base' e size A n c vs := by
  refine ⟨h.1, ?_⟩
  rcases h.2 with hn | ⟨g, cap, cur, hv, hbg, rest⟩
  · exact .inl hn
  · exact .inr ⟨g, cap, cur, hv, Nat.le_trans hb hbg, rest⟩
theorem OwN.type_ {w : World} {base : Nat} {e : TypeId} {size : Nat} {A : Option Addr} {n c : Nat} {vs : List Value} (h : OwN w base e size A n c vs) {k : Nat} (hk : blkOf A = some k) : ∃ cs, w.heap[k]? = some (.cells cs e (0, 0)) := by
  rcases h.2 with ⟨hv, _⟩ | ⟨g, cap, cur, hv, _, hh, _⟩
  · injection hv with hA; subst hA; simp [blkOf] at hk
  · injection hv with hA
    subst hA
    simp [blkOf] at hk
    subst hk
    exact ⟨cur, hh⟩

/-- Unpack's memory while it reads. -/
structure US (w : World) (base rg rb bx : Nat) (e s f : Int) (W : World) (B : Option Addr) (m d : Nat) (L : List RcD) (rest : List UInt8) : Prop where
  rd : Rdr W rg rb rest
  box : BtD.In W ⟨e, s, f, B, m, d, L⟩ bx
  res : BtD.zero.In W w.heap.size
  row : OwN W base 47 14 B m d (recsC L)
  own : ∀ y ∈ L, y.o.Own W base ∧ y.v.Own W base
  old : Mod (fun _ => False) w W
  l1 : w.heap.size < rb
  l2 : rb < rg
  l3 : rg < bx
  l4 : bx < base
  l5 : base ≤ W.heap.size
section
variable {w W W1 : World} {base rg rb bx : Nat} {e s f : Int} {B : Option Addr} {m d : Nat} {L : List RcD} {rest rest' : List UInt8}
theorem US.len (h : US w base rg rb bx e s f W B m d L rest) : L.length = m := by have := h.row.1; rw [recsC_len] at this; omega
/-- Blocks below base that turn, but those that matter. -/
theorem US.turn (h : US w base rg rb bx e s f W B m d L rest) (hm : Mod (fun k => k = rg) W W1) (hr : Rdr W1 rg rb rest') : US w base rg rb bx e s f W1 B m d L rest' := by
  have l1 := h.l1; have l2 := h.l2; have l3 := h.l3; have l4 := h.l4
  refine ⟨hr, h.box.mod hm (by omega), h.res.mod hm (by omega), h.row.mod hm (fun k hk e => by have := (h.row.lt k hk).1; omega), fun y hy => ?_, h.old.trans hm (fun k hk e => by omega), h.l1, h.l2, h.l3, h.l4, Nat.le_trans h.l5 hm.size⟩
  obtain ⟨a, b⟩ := h.own y hy
  exact ⟨OwV.mod a hm (fun k hk e => by have := (OwV.lt a k hk).1; omega), OwV.mod b hm (fun k hk e => by have := (OwV.lt b k hk).1; omega)⟩
theorem US.keep (h : US w base rg rb bx e s f W B m d L rest) (hm : Mod (fun _ => False) W W1) : US w base rg rb bx e s f W1 B m d L rest :=
  h.turn (hm.mono (fun _ _ h => h.elim)) (h.rd.keep hm)
/-- One record more: the row has grown, the batch tells of it. -/
theorem US.push (h : US w base rg rb bx e s f W B m d L rest) {y : RcD} (hyo : y.o.Own W base) (hyv : y.v.Own W base) {B' : Option Addr} {d' : Nat}
    (hrow : OwN W1 base 47 14 B' (m + 1) d' (recsC L ++ recsC [y])) (hg : W.grownBy W1 (blkOf B)) :
    US w base rg rb bx e s f (W1.setCell ⟨bx, 3, none⟩ (.slice B' (m + 1) d')) B' (m + 1) d' (L ++ [y]) rest := by
  have l1 := h.l1; have l2 := h.l2; have l3 := h.l3; have l4 := h.l4
  have hB : ∀ k, blkOf B = some k → base ≤ k := fun k hk => (h.row.lt k hk).1
  have hm : Mod (fun k => blkOf B = some k) W W1 := (Mod.refl _ W).grown hg (fun k e _ => e)
  have hm2 : Mod (fun k => k = bx) W1 (W1.setCell ⟨bx, 3, none⟩ (.slice B' (m + 1) d')) := (Mod.refl (fun k => k = bx) W1).setCell (p := ⟨bx, 3, none⟩) (fun _ => rfl) _
  have hown : ∀ z : VlD, z.Own W base → z.Own (W1.setCell ⟨bx, 3, none⟩ (.slice B' (m + 1) d')) base := fun z hz => by
    have h1 : z.Own W1 base := OwV.mod hz hm (fun k hk e => by
      obtain ⟨cs, hc⟩ := h.row.type_ e
      exact ne_of_type hz hc (by decide) k hk rfl)
    exact OwV.mod h1 hm2 (fun k hk e => by have := (OwV.lt h1 k hk).1; omega)
  have hbx : BtD.In W1 ⟨e, s, f, B, m, d, L⟩ bx := h.box.mod hm (fun e => by have := hB _ e; omega)
  refine ⟨(h.rd.mod hm (fun e => by have := hB _ e; omega) (fun e => by have := hB _ e; omega)).far hm2 (by omega) (by omega), hbx.set3 B' (m + 1) d' (L ++ [y]), (h.res.mod hm (fun e => by have := hB _ e; omega)).mod hm2 (by omega), ?_, fun z hz => ?_, (h.old.trans hm (fun k hk e => by have := hB _ e; omega)).trans hm2 (fun k hk e => by omega), h.l1, h.l2, h.l3, h.l4, Nat.le_trans (Nat.le_trans h.l5 hm.size) hm2.size⟩
  · rw [recsC_append]
    exact hrow.mod hm2 (fun k hk e => by have := (hrow.lt k hk).1; omega)
  · rcases List.mem_append.1 hz with hz | hz
    · exact ⟨hown _ (h.own z hz).1, hown _ (h.own z hz).2⟩
    · obtain rfl : z = y := by simpa using hz
      exact ⟨hown _ hyo, hown _ hyv⟩
end
end Go.Proofs.YtnbamljaiahmdaaGreat

namespace Go.Proofs.YtnbamljaiahmdaaGreat
open Go Go.RowKit Go.Shelf

/-- The result is told to be none. -/
theorem un_none {w V : World} (hz : BtD.zero.In V w.heap.size) (ho : Mod (fun _ => False) w V) : ∃ V', stBat V w.heap.size BtD.zero = V' ∧ BtD.zero.In V' w.heap.size ∧ Mod (fun _ => False) w V' :=
  ⟨_, rfl, stBat_in hz _, ho.trans (stBat_mod _ _ _) (fun k hk e => by omega)⟩

set_option maxRecDepth 100000 in
set_option maxHeartbeats 4000000 in
theorem unpack_ok (w : World) (A : Option Addr) (n c : Nat) (xs : List UInt8) (h : Sl w A n c xs) :
    Calls Tryz.prog 64 #[.slice A n c] w fun e w' => UnAns w w' xs e (unpackM xs) ∧ Mod (fun _ => False) w w' := by
  have hxl := h.len
  obtain ⟨wA, hwA⟩ : ∃ wA, w.alloc (.cells BtD.zero.cells 68) = wA := ⟨_, rfl⟩
  have hmA : Mod (fun _ => False) w wA := by rw [← hwA]; exact (Mod.refl _ w).alloc _
  have hZ : BtD.zero.In wA w.heap.size := by rw [← hwA]; exact BtD.In.new w BtD.zero
  have hsA : wA.heap.size = w.heap.size + 1 := by rw [← hwA]; exact World.size_alloc _ _
  have HwA := Lib.hid hwA
  have HZ := Lib.hid hZ
  have HmA := Lib.hid hmA
  have HsA := Lib.hid hsA
  have Hxl := Lib.hid hxl
  by_cases hbad : n < 11 ∨ 248 < n
  · have Hu : Hid (unpackM xs = none) := by show _ = _; unfold unpackM; rw [if_pos (by rw [hxl]; exact hbad)]
    have r0 := hZ.c0
    have r1 := hZ.c1
    have r2 := hZ.c2
    have r3 := hZ.c3
    have z0 := hZ.fz 0
    have z1 := hZ.fz 1
    have z2 := hZ.fz 2
    have z3 := hZ.fz 3
    clear hxl h hwA hmA hZ hsA
    by_cases hlo : n < 11
    · have hd : decide ((n : Int) < 11) = true := by simp; omega
      clear hbad hlo
      go_enter Tryz.func64, Tryz.ntmps64
      go_wp2_with fail
      go_wp2
      rw [show w.alloc (.cells #[.int .i64 0, .int .i64 0, .int .i64 0, .slice none 0 0] 68) = wA from HwA.out]
      clear z0 z1 z2 z3
      refine bodyPost_ret (v := .tuple #[.agg BtD.zero.cells, .int .i64 7]) (by simp [results, Tryz.results64, go_sem, r0, r1, r2, r3]) rfl ?_
      exact ⟨by rw [Hu.out]; rfl, HmA.out⟩
    · have hd : decide ((n : Int) < 11) = false := by simp; omega
      have hd2 : decide ((248 : Int) < n) = true := by simp; omega
      clear hbad hlo
      go_enter Tryz.func64, Tryz.ntmps64
      go_wp2_with fail
      go_wp2
      rw [show w.alloc (.cells #[.int .i64 0, .int .i64 0, .int .i64 0, .slice none 0 0] 68) = wA from HwA.out]
      clear z0 z1 z2 z3
      refine bodyPost_ret (v := .tuple #[.agg BtD.zero.cells, .int .i64 7]) (by simp [results, Tryz.results64, go_sem, r0, r1, r2, r3]) rfl ?_
      exact ⟨by rw [Hu.out]; rfl, HmA.out⟩
  have hd : decide ((n : Int) < 11) = false := by simp; omega
  have hd2 : decide ((248 : Int) < n) = false := by simp; omega
  have Hn : Hid (11 ≤ n ∧ n ≤ 248) := by show _ ∧ _; omega
  have HR := Lib.hid (newReader_ok wA A n c xs (h.mod hmA (fun _ _ _ => id)) (by omega))
  have Hbad : Hid (¬ (xs.length < 11 ∨ 248 < xs.length)) := by rw [hxl]; exact hbad
  clear hbad h hxl hwA hmA hZ hsA
  go_enter Tryz.func64, Tryz.ntmps64
  go_wp2_with fail
  rw [show w.alloc (.cells #[.int .i64 0, .int .i64 0, .int .i64 0, .slice none 0 0] 68) = wA from HwA.out]
  clear HwA
  refine HR.out.mono ?_
  rintro e w1 ⟨rfl, hr1, hs1, hm1⟩
  rw [HsA.out] at hr1 hs1
  rw [HsA.out]
  have hrd1 : Rdr w1 (w.heap.size + 1 + 1) (w.heap.size + 1) xs := ⟨⟨_, n, n, hr1, by have := Hn.out; unfold maxLen; omega, rfl⟩, by omega⟩
  have HH := Lib.hid (readHead_ok w1 _ _ xs hrd1 (by omega) (by rw [Hxl.out]; exact Hn.out.1))
  have HZ1 := Lib.hid (HZ.out.keep hm1)
  have Hm1 := Lib.hid (HmA.out.trans hm1 (fun _ _ h => h))
  have Hs1 := Lib.hid hs1
  clear hd hd2 hr1 hs1 hm1 hrd1 HZ HmA HsA HR
  go_wp2_with fail
  refine HH.out.mono ?_
  rintro e w2 ⟨rfl, hrd2, hm2⟩
  obtain ⟨w3, hw3⟩ : ∃ w3, w2.alloc (.cells #[.int .i64 (hdE xs), .int .i64 (hdS xs), .int .i64 (hdF xs), .slice none 0 0] 68) = w3 := ⟨_, rfl⟩
  have hm3 : Mod (fun _ => False) w2 w3 := by rw [← hw3]; exact (Mod.refl _ w2).alloc _
  have hX3 : BtD.In w3 ⟨hdE xs, hdS xs, hdF xs, none, 0, 0, []⟩ w2.heap.size := by rw [← hw3]; exact BtD.In.new w2 ⟨hdE xs, hdS xs, hdF xs, none, 0, 0, []⟩
  have hs3 : w3.heap.size = w2.heap.size + 1 := by rw [← hw3]; exact World.size_alloc _ _
  have HX3 := Lib.hid hX3
  have HM := Lib.hid (mayHead_ok w3 ⟨hdE xs, hdS xs, hdF xs, none, 0, 0, []⟩)
  have hZ2 := HZ1.out.mod hm2 (by omega)
  have HZ3 := Lib.hid (hZ2.keep hm3)
  have Hm3 : Hid (Mod (fun _ => False) w w3) := (Hm1.out.trans hm2 (fun k hk e => by omega)).trans hm3 (fun _ _ h => h)
  have Hrd3 := Lib.hid (hrd2.keep hm3)
  have Hs3 := Lib.hid hs3
  have Hs2 : Hid (w.heap.size + 3 ≤ w2.heap.size) := by have := hm2.size; have := Hs1.out; show _ ≤ _; omega
  have Hw3 := Lib.hid hw3
  clear hrd2 hm2 hm3 hX3 hs3 hZ2 hw3 HH HZ1 Hm1 Hs1
  go_wp2_with fail
  rw [Hw3.out]
  clear Hw3
  refine HM.out.mono ?_
  rintro e w4 ⟨rfl, hm4⟩
  have HX4 := Lib.hid (HX3.out.keep hm4)
  have HZ4 := Lib.hid (HZ3.out.keep hm4)
  have Hm4 := Lib.hid (Hm3.out.trans hm4 (fun _ _ h => h))
  have Hrd4 := Lib.hid (Hrd3.out.keep hm4)
  have Hs4 : Hid (w2.heap.size < w4.heap.size) := by have := hm4.size; have := Hs3.out; show _ < _; omega
  clear hm4 HM HX3 HZ3 Hm3 Hrd3 Hs3
  obtain ⟨N, hN⟩ : ∃ N, hdN xs = N := ⟨_, rfl⟩
  have HN := Lib.hid hN
  rw [hN]
  clear hN
  have r0 := HZ4.out.c0
  have r1 := HZ4.out.c1
  have r2 := HZ4.out.c2
  have r3 := HZ4.out.c3
  have z0 := HZ4.out.fz 0
  have z1 := HZ4.out.fz 1
  have z2 := HZ4.out.fz 2
  have z3 := HZ4.out.fz 3
  cases hh : headOk (hdE xs) (hdS xs) (hdF xs) with
  | false =>
    have Hu : Hid (unpackM xs = none) := by show _ = _; unfold unpackM; rw [if_neg Hbad.out, hh]; rfl
    clear hh
    go_wp2
    change bodyPost _ _ _ _ _ (stBat w4 w.heap.size BtD.zero)
    obtain ⟨V, hV, hzV, hoV⟩ := un_none HZ4.out Hm4.out
    rw [hV]
    clear hV
    have s0 := hzV.c0
    have s1 := hzV.c1
    have s2 := hzV.c2
    have s3 := hzV.c3
    have HoV := Lib.hid hoV
    clear hzV hoV r0 r1 r2 r3 z0 z1 z2 z3
    refine bodyPost_ret (v := .tuple #[.agg BtD.zero.cells, .int .i64 7]) (by simp [results, Tryz.results64, go_sem, s0, s1, s2, s3]) rfl ?_
    exact ⟨by rw [Hu.out]; rfl, HoV.out⟩
  | true =>
  by_cases h60 : 60 < N
  · have Hu : Hid (unpackM xs = none) := by show _ = _; unfold unpackM; rw [if_neg Hbad.out, hh, HN.out, decide_eq_false (by omega : ¬ N ≤ 60)]; rfl
    have hd : decide ((60 : Int) < N) = true := by simp; omega
    clear hh h60
    go_wp2
    change bodyPost _ _ _ _ _ (stBat w4 w.heap.size BtD.zero)
    obtain ⟨V, hV, hzV, hoV⟩ := un_none HZ4.out Hm4.out
    rw [hV]
    clear hV
    have s0 := hzV.c0
    have s1 := hzV.c1
    have s2 := hzV.c2
    have s3 := hzV.c3
    have HoV := Lib.hid hoV
    clear hzV hoV r0 r1 r2 r3 z0 z1 z2 z3
    refine bodyPost_ret (v := .tuple #[.agg BtD.zero.cells, .int .i64 7]) (by simp [results, Tryz.results64, go_sem, s0, s1, s2, s3]) rfl ?_
    exact ⟨by rw [Hu.out]; rfl, HoV.out⟩
  have hd : decide ((60 : Int) < N) = false := by simp; omega
  have Hun : Hid (unpackM xs = match recsJ (xs.drop 11) N with | none => none | some (l, rest) => if rest.all (· == 0) then some l else none) := by
    show _ = _
    unfold unpackM
    rw [if_neg Hbad.out, hh, HN.out, decide_eq_true (by omega : N ≤ 60)]
    rfl
  have hN60 : (N : Int) ≤ 60 := by omega
  have hus : US w w4.heap.size (w.heap.size + 1 + 1) (w.heap.size + 1) w2.heap.size (hdE xs) (hdS xs) (hdF xs) w4 none 0 0 [] (xs.drop 11) :=
    ⟨Hrd4.out, HX4.out, HZ4.out, OwN.nil _ _ _ _, by simp, Hm4.out, by omega, by omega, by have := Hs2.out; omega, Hs4.out, Nat.le_refl _⟩
  have Hus := Lib.hid hus
  clear hh h60 hus HX4 HZ4 Hm4 Hrd4 r0 r1 r2 r3 z0 z1 z2 z3
  go_wp2_with fail
  go_loopw [34] (fun i wr => ∃ (j m d : Nat) (B : Option Addr) (L : List RcD) (rest : List UInt8), j ≤ N ∧ i = .int .i64 j ∧ recsJ (xs.drop 11) j = some (L.map RcD.p, rest) ∧ m = j ∧ US w w4.heap.size (w.heap.size + 1 + 1) (w.heap.size + 1) w2.heap.size (hdE xs) (hdS xs) (hdF xs) wr B m d L rest) (fun i _ => N - (intOf i).toNat)
  case atStart => exact ⟨0, 0, 0, none, [], xs.drop 11, by omega, rfl, rfl, rfl, Hus.out⟩
  case round =>
    obtain ⟨j, m, d, B, L, rest, hj, rfl, hrec, hmj, hS⟩ := hrel
    have Hrec := Lib.hid hrec
    have HS := Lib.hid hS
    have Hmj := Lib.hid hmj
    have hm60 : (m : Int) ≤ 60 := by omega
    clear hrec hS hmj Hus
    by_cases hlt : j < N
    · cases hr : recR rest with
      | none =>
        have Hu : Hid (unpackM xs = none) := by show _ = _; rw [Hun.out, recsJ_no Hrec.out hr N hlt]
        have Hno := Lib.hid (readRec_no wr _ _ rest HS.out.rd hr)
        clear hr
        go_wp2_with fail
        refine Hno.out.mono ?_
        rintro e w5 ⟨y, er, rfl, her, hm5⟩
        have hb : (er != 0) = true := by simpa using her
        have hma : Mod (fun _ => False) w5 (w5.alloc (.cells y.cells 47)) := (Mod.refl _ w5).alloc _
        have hZ6 := (HS.out.res.mod hm5 (by omega)).keep hma
        have hm6 : Mod (fun _ => False) w (w5.alloc (.cells y.cells 47)) := (HS.out.old.trans hm5 (fun k hk e => by omega)).trans hma (fun _ _ h => h)
        have r0 := hZ6.c0
        have r1 := hZ6.c1
        have r2 := hZ6.c2
        have r3 := hZ6.c3
        have z0 := hZ6.fz 0
        have z1 := hZ6.fz 1
        have z2 := hZ6.fz 2
        have z3 := hZ6.fz 3
        have HZ6 := Lib.hid hZ6
        have Hm6 := Lib.hid hm6
        clear her hm5 hma hZ6 hm6 Hno
        obtain ⟨w6, hw6⟩ : ∃ w6, w5.alloc (.cells y.cells 47) = w6 := ⟨_, rfl⟩
        rw [hw6] at r0 r1 r2 r3 z0 z1 z2 z3 HZ6 Hm6
        go_wp2
        change bodyPost _ _ _ _ _ (stBat w6 w.heap.size BtD.zero)
        obtain ⟨V, hV, hzV, hoV⟩ := un_none HZ6.out Hm6.out
        rw [hV]
        clear hV
        have s0 := hzV.c0
        have s1 := hzV.c1
        have s2 := hzV.c2
        have s3 := hzV.c3
        have HoV := Lib.hid hoV
        clear hzV hoV r0 r1 r2 r3 z0 z1 z2 z3
        refine bodyPost_ret (v := .tuple #[.agg BtD.zero.cells, .int .i64 7]) (by simp [results, Tryz.results64, go_sem, s0, s1, s2, s3]) rfl ?_
        exact ⟨by rw [Hu.out]; rfl, HoV.out⟩
      | some rr =>
        obtain ⟨r, rest'⟩ := rr
        have Hrec2 := Lib.hid (recsJ_yes Hrec.out hr)
        have Hyes := Lib.hid (readRec_yes wr _ _ rest HS.out.rd (by have := HS.out.l1; have := HS.out.l2; have := HS.out.rd.lt; omega) r rest' hr)
        clear hr
        go_wp2_with fail
        refine Hyes.out.mono ?_
        rintro e w5 ⟨y, rfl, hy, hyo, hyv, hrd5, hm5⟩
        have hS5 := HS.out.turn hm5 hrd5
        have hyo5 := Own.rebase hyo HS.out.l5
        have hyv5 := Own.rebase hyv HS.out.l5
        obtain ⟨w6, hw6⟩ : ∃ w6, w5.alloc (.cells y.cells 47) = w6 := ⟨_, rfl⟩
        have hma : Mod (fun _ => False) w5 w6 := by rw [← hw6]; exact (Mod.refl _ w5).alloc _
        have hI6 : y.In w6 w5.heap.size := by rw [← hw6]; exact RcD.In.new w5 y
        have hS6 := hS5.keep hma
        have hyo6 := OwV.mod hyo5 hma (fun _ _ => id)
        have hyv6 := OwV.mod hyv5 hma (fun _ _ => id)
        have x3 := hS6.box.c3
        have hmb : Mod (fun _ => False) w6 (w6.alloc (.cells y.cells 47)) := (Mod.refl _ w6).alloc _
        have hS7 := hS6.keep hmb
        have HS7 := Lib.hid hS7
        have Hyo7 : Hid (y.o.Own (w6.alloc (.cells y.cells 47)) w4.heap.size) := OwV.mod hyo6 hmb (fun _ _ => id)
        have Hyv7 : Hid (y.v.Own (w6.alloc (.cells y.cells 47)) w4.heap.size) := OwV.mod hyv6 hmb (fun _ _ => id)
        have hown := hS7.row
        have hsrc := SrcN.rec1 w6 y 47
        have hl5 := hS7.l5
        have Hy := Lib.hid hy
        have p0 := hI6.kind
        have p1 := hI6.num (i := 1) (by omega) (by omega)
        have p2 := hI6.num (i := 2) (by omega) (by omega)
        have p3 := hI6.num (i := 3) (by omega) (by omega)
        have p4 := hI6.num (i := 4) (by omega) (by omega)
        have p5 := hI6.num (i := 5) (by omega) (by omega)
        have p6 := hI6.num (i := 6) (by omega) (by omega)
        have p7 := hI6.num (i := 7) (by omega) (by omega)
        have p8 := hI6.num (i := 8) (by omega) (by omega)
        have p9 := hI6.num (i := 9) (by omega) (by omega)
        have p10 := hI6.c10
        have p11 := hI6.c11
        have p12 := hI6.c12
        have p13 := hI6.c13
        clear hy hyo hyv hrd5 hm5 hS5 hyo5 hyv5 hma hI6 hS6 hyo6 hyv6 hmb hS7 Hyes
        go_wp2_with (at_builtin; refine wpList_appN (.tmp 45) (.tmp 47) recElem rfl rfl rfl rfl hown hsrc (by omega) (by unfold maxLen; omega) hl5 ?_)
        intro B8 d8 w8 hown8 hg8 hat8
        have h9 := HS7.out.push Hyo7.out Hyv7.out hown8 hg8
        have hB : ∀ k, blkOf B = some k → w4.heap.size ≤ k := fun k hk => (hown.lt k hk).1
        have hx8 : BtD.In w8 ⟨hdE xs, hdS xs, hdF xs, B, m, d, L⟩ w2.heap.size := (hg8.block _ HS7.out.box.lt (fun e => by have := hB _ e.symm; have := Hs4.out; omega)).trans HS7.out.box
        have y3 := hx8.c3
        have yz := hx8.fz 3
        have H9 := Lib.hid h9
        clear hw6 h9 hB hx8 hown8 hg8 hat8 hown hsrc hl5 x3 HS7 Hyo7 Hyv7 HS p0 p1 p2 p3 p4 p5 p6 p7 p8 p9 p10 p11 p12 p13
        go_wp2
        go_roundw
        case rel => exact ⟨j + 1, m + 1, d8, B8, L ++ [y], rest', by omega, by go_num, by rw [Hrec2.out, List.map_append, ← Hy.out]; rfl, by rw [Hmj.out], H9.out⟩
        case measure => simp [intOf]; omega
    · have Hj : Hid (j = N) := by show _ = _; omega
      have hrl : rest.length ≤ 1000 := by
        have h1 := recsJ_len Hrec.out
        have h2 := Hxl.out
        have h3 := Hn.out
        rw [List.length_drop] at h1
        omega
      have HO := Lib.hid (onlyZeros_ok wr _ _ rest HS.out.rd hrl)
      have Hu2 : Hid (unpackM xs = if rest.all (· == 0) then some (L.map RcD.p) else none) := by show _ = _; rw [Hun.out, ← Hj.out, Hrec.out]
      clear hrl
      go_wp2_with fail
      refine HO.out.mono ?_
      rintro e w5 ⟨rfl, hm5⟩
      have hZ5 := HS.out.res.mod hm5 (by omega)
      have HZ5 := Lib.hid hZ5
      have Hm5 : Hid (Mod (fun _ => False) w w5) := HS.out.old.trans hm5 (fun k hk e => by omega)
      have hb5 := HS.out.box.mod hm5 (by have := HS.out.l3; omega)
      have Hrow5 : Hid (OwN w5 w4.heap.size 47 14 B m d (recsC L)) := HS.out.row.mod hm5 (fun k hk e => by have := (HS.out.row.lt k hk).1; have := HS.out.l3; have := HS.out.l4; omega)
      have Hown5 : Hid (∀ y ∈ L, y.o.Own w5 w4.heap.size ∧ y.v.Own w5 w4.heap.size) := fun y hy => by
        obtain ⟨a, b⟩ := HS.out.own y hy
        exact ⟨OwV.mod a hm5 (fun k hk e => by have := (OwV.lt a k hk).1; have := HS.out.l3; have := HS.out.l4; omega), OwV.mod b hm5 (fun k hk e => by have := (OwV.lt b k hk).1; have := HS.out.l3; have := HS.out.l4; omega)⟩
      have x0 := hb5.c0
      have x1 := hb5.c1
      have x2 := hb5.c2
      have x3 := hb5.c3
      have r0 := hZ5.c0
      have r1 := hZ5.c1
      have r2 := hZ5.c2
      have r3 := hZ5.c3
      have z0 := hZ5.fz 0
      have z1 := hZ5.fz 1
      have z2 := hZ5.fz 2
      have z3 := hZ5.fz 3
      clear hZ5 hm5 hb5 HO
      cases hz : rest.all (· == 0) with
      | false =>
        have Hu : Hid (unpackM xs = none) := by show _ = _; rw [Hu2.out, hz]; rfl
        clear hz
        go_wp2
        change bodyPost _ _ _ _ _ (stBat w5 w.heap.size BtD.zero)
        obtain ⟨V, hV, hzV, hoV⟩ := un_none HZ5.out Hm5.out
        rw [hV]
        clear hV
        have s0 := hzV.c0
        have s1 := hzV.c1
        have s2 := hzV.c2
        have s3 := hzV.c3
        have HoV := Lib.hid hoV
        clear hzV hoV r0 r1 r2 r3 z0 z1 z2 z3
        refine bodyPost_ret (v := .tuple #[.agg BtD.zero.cells, .int .i64 7]) (by simp [results, Tryz.results64, go_sem, s0, s1, s2, s3]) rfl ?_
        exact ⟨by rw [Hu.out]; rfl, HoV.out⟩
      | true =>
        have Hu : Hid (unpackM xs = some (L.map RcD.p)) := by show _ = _; rw [Hu2.out, hz]; rfl
        have Hlo : Hid (w.heap.size < w4.heap.size) := by have := HS.out.l1; have := HS.out.l2; have := HS.out.l3; have := HS.out.l4; show _ < _; omega
        clear hz
        go_wp2
        change bodyPost _ _ _ _ _ (stBat w5 w.heap.size ⟨hdE xs, hdS xs, hdF xs, B, m, d, L⟩)
        have h6 := stBat_in HZ5.out ⟨hdE xs, hdS xs, hdF xs, B, m, d, L⟩
        have hm6 := stBat_mod w5 w.heap.size ⟨hdE xs, hdS xs, hdF xs, B, m, d, L⟩
        have Hm6 : Hid (Mod (fun _ => False) w (stBat w5 w.heap.size ⟨hdE xs, hdS xs, hdF xs, B, m, d, L⟩)) := Hm5.out.trans hm6 (fun k hk e => by omega)
        have Hrow6 := Lib.hid ((Hrow5.out.mod hm6 (fun k hk e => by have := (Hrow5.out.lt k hk).1; have := Hlo.out; omega)).rebase (Nat.le_of_lt Hlo.out))
        have Hown6 : Hid (∀ y ∈ L, y.o.Own (stBat w5 w.heap.size ⟨hdE xs, hdS xs, hdF xs, B, m, d, L⟩) w.heap.size ∧ y.v.Own (stBat w5 w.heap.size ⟨hdE xs, hdS xs, hdF xs, B, m, d, L⟩) w.heap.size) := fun y hy => by
          obtain ⟨a, b⟩ := Hown5.out y hy
          exact ⟨Own.rebase (OwV.mod a hm6 (fun k hk e => by have := (OwV.lt a k hk).1; have := Hlo.out; omega)) (Nat.le_of_lt Hlo.out), Own.rebase (OwV.mod b hm6 (fun k hk e => by have := (OwV.lt b k hk).1; have := Hlo.out; omega)) (Nat.le_of_lt Hlo.out)⟩
        generalize stBat w5 w.heap.size ⟨hdE xs, hdS xs, hdF xs, B, m, d, L⟩ = w6 at *
        have s0 := h6.c0
        have s1 := h6.c1
        have s2 := h6.c2
        have s3 := h6.c3
        clear x0 x1 x2 x3 r0 r1 r2 r3 z0 z1 z2 z3 h6 hm6
        refine bodyPost_ret (v := .tuple #[.agg #[.int .i64 (hdE xs), .int .i64 (hdS xs), .int .i64 (hdF xs), .slice B m d], .int .i64 0]) (by simp [results, Tryz.results64, go_sem, s0, s1, s2, s3]) rfl ?_
        exact ⟨by rw [Hu.out]; exact ⟨B, m, d, L, rfl, Hrow6.out, Hown6.out, rfl⟩, Hm6.out⟩
end Go.Proofs.YtnbamljaiahmdaaGreat

namespace Go.Proofs.YtnbamljaiahmdaaGreat
open Go Go.RowKit

theorem hd_bytes {e s f : Int} {n : Nat} (h : headOk e s f = true) (hn : n ≤ 255) (ys : List UInt8) :
    hdE (headB e s f n ++ ys) = e ∧ hdS (headB e s f n ++ ys) = s ∧ hdF (headB e s f n ++ ys) = f ∧ hdN (headB e s f n ++ ys) = n ∧ (headB e s f n ++ ys).drop 11 = ys := by
  obtain ⟨e0, e1, s0, s1, f0, f1⟩ := headOk_bd h
  have l1 := le_length 2 e.toNat
  have l2 := le_length 4 s.toNat
  have l3 := le_length 4 f.toNat
  have l4 := le_length 1 n
  have u1 := unle_le 2 e.toNat (by omega)
  have u2 := unle_le 4 s.toNat (by omega)
  have u3 := unle_le 4 f.toNat (by omega)
  have u4 := unle_le 1 n (by omega)
  have hh : headB e s f n ++ ys = le 2 e.toNat ++ (le 4 s.toNat ++ (le 4 f.toNat ++ (le 1 n ++ ys))) := by simp [headB]
  rw [hh]
  generalize le 2 e.toNat = a at *
  generalize le 4 s.toNat = b at *
  generalize le 4 f.toNat = c at *
  generalize le 1 n = d at *
  have d2 : (a ++ (b ++ (c ++ (d ++ ys)))).drop 2 = b ++ (c ++ (d ++ ys)) := List.drop_left' l1
  have d6 : (a ++ (b ++ (c ++ (d ++ ys)))).drop 6 = c ++ (d ++ ys) := by
    rw [show (6 : Nat) = 2 + 4 from rfl, ← List.drop_drop, d2]
    exact List.drop_left' l2
  have d10 : (a ++ (b ++ (c ++ (d ++ ys)))).drop 10 = d ++ ys := by
    rw [show (10 : Nat) = 6 + 4 from rfl, ← List.drop_drop, d6]
    exact List.drop_left' l3
  have d11 : (a ++ (b ++ (c ++ (d ++ ys)))).drop 11 = ys := by
    rw [show (11 : Nat) = 10 + 1 from rfl, ← List.drop_drop, d10]
    exact List.drop_left' l4
  refine ⟨?_, ?_, ?_, ?_, d11⟩
  · unfold hdE
    rw [List.take_left' l1, u1]
    omega
  · unfold hdS
    rw [d2, List.take_left' l2, u2]
    omega
  · unfold hdF
    rw [d6, List.take_left' l3, u3]
    omega
  · unfold hdN
    rw [d10, List.take_left' l4, u4]

def dec2 (x : RcD) : Rc := (decode (encB x)).2
theorem recR_lenc {w : World} {x : RcD} (hx : x.At w) (h : mayB x = true) (rest : List UInt8) : recR (lenc x ++ rest) = some (dec2 x, rest) := by
  have hl := (encB_size hx h).2
  obtain ⟨r, hr, _⟩ := dec_enc hx h
  have hb : (UInt8.ofNat (encB x).length).toNat = (encB x).length := by
    rw [UInt8.toNat_ofNat']
    exact Nat.mod_eq_of_lt (by omega)
  have ht : takeM (lenc x ++ rest) = some (encB x, rest) := by
    show takeM (UInt8.ofNat (encB x).length :: (encB x ++ rest)) = _
    rw [takeM_cons, hb, if_neg (by rw [List.length_append]; omega), List.take_left' rfl, List.drop_left' rfl]
  unfold recR
  rw [ht]
  show (if (decode (encB x)).1 = 0 then some ((decode (encB x)).2, rest) else none) = _
  rw [if_pos (by rw [hr])]
  rfl
theorem recsJ_recs {w : World} {l : List RcD} (hx : ∀ x ∈ l, x.At w) (h : l.all mayB = true) (zs : List UInt8) : ∀ j, j ≤ l.length → recsJ (recsB l ++ zs) j = some ((l.take j).map dec2, recsB (l.drop j) ++ zs)
  | 0, _ => by simp [recsJ]
  | j + 1, hj => by
    have ih := recsJ_recs hx h zs j (by omega)
    have hd : l.drop j = l[j]'(by omega) :: l.drop (j + 1) := List.drop_eq_getElem_cons (by omega)
    have hm : l[j]'(by omega) ∈ l := List.getElem_mem _
    have hr : recR (recsB (l.drop j) ++ zs) = some (dec2 (l[j]'(by omega)), recsB (l.drop (j + 1)) ++ zs) := by
      rw [hd]
      show recR ((lenc _ ++ recsB (l.drop (j + 1))) ++ zs) = _
      rw [List.append_assoc]
      exact recR_lenc (hx _ hm) (List.all_eq_true.1 h _ hm) _
    rw [recsJ_yes ih hr, List.take_succ_eq_append_getElem (by omega), List.map_append]
    rfl

/-- What was packed is unpacked. -/
theorem unpack_pack {w : World} {e s f : Int} {l : List RcD} (hx : ∀ x ∈ l, x.At w) (h : packE e s f l = 0) (z : Nat) (hz : (packB e s f l).length + z ≤ 248) :
    unpackM (packB e s f l ++ List.replicate z 0) = some (l.map dec2) ∧ hdE (packB e s f l ++ List.replicate z 0) = e ∧ hdS (packB e s f l ++ List.replicate z 0) = s ∧ hdF (packB e s f l ++ List.replicate z 0) = f := by
  obtain ⟨h1, h2, h3, h4⟩ := packE_zero h
  have hpl : (packB e s f l).length = 11 + (recsB l).length := by unfold packB; rw [List.length_append, headB_len]
  have hp : packB e s f l ++ List.replicate z 0 = headB e s f l.length ++ (recsB l ++ List.replicate z 0) := by unfold packB; rw [List.append_assoc]
  have hlen : (packB e s f l ++ List.replicate z (0 : UInt8)).length = (packB e s f l).length + z := by rw [List.length_append, List.length_replicate]
  obtain ⟨a1, a2, a3, a4, a5⟩ := hd_bytes h1 (by omega : l.length ≤ 255) (recsB l ++ List.replicate z 0)
  refine ⟨?_, by rw [hp]; exact a1, by rw [hp]; exact a2, by rw [hp]; exact a3⟩
  unfold unpackM
  rw [if_neg (by rw [hlen]; omega), hp, a1, a2, a3, a4, a5, h1, decide_eq_true (by omega : l.length ≤ 60), if_neg (by simp), recsJ_recs hx h2 _ l.length (Nat.le_refl _), List.take_length, List.drop_length]
  show (if (recsB [] ++ List.replicate z 0).all (· == 0) then some (l.map dec2) else none) = _
  rw [if_pos (by simp [recsB])]
end Go.Proofs.YtnbamljaiahmdaaGreat
