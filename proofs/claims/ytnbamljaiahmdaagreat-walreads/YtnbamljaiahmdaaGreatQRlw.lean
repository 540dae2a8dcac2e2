/-
  WalReads: what is read of any ring; mathematics, the document's May, wal.Read where New refuses, the argument [][]byte.
  WalReads: its walk.
-/
import Derived.Test.YtnbamljaiahmdaaGreatQRrdC
import Derived.Test.YtnbamljaiahmdaaGreatQSam
import Derived.Test.YtnbamljaiahmdaaGreatQW3
import Derived.Test.YtnbamljaiahmdaaGreatQO
import Derived.Lib.SmallJoins
import Derived.Laws.ResultCell
import Derived.Test.YtnbamljaiahmdaaGreatQRrd
namespace Go.Proofs.YtnbamljaiahmdaaGreat
open Go Go.RowKit Go.Shelf

/-! ### Mathematics -/
theorem recsJ_mem {xs : List UInt8} : ∀ {j : Nat} {l : List Rc} {ys : List UInt8}, recsJ xs j = some (l, ys) → ∀ r ∈ l, ∃ us vs, recR us = some (r, vs)
  | 0, l, ys, h, r, hr => by
    simp only [recsJ] at h
    injection h with h
    injection h with h _
    subst h
    exact absurd hr (by simp)
  | j + 1, l, ys, h, r, hr => by
    cases hj : recsJ xs j with
    | none => simp [recsJ, hj] at h
    | some p =>
      obtain ⟨l1, y1⟩ := p
      cases hq : recR y1 with
      | none => have := recsJ_no hj hq (j + 1) (by omega); rw [this] at h; cases h
      | some q =>
        obtain ⟨r1, z⟩ := q
        rw [recsJ_yes hj hq] at h
        injection h with h
        injection h with h _
        subst h
        rcases List.mem_append.1 hr with h1 | h1
        · exact recsJ_mem hj r h1
        · rw [List.mem_singleton.1 h1]
          exact ⟨y1, z, hq⟩
theorem unpack_mem {xs : List UInt8} {l : List Rc} (h : unpackM xs = some l) : ∀ r ∈ l, ∃ us vs, recR us = some (r, vs) := by
  unfold unpackM at h
  split at h
  · cases h
  · split at h
    · cases h
    · cases hr : recsJ (xs.drop 11) (hdN xs) with
      | none => rw [hr] at h; cases h
      | some p =>
        obtain ⟨l1, rest⟩ := p
        rw [hr] at h
        dsimp only at h
        split at h
        · injection h with h
          subst h
          exact recsJ_mem hr
        · cases h
theorem batsM_mem (R : Int → List UInt8) : ∀ (k : Nat) (q : Int) (b x : Bm), x ∈ batsM R k q b → x.l.length ≤ 60 ∧ ∀ r ∈ x.l, ∃ us vs, recR us = some (r, vs)
  | 0, _, _, _, h => by simp [batsM] at h
  | k + 1, q, b, x, h => by
    cases ha : accM R q b with
    | none => rw [batsM_end R ha] at h; simp at h
    | some y =>
      rw [batsM_go R ha] at h
      rcases List.mem_cons.1 h with h1 | h1
      · subst h1
        have hu := (batM_some (accM_some ha).1).2.2.1
        exact ⟨(unpack_head hu).2, unpack_mem hu⟩
      · exact batsM_mem R k (q + 1) y x h1
theorem rowsM_mem {x : Bm} {p : Int × Rc} (h : p ∈ rowsM x) : p.2 ∈ x.l := by
  unfold rowsM at h
  obtain ⟨i, _, hi⟩ := List.mem_filterMap.1 h
  cases hx : x.l[i]? with
  | none => rw [hx] at hi; simp at hi
  | some r =>
    rw [hx] at hi
    simp at hi
    rw [← hi]
    exact List.mem_of_getElem? hx
theorem out_mem (R : Int → List UInt8) (k : Nat) (q : Int) (b : Bm) : ∀ p ∈ outM (batsM R k q b), ∃ us vs, recR us = some (p.2, vs) := by
  intro p hp
  obtain ⟨x, hx, hpx⟩ := List.mem_flatMap.1 hp
  exact (batsM_mem R k q b x hx).2 _ (rowsM_mem hpx)
theorem out_len : ∀ (l : List Bm), (∀ x ∈ l, x.l.length ≤ 60) → (outM l).length ≤ 60 * l.length
  | [], _ => by simp [outM]
  | x :: l, h => by
    have h1 := out_len l (fun y hy => h y (List.mem_cons_of_mem _ hy))
    have h2 := h x (List.mem_cons_self ..)
    have e : outM (x :: l) = rowsM x ++ outM l := by simp [outM]
    rw [e, List.length_append, rowsM_len, List.length_cons]
    omega
/-- Two lists that were read of one ring are the same. -/
theorem read_same {w : World} {x y : List LgD} {R : Int → List UInt8} {k : Nat} {q : Int} {b : Bm} (hx : x.map LgD.p = outM (batsM R k q b)) (hy : y.map LgD.p = outM (batsM R k q b)) (ax : ∀ a ∈ x, a.r.At w) (ay : ∀ a ∈ y, a.r.At w) :
    ∀ (i : Nat) (a c : LgD), x[i]? = some a → y[i]? = some c → sameR a.r c.r = true ∧ a.a = c.a ∧ a.r.o.m ≤ 1000 ∧ a.r.v.m ≤ 1000 ∧ c.r.o.m ≤ 1000 ∧ c.r.v.m ≤ 1000 := by
  intro i a c ha hc
  have e1 : (x.map LgD.p)[i]? = some a.p := by rw [List.getElem?_map, ha]; rfl
  have e2 : (y.map LgD.p)[i]? = some c.p := by rw [List.getElem?_map, hc]; rfl
  rw [hx] at e1
  rw [hy, e1] at e2
  injection e2 with e2
  have ep : a.a = c.a ∧ a.r.p = c.r.p := by
    have e3 : (a.a, a.r.p) = (c.a, c.r.p) := e2
    injection e3 with f1 f2
    exact ⟨f1, f2⟩
  obtain ⟨us, vs, hr⟩ := out_mem R k q b _ (List.mem_of_getElem? e1)
  have hr1 : recR us = some (a.r.p, vs) := hr
  have hr2 : recR us = some (c.r.p, vs) := by rw [← ep.2]; exact hr1
  have m1 := (rec_back (ax a (List.mem_of_getElem? ha)) hr1).1
  have m2 := (rec_back (ay c (List.mem_of_getElem? hc)) hr2).1
  have s1 := may_small m1
  have s2 := may_small m2
  have hs : sameR a.r c.r = true := by
    have e3 := ep.2
    have f0 : a.r.p.k = c.r.p.k := by rw [e3]
    have f1 : a.r.p.f = c.r.p.f := by rw [e3]
    have f2 : a.r.p.o = c.r.p.o := by rw [e3]
    have f3 : a.r.p.v = c.r.p.v := by rw [e3]
    exact sameR_of f0 (fun i _ _ => congrFun f1 i) f2 f3
  exact ⟨hs, ep.1, s1.1, s1.2, s2.1, s2.2⟩
/-! ### The document's May -/
set_option maxRecDepth 100000 in
theorem rmay20 (w : World) (b n f : Int) (y : Bool) (hy : (y = true ↔ MayL 20 b n 1 f f)) :
    Calls Tryz.prog 8 #[.int .i64 20, .int .i64 b, .int .i64 n, .int .i64 1, .int .i64 f, .int .i64 f] w fun e w' => e = .returned (.bool y) ∧ w' = w := by
  by_cases h0 : b < 0
  · obtain rfl : y = false := by
      cases y with
      | false => rfl
      | true => exact absurd h0 (hy.1 rfl).b0
    have k0 : decide (b < 0) = true := by simpa using h0
    clear hy h0
    go_enter Tryz.func8, Tryz.ntmps8
    go_wp2
    go_ret
    exact ⟨rfl, rfl⟩
  have k0 : decide (b < 0) = false := by simpa using h0
  by_cases h1 : n < 2
  · obtain rfl : y = false := by
      cases y with
      | false => rfl
      | true => exact absurd h1 (hy.1 rfl).n2
    have k1 : decide (n < 2) = true := by simpa using h1
    clear hy h0 h1
    go_enter Tryz.func8, Tryz.ntmps8
    go_wp2
    go_ret
    exact ⟨rfl, rfl⟩
  have k1 : decide (n < 2) = false := by simpa using h1
  by_cases h2 : 20 < n
  · obtain rfl : y = false := by
      cases y with
      | false => rfl
      | true => exact absurd (by show ((20 : Nat) : Int) - n < b; omega) (hy.1 rfl).bn
    have k2 : decide (20 < n) = true := by simpa using h2
    clear hy h0 h1 h2
    go_enter Tryz.func8, Tryz.ntmps8
    go_wp2
    go_ret
    exact ⟨rfl, rfl⟩
  have k2 : decide (20 < n) = false := by simpa using h2
  by_cases h3 : 20 - n < b
  · obtain rfl : y = false := by
      cases y with
      | false => rfl
      | true => exact absurd (by show ((20 : Nat) : Int) - n < b; omega) (hy.1 rfl).bn
    have k3 : decide (20 - n < b) = true := by simpa using h3
    clear hy h3
    go_enter Tryz.func8, Tryz.ntmps8
    go_wp2
    go_ret
    exact ⟨rfl, rfl⟩
  have k3 : decide (20 - n < b) = false := by simpa using h3
  by_cases h4 : 0 ≤ f
  rotate_left
  · obtain rfl : y = false := by
      cases y with
      | false => rfl
      | true => exact absurd (by omega) (hy.1 rfl).s0
    have k4 : decide (0 ≤ f) = false := by simpa using h4
    clear hy h3 h4
    go_enter Tryz.func8, Tryz.ntmps8
    go_wp2
    go_ret
    exact ⟨rfl, rfl⟩
  have k4 : decide (0 ≤ f) = true := by simpa using h4
  by_cases h5 : f ≤ 16777215
  rotate_left
  · obtain rfl : y = false := by
      cases y with
      | false => rfl
      | true => exact absurd (by omega) (hy.1 rfl).nm
    have k5 : decide (f ≤ 16777215) = false := by simpa using h5
    clear hy h3 h4 h5
    go_enter Tryz.func8, Tryz.ntmps8
    go_wp2
    go_ret
    exact ⟨rfl, rfl⟩
  have k5 : decide (f ≤ 16777215) = true := by simpa using h5
  obtain rfl : y = true := hy.2 ⟨h0, h1, by show ¬ ((20 : Nat) : Int) - n < b; omega, by omega, by omega, by omega, by omega, by omega, by omega⟩
  have k6 : decide (0 ≤ n) = true := by simp; omega
  have k7 : decide (f ≤ f) = true := by simp
  clear hy
  go_enter Tryz.func8, Tryz.ntmps8
  go_wp2
  go_ret
  exact ⟨rfl, rfl⟩

/-! ### Where New refuses -/
set_option maxRecDepth 100000 in
set_option maxHeartbeats 4000000 in
theorem wread_no (w w0 : World) (x : DV) (d : Dk) (h : Dev w0 w x d) (b n from_ : Int) (bB : b < 9223372036854775808) (bb : -9223372036854775808 ≤ b) (nB : n < 9223372036854775808) (hmay : ¬ MayL d.dur.length b n 1 from_ from_) :
    Calls Tryz.prog 7 #[.pointer (some ⟨x.p, 0, none⟩), .int .i64 b, .int .i64 n, .int .i64 from_] w fun e w' => e = .returned (.tuple #[.slice none 0 0, .int .i64 0, .int .i64 0, .int .i64 1]) ∧ Mod (fun _ => False) w w' := by
  have hNew := Lib.hid (wnew_no w w0 x d h b n 1 from_ from_ bB bb nB hmay)
  clear h hmay bB bb nB
  go_enter Tryz.func7, Tryz.ntmps7
  go_wp2_with fail
  refine hNew.out.mono ?_
  rintro e w1 ⟨rfl, rfl⟩
  clear hNew
  go_wp2
  refine bodyPost_ret (v := .tuple #[.slice none 0 0, .int .i64 0, .int .i64 0, .int .i64 1]) (by simp [results, Tryz.results7, go_sem]) rfl ?_
  exact ⟨rfl, Mod.refl _ _⟩
end Go.Proofs.YtnbamljaiahmdaaGreat

namespace Go.Proofs.YtnbamljaiahmdaaGreat
open Go Go.RowKit Go.Shelf

/-- The ring that the law hands over is what the device has. -/
theorem ringAt_dev {X : List By} {N : Nat} {d : Dk} {b : Int} (hN : 0 < N) (hX : X.map By.xs = (List.range N).map (fun i : Nat => d.read (b + i))) : ringAt X N = fun q => d.read (b + q % N) := by
  funext q
  have h0 : 0 ≤ q % (N : Int) := Int.emod_nonneg _ (by omega)
  have h1 : q % (N : Int) < N := Int.emod_lt_of_pos _ (by omega)
  obtain ⟨k, hk⟩ : ∃ k : Nat, q % (N : Int) = k := ⟨(q % (N : Int)).toNat, by omega⟩
  unfold ringAt
  rw [hX, hk, Int.toNat_natCast, List.getD_eq_getElem?_getD, List.getElem?_map, List.getElem?_range (by omega)]
  rfl

/-- Slices of bytes, one behind the other, as an argument has them. -/
structure Sls (w : World) (A : Option Addr) (n c : Nat) (X : List By) : Prop where
  len : X.length = n
  cap : n ≤ c
  cells : 0 < n → ∃ b o, A = some ⟨b, o, none⟩ ∧ ∀ (i : Nat) (x : By), X[i]? = some x → w.cell? ⟨b, o + i, none⟩ = some (.slice x.A x.n x.c)
  ats : ∀ x ∈ X, Sl w x.A x.n x.c x.xs
theorem Sls.keep {w w' : World} {A : Option Addr} {n c : Nat} {X : List By} (h : Sls w A n c X) (hm : Mod (fun _ => False) w w') : Sls w' A n c X := by
  refine ⟨h.len, h.cap, fun hp => ?_, fun x hx => (h.ats x hx).mod hm (fun _ _ _ => id)⟩
  obtain ⟨b, o, hA, hc⟩ := h.cells hp
  exact ⟨b, o, hA, fun i x hx => (World.cell?_of_block (hm.block b (World.block_lt_of_cell? w _ (hc i x hx)) id)).trans (hc i x hx)⟩

open Go.ChangeShapes Go.WideShapes Go.ChangeAt in
set_option maxRecDepth 100000 in
/-- A slice of slices of bytes. -/
theorem open_slices {H : Type} {enc : TypeId × Value → H} {W : World} {base : Nat} {spare : Nat → Bool} {held : Bool} {a : Option Addr} {len cap : Nat} {d : DataW H} {p : List MemPlace} (h : DataW.Trod enc Tryz.prog W base spare held 22 (.slice a len cap) d p) : ∃ X, Sls W a len cap X := by
  obtain ⟨fuel, hf⟩ := h
  rcases Go.Deep.open_slice Tryz.underlying22 hf with ⟨hcs, _⟩ | ⟨x, l, c, m, n, D, Pl, hcs, _, hl, hm, hmm, hx, hi⟩
  · simp [Value.cells] at hcs
    obtain ⟨rfl, rfl, rfl⟩ := hcs
    exact ⟨[], rfl, Nat.le_refl _, fun h => absurd h (by omega), by simp⟩
  · simp [Value.cells] at hcs
    obtain ⟨rfl, rfl, rfl⟩ := hcs
    have hlm : len ≤ m := by rw [hmm]; split <;> omega
    have hC : Tryz.prog.cellsOf 28 = 1 := by kernel_rfl
    have each : ∀ i, i < len → ∃ q : By, (∀ b o, x = ⟨b, o, none⟩ → W.cell? ⟨b, o + i, none⟩ = some (.slice q.A q.n q.c)) ∧ (i = 0 → ∃ b o, x = ⟨b, o, none⟩) ∧ Sl W q.A q.n q.c q.xs := by
      intro i hil
      obtain ⟨cs', hc', ht'⟩ := hi i (by omega)
      rw [hC] at hc'
      obtain ⟨_, hcl, hat⟩ := World.cells?_some hc'
      obtain ⟨A, k, c, hcs'⟩ := Go.Joins.slice_form Tryz.underlying28 ht'
      subst hcs'
      obtain ⟨xs, hsl, _⟩ := open_sl Tryz.underlying28 Tryz.underlying5 (by kernel_rfl) ⟨n, ht'⟩
      refine ⟨⟨A, k, c, xs⟩, ?_, ?_, hsl⟩
      · rintro b o rfl
        have h1 := hat 0 (by omega)
        rw [Go.WideShapes.add_plain, Go.WideShapes.add_plain] at h1
        simpa using h1
      · rintro rfl
        obtain ⟨b, o, spot⟩ := x
        have h0 := hat 0 (by omega)
        have := World.cell?_spot h0
        have hs : spot = none := by simpa [Addr.add] using this
        subst hs
        exact ⟨b, o, rfl⟩
    obtain ⟨X, hll, hq⟩ := list_of (Q := fun i (q : By) => (∀ b o, x = ⟨b, o, none⟩ → W.cell? ⟨b, o + i, none⟩ = some (.slice q.A q.n q.c)) ∧ (i = 0 → ∃ b o, x = ⟨b, o, none⟩) ∧ Sl W q.A q.n q.c q.xs) len each
    refine ⟨X, hll, hl, fun hp => ?_, fun q hqm => ?_⟩
    · obtain ⟨b, o, hxx⟩ := (hq 0 X[0] (List.getElem?_eq_getElem (by omega))).2.1 rfl
      exact ⟨b, o, by rw [hxx], fun i y hy => (hq i y hy).1 b o hxx⟩
    · obtain ⟨i, hi', e⟩ := List.mem_iff_getElem.1 hqm
      subst e
      exact (hq i _ (List.getElem?_eq_getElem hi')).2.2

/-- A device that lives, of twenty sectors. -/
structure Calm20 (d : Dk) (j : Nat) : Prop where
  len : d.dur.length = 20
  dead : d.dead = false
  armed : d.armed = false
  few : d.pend.length ≤ j
theorem Calm20.write {d : Dk} {j : Nat} (h : Calm20 d j) (i : Int) (ys : List UInt8) : Calm20 (d.write i ys) (j + 1) := by
  have hs : d.stepE = 0 := by unfold Dk.stepE; rw [if_neg (by simp [h.armed])]
  have hd : d.stepD = d := by unfold Dk.stepD; rw [if_neg (by simp [h.armed])]
  by_cases hq : d.reach i = 0 ∧ ys.length = 256
  · have e : d.write i ys = { d with pend := d.pend ++ [(i.toNat, ys)] } := by
      unfold Dk.write
      rw [if_pos hq, if_pos hs]
      simp only [hd]
    rw [e]
    exact ⟨h.len, h.dead, h.armed, by show (d.pend ++ _).length ≤ _; rw [List.length_append]; have := h.few; simp; omega⟩
  · have e : d.write i ys = d := by unfold Dk.write; rw [if_neg hq]
    rw [e]
    exact ⟨h.len, h.dead, h.armed, by have := h.few; omega⟩
theorem Calm20.skip {d : Dk} {j : Nat} (h : Calm20 d j) : Calm20 d (j + 1) := ⟨h.len, h.dead, h.armed, by have := h.few; omega⟩

set_option maxRecDepth 100000 in
set_option maxHeartbeats 8000000 in
theorem wreads_walk (W : World) (A : Option Addr) (n c : Nat) (X : List By) (hX : Sls W A n c X) (b m f : Int) (hb : -9223372036854775808 ≤ b ∧ b ≤ 9223372036854775807) (hm : -9223372036854775808 ≤ m ∧ m ≤ 9223372036854775807) :
    Calls Tryz.prog 3 #[.slice A n c, .int .i64 b, .int .i64 m, .int .i64 f] W fun e w' => e = .returned (.bool true) ∧ Below W.heap.size W w' := by
  have HX := Lib.hid hX
  have Hb := Lib.hid hb
  have Hm := Lib.hid hm
  clear hX hb hm
  go_enter Tryz.func3, Tryz.ntmps3
  go_wp2_with fail
  refine (awake_ok W).mono ?_
  rintro e w3 ⟨rfl, hm3⟩
  have Hm3 := Lib.hid hm3
  clear hm3
  by_cases hn : (n : Int) ≤ 20
  rotate_left
  · have hd : decide (20 < (n : Int)) = true := by rw [decide_eq_true_eq]; omega
    clear hn
    go_wp2
    go_ret
    exact ⟨rfl, Hm3.out.below (Nat.le_refl _) (fun _ _ => id)⟩
  have Hnew := Lib.hid (dev_new w3 w3 (Mod.refl _ w3) 20 (by omega) (by omega))
  go_wp2_with fail
  refine Hnew.out.mono ?_
  rintro e w4 ⟨x4, rfl, hd4⟩
  have Hd4 := Lib.hid hd4
  have hc4 : Calm20 (Dk.fresh (List.replicate (Int.toNat 20) (fill 0))) 0 := ⟨List.length_replicate, rfl, rfl, Nat.le_refl _⟩
  have Hc4 := Lib.hid hc4
  clear hd4 hc4 Hnew
  generalize Dk.fresh (List.replicate (Int.toNat 20) (fill 0)) = d4 at *
  generalize hp : x4.p = p at *
  have Hp := Lib.hid hp
  clear hp
  go_wp2_with fail
  go_loopw [12] (fun i wr => ∃ (j : Nat) (x : DV) (d : Dk), j ≤ n ∧ i = .int .i64 j ∧ x.p = p ∧ Dev w3 wr x d ∧ Calm20 d j) (fun i _ => n - (intOf i).toNat)
  case atStart => exact ⟨0, x4, d4, by omega, rfl, Hp.out, Hd4.out, Hc4.out⟩
  case round =>
    obtain ⟨j, x, d, hj, rfl, hx, hd, hc⟩ := hrel
    have Hx := Lib.hid hx
    have Hd := Lib.hid hd
    have Hc := Lib.hid hc
    clear hx hd hc
    by_cases hlt : j < n
    · have hlt' : (j : Int) < n := by omega
      have hXr := (HX.out.keep Hm3.out).keep Hd.out.old
      obtain ⟨y, hy⟩ : ∃ y, X[j]? = some y := ⟨_, List.getElem?_eq_getElem (by rw [hXr.len]; exact hlt)⟩
      obtain ⟨gb, ob, hA, hcells⟩ := hXr.cells (by omega)
      subst hA
      have hcj := hcells j y hy
      have hsl := hXr.ats y (List.mem_of_getElem? hy)
      have hslW := HX.out.ats y (List.mem_of_getElem? hy)
      have Hsl := Lib.hid hsl
      clear hXr hy hcells hsl
      obtain ⟨yA, yn, yc, yx⟩ := y
      replace hcj : wr.cell? ⟨gb, ob + j, none⟩ = some (.slice yA yn yc) := hcj
      replace hslW : Sl W yA yn yc yx := hslW
      replace Hsl : Hid (Sl wr yA yn yc yx) := Hsl
      by_cases h256 : yn = 256
      · subst h256
        have hnM : ∀ k, blkOf yA = some k → ¬ x.M k := fun k hk hM => by
          obtain ⟨b1, o1, hA1, hb1⟩ := hslW.lt (by omega)
          rw [hA1] at hk
          have hk' : b1 = k := by simpa [blkOf] using hk
          have h1 := (Hd.out.at_.M_lt hM).1
          have h2 := Hm3.out.size
          omega
        have Hwr := Lib.hid (dev_write w3 wr x d Hd.out (j : Int) _ _ _ _ Hsl.out hnM (by have := Hc.out.few; omega))
        clear hslW hnM
        go_wp2_with fail
        rw [← Hx.out]
        refine Hwr.out.mono ?_
        rintro e w6 ⟨rfl, x6, hx6, hd6, _⟩
        have Hx6 := Lib.hid (hx6.trans Hx.out)
        have Hd6 := Lib.hid hd6
        clear hx6 hd6 Hwr
        rw [Hx.out]
        go_wp2
        go_roundw
        case rel => exact ⟨j + 1, x6, _, by omega, by go_num, Hx6.out, Hd6.out, Hc.out.write _ _⟩
        case measure => simp [intOf]; omega
      · have hq : ((yn : Int) == 256) = false := by rw [beq_eq_false_iff_ne]; omega
        clear hslW h256
        go_wp2
        go_roundw
        case rel => exact ⟨j + 1, x, d, by omega, by go_num, Hx.out, Hd.out, Hc.out.skip⟩
        case measure => simp [intOf]; omega
    · obtain rfl : j = n := by omega
      obtain ⟨y, hy⟩ : ∃ y : Bool, (y = true ↔ MayL 20 b m 1 f f) := by
        by_cases h : MayL 20 b m 1 f f
        · exact ⟨true, by simp [h]⟩
        · exact ⟨false, by simp [h]⟩
      have Hmy := Lib.hid (fun V => rmay20 V b m f y hy)
      have HM := Lib.hid (Hm3.out.trans Hd.out.old (fun _ _ h => h))
      rcases y with _ | _
      · have hno : ¬ MayL d.dur.length b m 1 f f := by rw [Hc.out.len]; exact fun h => by have := hy.2 h; cases this
        have Hrd := Lib.hid (wread_no wr w3 x d Hd.out b m f (by have := Hb.out; omega) Hb.out.1 (by have := Hm.out; omega) hno)
        clear hy hno
        go_wp2_with fail
        rw [← Hx.out]
        refine Hrd.out.mono ?_
        rintro e w6 ⟨rfl, hm6⟩
        have HM6 := Lib.hid (HM.out.trans hm6 (fun _ _ h => h))
        clear hm6 Hrd
        go_wp2_with fail
        refine (Hmy.out w6).mono ?_
        rintro e w7 ⟨rfl, rfl⟩
        go_wp2
        go_ret
        exact ⟨rfl, HM6.out.below (Nat.le_refl _) (fun _ _ => id)⟩
      · have hyes : MayL d.dur.length b m 1 f f := by rw [Hc.out.len]; exact hy.1 rfl
        have hmay := hy.1 rfl
        have hN : ∃ N : Nat, m = N := ⟨m.toNat, by have := hmay.n2; omega⟩
        obtain ⟨N, rfl⟩ := hN
        have m1 := hmay.b0
        have m2 := hmay.n2
        have m3 : ¬ ((20 : Nat) : Int) - N < b := hmay.bn
        have m4 := hmay.s0
        have m5 := hmay.nm
        have Hrd := Lib.hid (wread_ok wr w3 x d Hd.out Hc.out.dead b N f (by have := Hb.out; omega) Hb.out.1 (by have := Hm.out; omega) hyes)
        clear hy hyes hmay
        go_wp2_with fail
        rw [← Hx.out]
        refine Hrd.out.mono ?_
        rintro e w6 ⟨⟨A6, c6, L6, rfl, hrow6, hown6, hL6⟩, hm6⟩
        have hls6 : Ls w6 A6 L6.length c6 L6 := hrow6.logs (fun y hy => ⟨(hown6 y hy).1.at_, (hown6 y hy).2.at_⟩)
        have Hls6 := Lib.hid hls6
        rw [Int.toNat_natCast] at hL6
        have HL6 := Lib.hid hL6
        have HM6 := Lib.hid (HM.out.trans hm6 (fun _ _ h => h))
        have Hring := Lib.hid (ring_ok w3 w6 x d (Hd.out.keep hm6) b N (by omega) (by omega))
        clear hm6 hrow6 hown6 hls6 hL6 Hrd
        rw [Int.toNat_natCast]
        generalize hbs : batsM (fun q => d.read (b + q % (N : Int))) N f .zero = bs at *
        have Hbs := Lib.hid hbs
        clear hbs
        go_wp2_with fail
        refine (Hmy.out w6).mono ?_
        rintro e w7 ⟨rfl, rfl⟩
        clear Hmy
        go_wp2_with fail
        refine Hring.out.mono ?_
        rintro e w8 ⟨A8, c8, X8, rfl, hR8, hX8, hm8⟩
        have hrr := rread_ok w8 _ A8 N c8 X8 hR8 (by omega) (by omega) f (by omega) (by omega)
        rw [ringAt_dev (by omega) hX8, Hbs.out] at hrr
        have Hrr := Lib.hid hrr
        have Hls8 := Lib.hid (Hls6.out.keep hm8)
        have HM8 := Lib.hid (HM6.out.trans hm8 (fun _ _ h => h))
        clear hrr hR8 hX8 hm8 Hring Hls6
        go_wp2_with fail
        refine Hrr.out.mono ?_
        rintro e w9 ⟨⟨A9, c9, L9, rfl, hrow9, hown9, hL9⟩, hm9⟩
        have hls9 : Ls w9 A9 L9.length c9 L9 := hrow9.logs (fun y hy => ⟨(hown9 y hy).1.at_, (hown9 y hy).2.at_⟩)
        have hlsA := Hls8.out.keep hm9
        have hlen : L9.length = L6.length := by
          have e1 := congrArg List.length hL9
          have e2 := congrArg List.length HL6.out
          rw [List.length_map] at e1 e2
          rw [e1, e2]
        have hfew : L6.length ≤ 1000000 := by
          have e2 := congrArg List.length HL6.out
          rw [List.length_map] at e2
          have e3 := out_len bs (fun y hy => (batsM_mem _ N f .zero y (by rw [Hbs.out]; exact hy)).1)
          have e4 : bs.length ≤ N := by rw [← Hbs.out]; exact batsM_len _ _ _ _
          omega
        rw [hlen] at hls9 ⊢
        have hsm := lsame_ok w9 A6 A9 L6.length c6 c9 L6 L9 hlsA hls9 hfew (read_same (by rw [Hbs.out]; exact HL6.out) (by rw [Hbs.out]; exact hL9) hlsA.ats hls9.ats)
        have Hsm := Lib.hid hsm
        have HM9 := Lib.hid (HM8.out.trans hm9 (fun _ _ h => h))
        clear hsm hls9 hlsA hlen hfew hrow9 hown9 hL9 hm9 Hrr Hls8
        go_wp2_with fail
        refine Hsm.out.mono ?_
        rintro e wA ⟨rfl, hmA⟩
        have HMA := Lib.hid (HM9.out.trans hmA (fun _ _ h => h))
        clear hmA Hsm
        go_wp2
        go_ret
        exact ⟨rfl, HMA.out.below (Nat.le_refl _) (fun _ _ => id)⟩
end Go.Proofs.YtnbamljaiahmdaaGreat
