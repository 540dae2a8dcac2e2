/-
  What was appended against what is read: LSNs and bytes.
  bobbinref08.Same and begins, of records that are the same.
-/
import Derived.Test.YtnbamljaiahmdaaGreatQChn
import Derived.Test.YtnbamljaiahmdaaGreatQRdA
import Derived.Test.YtnbamljaiahmdaaGreatQDecE
import Derived.Test.YtnbamljaiahmdaaGreatQRdO
import Derived.Test.YtnbamljaiahmdaaGreatQWB
namespace Go.Proofs.YtnbamljaiahmdaaGreat
open Go Go.RowKit

def LgD.key (y : LgD) : Int × List UInt8 := (y.a, encB y.r)
theorem rows_sec (c : Sc) (s : Int) : rowsM (c.m s) = (secX c.l s).map fun a => (a.1, dec2 a.2) := by
  apply List.ext_getElem?
  intro i
  by_cases hi : i < c.l.length
  · have hc : c.l[i]? = some (c.l[i]'hi) := List.getElem?_eq_getElem _
    rw [rowsM_get (c.m s) (i := i) (r := dec2 (c.l[i]'hi)) (by show (c.l.map dec2)[i]? = _; rw [List.getElem?_map, hc]; rfl)]
    unfold secX
    rw [List.getElem?_map, List.getElem?_map, List.getElem?_zipIdx, hc]
    simp [Sc.m]
  · rw [List.getElem?_eq_none (by rw [rowsM_len]; show (c.l.map dec2).length ≤ i; rw [List.length_map]; omega), List.getElem?_eq_none (by rw [List.length_map, secX_len]; omega)]
theorem out_ms : ∀ (cs : List Sc) (k : Nat), outM (ms cs k) = (outX cs k).map fun a => (a.1, dec2 a.2)
  | [], _ => rfl
  | c :: cs, k => by
    rw [ms_cons, outX_cons, List.map_append, ← out_ms cs (k + 1), ← rows_sec]
    rfl
theorem secX_mem {l : List RcD} {s : Int} {a : Int × RcD} (h : a ∈ secX l s) : a.2 ∈ l := by
  unfold secX at h
  obtain ⟨p, hp, rfl⟩ := List.mem_map.1 h
  obtain ⟨i, hi⟩ := List.getElem?_of_mem hp
  rw [List.getElem?_zipIdx] at hi
  cases hl : l[i]? with
  | none => rw [hl] at hi; simp at hi
  | some x =>
    rw [hl] at hi
    simp at hi
    rw [← hi]
    exact List.mem_of_getElem? hl
/-- Of what was in some memory, and may be. -/
def GoodX (X : List (Int × RcD)) : Prop := ∀ a ∈ X, mayB a.2 = true ∧ ∃ w : World, a.2.At w
theorem outX_good : ∀ (cs : List Sc) (k : Nat), (∀ (i : Nat) (c : Sc), cs[i]? = some c → c.Ok ((k + i : Nat) : Int)) → GoodX (outX cs k)
  | [], _, _ => fun a h => by simp [outX] at h
  | c :: cs, k, hok => by
    intro a ha
    rw [outX_cons] at ha
    rcases List.mem_append.1 ha with h | h
    · have hc := hok 0 c rfl
      obtain ⟨w, hw⟩ := hc.was
      exact ⟨List.all_eq_true.1 (fits_may hc.fit).1 _ (secX_mem h), w, hw _ (secX_mem h)⟩
    · exact outX_good cs (k + 1) (fun i c hc => by rw [show k + 1 + i = k + (i + 1) by omega]; exact hok (i + 1) c hc) a h
theorem keys_of {w : World} : ∀ (L : List LgD) (X : List (Int × RcD)), L.map LgD.p = X.map (fun a => (a.1, dec2 a.2)) → GoodX X → (∀ y ∈ L, y.r.At w) → L.map LgD.key = X.map keyX ∧ ∀ y ∈ L, mayB y.r = true
  | [], [], _, _, _ => ⟨rfl, fun y h => by simp at h⟩
  | [], _ :: _, h, _, _ => by simp at h
  | _ :: _, [], h, _, _ => by simp at h
  | y :: L, a :: X, h, hg, hat => by
    rw [List.map_cons, List.map_cons] at h
    injection h with h1 h2
    obtain ⟨i1, i2⟩ := keys_of L X h2 (fun b hb => hg b (List.mem_cons_of_mem _ hb)) (fun z hz => hat z (List.mem_cons_of_mem _ hz))
    obtain ⟨hm, w', hw'⟩ := hg a List.mem_cons_self
    obtain ⟨r, hr, _⟩ := dec_enc hw' hm
    have hd : decode (encB a.2) = (0, y.r.p) := by
      have : y.r.p = dec2 a.2 := congrArg Prod.snd h1
      rw [this]
      unfold dec2
      rw [hr]
    obtain ⟨e1, e2, _⟩ := dec_only (hat y List.mem_cons_self) hd
    refine ⟨?_, fun z hz => ?_⟩
    · rw [List.map_cons, List.map_cons, i1]
      congr 1
      show (y.a, encB y.r) = (a.1, encB a.2)
      rw [e2, show y.a = a.1 from congrArg Prod.fst h1]
    · rcases List.mem_cons.1 hz with rfl | hz
      · exact e1
      · exact i2 z hz
theorem same_enc {w w' : World} {x y : RcD} (hx : x.At w) (hy : y.At w') (mx : mayB x = true) (my : mayB y = true) (h : encB x = encB y) : sameR x y = true := by
  obtain ⟨r, hr, q1⟩ := dec_enc hx mx
  obtain ⟨r', hr', q2⟩ := dec_enc hy my
  rw [h, hr'] at hr
  injection hr with _ hr
  subst hr
  exact sameR_of (q1.k.symm.trans q2.k) (fun i h1 h2 => (q1.f i h1 h2).symm.trans (q2.f i h1 h2)) (q1.o.symm.trans q2.o) (q1.v.symm.trans q2.v)

section
variable {b n fr du N : Nat} {g g' : Lg} {d d' : Dk} {cs : List Sc}
/-- A record is appended, or not. -/
theorem chn_app (h : Chn b n fr du g d cs) (ok : g.Ok N) (hN : d.dur.length = N) (ha : d.armed = false) (hd : d.dead = false) (hw : Was g.l) {r : RcD} {a er : Int} (k : App g d r a er g' d') :
    ∃ cs', Chn b n fr du g' d' cs' ∧ cs <+: cs' ∧ (outX cs' 0 ++ bufX g').map keyX = (outX cs 0 ++ bufX g).map keyX ++ (if er = 0 then [(a, encB r)] else []) := by
  cases k with
  | arg _ => exact ⟨cs, h, List.prefix_refl _, by simp⟩
  | full _ _ => exact ⟨cs, h, List.prefix_refl _, by simp⟩
  | fit y _ _ _ hy =>
    refine ⟨cs, h.withL _, List.prefix_refl _, ?_⟩
    rw [if_pos rfl]
    show (outX cs 0 ++ secX (g.l ++ [y]) g.nx).map keyX = (outX cs 0 ++ secX g.l g.nx).map keyX ++ [(256 * g.nx + g.l.length, encB r)]
    rw [secX_snoc, ← List.append_assoc, List.map_append]
    congr 1
    show [(256 * g.nx + g.l.length, encB y)] = _
    rw [hy.enc]
  | next y _ hl _ _ hy =>
    refine ⟨cs ++ [⟨g.ep, g.fr, g.l⟩], (chn_wrote h ok hN ha hd hl hw).withL [y], List.prefix_append _ _, ?_⟩
    rw [if_pos rfl]
    show (outX (cs ++ [⟨g.ep, g.fr, g.l⟩]) 0 ++ secX [y] (g.nx + 1)).map keyX = (outX cs 0 ++ secX g.l g.nx).map keyX ++ [(256 * (g.nx + 1), encB r)]
    rw [outX_snoc, show ((0 + cs.length : Nat) : Int) = g.nx by rw [h.gnx]; omega, List.map_append]
    congr 1
    show [(256 * (g.nx + 1) + ((0 : Nat) : Int), encB y)] = _
    rw [hy.enc]
    simp
theorem chn_force (h : Chn b n fr du g d cs) (ok : g.Ok N) (hN : d.dur.length = N) (ha : d.armed = false) (hd : d.dead = false) (hw : Was g.l) :
    ∃ cs', Chn b n fr cs'.length g.forced (g.forcedD d) cs' ∧ cs <+: cs' ∧ (outX cs' 0).map keyX = (outX cs 0 ++ bufX g).map keyX ∧ (g.forcedD d).pend = [] := by
  unfold Lg.forced Lg.forcedD Lg.push Lg.pushD
  by_cases hl : g.l = []
  · rw [if_pos hl, if_pos hl]
    refine ⟨cs, chn_sync h ha hd, List.prefix_refl _, ?_, by rw [(Dk.sync_good ha hd).1]⟩
    unfold bufX
    rw [hl]
    simp [secX]
  · rw [if_neg hl, if_neg hl]
    have hwr := (Dk.write_good ha hd ok.place.1 (by rw [hN]; exact ok.place.2) ok.secL).1
    have ha' : (d.write g.place g.sec).armed = false := by rw [hwr]; exact ha
    have hd' : (d.write g.place g.sec).dead = false := by rw [hwr]; exact hd
    refine ⟨cs ++ [⟨g.ep, g.fr, g.l⟩], chn_sync (chn_wrote h ok hN ha hd hl hw) ha' hd', List.prefix_append _ _, ?_, by rw [(Dk.sync_good ha' hd').1]⟩
    rw [outX_snoc, show ((0 + cs.length : Nat) : Int) = g.nx by rw [h.gnx]; omega]
    rfl
end
end Go.Proofs.YtnbamljaiahmdaaGreat

namespace Go.Proofs.YtnbamljaiahmdaaGreat
open Go Go.RowKit Go.Shelf

/-- A record with its LSN, from a cell on. -/
structure LgD.Cells (w : World) (y : LgD) (b o : Nat) : Prop where
  c0 : w.cell? ⟨b, o, none⟩ = some (.int .i64 y.a)
  c1 : w.cell? ⟨b, o + 1, none⟩ = some (.int .i64 y.r.k)
  c2 : w.cell? ⟨b, o + 2, none⟩ = some (.int .i64 (y.r.f 1))
  c3 : w.cell? ⟨b, o + 3, none⟩ = some (.int .i64 (y.r.f 2))
  c4 : w.cell? ⟨b, o + 4, none⟩ = some (.int .i64 (y.r.f 3))
  c5 : w.cell? ⟨b, o + 5, none⟩ = some (.int .i64 (y.r.f 4))
  c6 : w.cell? ⟨b, o + 6, none⟩ = some (.int .i64 (y.r.f 5))
  c7 : w.cell? ⟨b, o + 7, none⟩ = some (.int .i64 (y.r.f 6))
  c8 : w.cell? ⟨b, o + 8, none⟩ = some (.int .i64 (y.r.f 7))
  c9 : w.cell? ⟨b, o + 9, none⟩ = some (.int .i64 (y.r.f 8))
  c10 : w.cell? ⟨b, o + 10, none⟩ = some (.int .i64 (y.r.f 9))
  c11 : w.cell? ⟨b, o + 11, none⟩ = some (.bool y.r.o.is)
  c12 : w.cell? ⟨b, o + 12, none⟩ = some (.slice y.r.o.B y.r.o.m y.r.o.d)
  c13 : w.cell? ⟨b, o + 13, none⟩ = some (.bool y.r.v.is)
  c14 : w.cell? ⟨b, o + 14, none⟩ = some (.slice y.r.v.B y.r.v.m y.r.v.d)
theorem LgD.Cells.of {w : World} {y : LgD} {b o : Nat} (h : ∀ (j : Nat) (u : Value), y.cells[j]? = some u → w.cell? ⟨b, o + j, none⟩ = some u) : y.Cells w b o :=
  ⟨h 0 _ rfl, h 1 _ rfl, h 2 _ rfl, h 3 _ rfl, h 4 _ rfl, h 5 _ rfl, h 6 _ rfl, h 7 _ rfl, h 8 _ rfl, h 9 _ rfl, h 10 _ rfl, h 11 _ rfl, h 12 _ rfl, h 13 _ rfl, h 14 _ rfl⟩
theorem LgD.Cells.lt {w : World} {y : LgD} {b o : Nat} (h : y.Cells w b o) : b < w.heap.size := World.block_lt_of_cell? w _ h.c0
theorem LgD.Cells.keep {w w' : World} {y : LgD} {b o : Nat} (h : y.Cells w b o) (hk : w'.heap[b]? = w.heap[b]?) : y.Cells w' b o :=
  ⟨(World.cell?_of_block hk).trans h.c0, (World.cell?_of_block hk).trans h.c1, (World.cell?_of_block hk).trans h.c2, (World.cell?_of_block hk).trans h.c3, (World.cell?_of_block hk).trans h.c4, (World.cell?_of_block hk).trans h.c5, (World.cell?_of_block hk).trans h.c6, (World.cell?_of_block hk).trans h.c7, (World.cell?_of_block hk).trans h.c8, (World.cell?_of_block hk).trans h.c9, (World.cell?_of_block hk).trans h.c10, (World.cell?_of_block hk).trans h.c11, (World.cell?_of_block hk).trans h.c12, (World.cell?_of_block hk).trans h.c13, (World.cell?_of_block hk).trans h.c14⟩
theorem LgD.Cells.get {w : World} {y : LgD} {b o : Nat} (h : y.Cells w b o) {j : Nat} {u : Value} (hj : y.cells[j]? = some u) : w.cell? ⟨b, o + j, none⟩ = some u := by
  have hj15 : j < 15 := (Array.getElem?_eq_some_iff.1 hj).1
  match j, hj15 with
  | 0, _ => injection hj with hj; subst hj; exact h.c0
  | 1, _ => injection hj with hj; subst hj; exact h.c1
  | 2, _ => injection hj with hj; subst hj; exact h.c2
  | 3, _ => injection hj with hj; subst hj; exact h.c3
  | 4, _ => injection hj with hj; subst hj; exact h.c4
  | 5, _ => injection hj with hj; subst hj; exact h.c5
  | 6, _ => injection hj with hj; subst hj; exact h.c6
  | 7, _ => injection hj with hj; subst hj; exact h.c7
  | 8, _ => injection hj with hj; subst hj; exact h.c8
  | 9, _ => injection hj with hj; subst hj; exact h.c9
  | 10, _ => injection hj with hj; subst hj; exact h.c10
  | 11, _ => injection hj with hj; subst hj; exact h.c11
  | 12, _ => injection hj with hj; subst hj; exact h.c12
  | 13, _ => injection hj with hj; subst hj; exact h.c13
  | 14, _ => injection hj with hj; subst hj; exact h.c14
theorem lgC_len : ∀ l : List LgD, (lgC l).length = l.length * 15
  | [] => rfl
  | x :: l => by
    show (x.cells.toList ++ lgC l).length = (l.length + 1) * 15
    rw [List.length_append, lgC_len l]
    show 15 + l.length * 15 = _
    omega
theorem lgC_get : ∀ (l : List LgD) (i : Nat) (x : LgD), l[i]? = some x → ∀ j, j < 15 → (lgC l)[i * 15 + j]? = x.cells[j]?
  | [], i, x, h, _, _ => by simp at h
  | y :: l, 0, x, h, j, hj => by
    injection h with h
    subst h
    show (y.cells.toList ++ lgC l)[0 * 15 + j]? = _
    rw [Nat.zero_mul, Nat.zero_add, List.getElem?_append_left (by show j < 15; exact hj), Array.getElem?_toList]
  | y :: l, i + 1, x, h, j, hj => by
    show (y.cells.toList ++ lgC l)[(i + 1) * 15 + j]? = _
    rw [List.getElem?_append_right (by show 15 ≤ _; omega), show (i + 1) * 15 + j - y.cells.toList.length = i * 15 + j by show _ - 15 = _; omega]
    exact lgC_get l i x (by simpa using h) j hj
/-- A slice of them. -/
structure Ls (w : World) (A : Option Addr) (n c : Nat) (l : List LgD) : Prop where
  len : l.length = n
  cap : n ≤ c
  cells : 0 < n → ∃ b o, A = some ⟨b, o, none⟩ ∧ ∀ (i : Nat) (x : LgD), l[i]? = some x → x.Cells w b (o + i * 15)
  ats : ∀ x ∈ l, x.r.At w
theorem Ls.keep {w w' : World} {A : Option Addr} {n c : Nat} {l : List LgD} (h : Ls w A n c l) (hm : Mod (fun _ => False) w w') : Ls w' A n c l := by
  refine ⟨h.len, h.cap, fun hp => ?_, fun x hx => (h.ats x hx).keep hm⟩
  obtain ⟨b, o, hA, hc⟩ := h.cells hp
  exact ⟨b, o, hA, fun i x hx => (hc i x hx).keep (hm.block b (hc i x hx).lt id)⟩
theorem Ls.pre {w : World} {A : Option Addr} {n c : Nat} {l : List LgD} (h : Ls w A n c l) {k : Nat} (hk : k ≤ n) : Ls w A k c (l.take k) := by
  have := h.len
  have := h.cap
  refine ⟨by rw [List.length_take]; omega, by omega, fun hp => ?_, fun x hx => h.ats x (List.mem_of_mem_take hx)⟩
  obtain ⟨b, o, hA, hc⟩ := h.cells (by omega)
  refine ⟨b, o, hA, fun i x hx => hc i x ?_⟩
  rw [List.getElem?_take] at hx
  split at hx
  · exact hx
  · cases hx
theorem OwN.logs {w : World} {base : Nat} {A : Option Addr} {n c : Nat} {l : List LgD} (h : OwN w base 71 15 A n c (lgC l)) (hx : ∀ x ∈ l, x.r.At w) : Ls w A n c l := by
  have hl : l.length = n := by have := h.1; rw [lgC_len] at this; omega
  refine ⟨hl, h.cap, fun hp => ?_, hx⟩
  obtain ⟨g, rfl, hc⟩ := h.cells hp
  refine ⟨g, 0, rfl, fun i x hi => .of fun j u hu => ?_⟩
  have hil : i < l.length := (List.getElem?_eq_some_iff.1 hi).1
  have hj : j < 15 := (Array.getElem?_eq_some_iff.1 hu).1
  rw [Nat.zero_add, hc _ (by omega), lgC_get l i x hi j hj]
  exact hu

set_option maxRecDepth 100000 in
set_option maxHeartbeats 4000000 in
theorem lsame_ok (w : World) (A A2 : Option Addr) (n c c2 : Nat) (x y : List LgD) (hx : Ls w A n c x) (hy : Ls w A2 n c2 y) (hn : n ≤ 1000000)
    (hr : ∀ (i : Nat) (a b : LgD), x[i]? = some a → y[i]? = some b → sameR a.r b.r = true ∧ a.a = b.a ∧ a.r.o.m ≤ 1000 ∧ a.r.v.m ≤ 1000 ∧ b.r.o.m ≤ 1000 ∧ b.r.v.m ≤ 1000) :
    Calls Tryz.prog 11 #[.slice A n c, .slice A2 n c2] w fun e w' => e = .returned (.bool true) ∧ Mod (fun _ => False) w w' := by
  have Hx := Lib.hid hx
  have Hy := Lib.hid hy
  have Hlx := Lib.hid hx.len
  have Hly := Lib.hid hy.len
  have Hr := Lib.hid hr
  have hnI : (n : Int) ≤ 1000000 := by omega
  clear hx hy hr
  go_enter Tryz.func11, Tryz.ntmps11
  go_wp2_with fail
  go_loopw [5] (fun i wr => ∃ j : Nat, j ≤ n ∧ i = .int .i64 j ∧ Mod (fun _ => False) w wr) (fun i _ => n - (intOf i).toNat)
  case atStart => exact ⟨0, by omega, rfl, Mod.refl _ _⟩
  case round =>
    obtain ⟨j, hj, rfl, hm⟩ := hrel
    have Hm := Lib.hid hm
    clear hm
    by_cases hlt : j < n
    · obtain ⟨b1, o1, hA1, hc1⟩ := Ls.cells Hx.out (by omega)
      obtain ⟨b2, o2, hA2, hc2⟩ := Ls.cells Hy.out (by omega)
      subst hA1
      subst hA2
      obtain ⟨a, ha⟩ : ∃ a, x[j]? = some a := ⟨_, List.getElem?_eq_getElem (by rw [Hlx.out]; exact hlt)⟩
      obtain ⟨b, hb⟩ : ∃ b, y[j]? = some b := ⟨_, List.getElem?_eq_getElem (by rw [Hly.out]; exact hlt)⟩
      obtain ⟨hs, ha0, h1, h2, h3, h4⟩ := Hr.out j a b ha hb
      have hC1 := (hc1 j a ha).keep (Hm.out.block b1 (hc1 j a ha).lt id)
      have hC2 := (hc2 j b hb).keep (Hm.out.block b2 (hc2 j b hb).lt id)
      have hsm := rsame_ok wr.drew a.r b.r ((Hx.out.ats a (List.mem_of_getElem? ha)).keep Hm.out.drew) ((Hy.out.ats b (List.mem_of_getElem? hb)).keep Hm.out.drew) (by omega) (by omega) (by omega) (by omega)
      rw [show (sameN a.r b.r && (sameV a.r.o b.r.o && sameV a.r.v b.r.v && (a.r.k == b.r.k))) = true from hs] at hsm
      have Hsm := Lib.hid hsm
      have HC1 := Lib.hid (hC1.keep (w' := wr.drew) rfl)
      have HC2 := Lib.hid (hC2.keep (w' := wr.drew) rfl)
      have Ha0 := Lib.hid ha0
      have p0 := hC1.c0
      have p1 := hC1.c1
      have p2 := hC1.c2
      have p3 := hC1.c3
      have p4 := hC1.c4
      have p5 := hC1.c5
      have p6 := hC1.c6
      have p7 := hC1.c7
      have p8 := hC1.c8
      have p9 := hC1.c9
      have p10 := hC1.c10
      have p11 := hC1.c11
      have p12 := hC1.c12
      have p13 := hC1.c13
      have p14 := hC1.c14
      have q0 := hC2.c0
      have q1 := hC2.c1
      have q2 := hC2.c2
      have q3 := hC2.c3
      have q4 := hC2.c4
      have q5 := hC2.c5
      have q6 := hC2.c6
      have q7 := hC2.c7
      have q8 := hC2.c8
      have q9 := hC2.c9
      have q10 := hC2.c10
      have q11 := hC2.c11
      have q12 := hC2.c12
      have q13 := hC2.c13
      have q14 := hC2.c14
      clear hsm hC1 hC2 hs h1 h2 h3 h4 ha hb hc1 hc2 ha0 p0 q0
      go_wp2_with fail
      go_still_tail 10, (by kernel_rfl)
      change wpList _ _ _ _ _ wr.drew
      have Hmd := Lib.hid Hm.out.drew
      clear p1 p2 p3 p4 p5 p6 p7 p8 p9 p10 p11 p12 p13 p14 q1 q2 q3 q4 q5 q6 q7 q8 q9 q10 q11 q12 q13 q14
      generalize wr.drew = wd at *
      go_wp2_with fail
      refine Hsm.out.mono ?_
      rintro e w2 ⟨rfl, hm2⟩
      have Hm2 := Lib.hid (Hmd.out.trans hm2 (fun _ _ h => h))
      have p0 := (HC1.out.keep (hm2.block b1 HC1.out.lt id)).c0
      have q0 := (HC2.out.keep (hm2.block b2 HC2.out.lt id)).c0
      rw [← Ha0.out] at q0
      clear hm2 Hsm HC1 HC2 Ha0
      go_wp2_with fail
      go_quiet (fail)
      go_wp2
      go_roundw
      case rel => exact ⟨j + 1, by omega, by go_num, Hm2.out.drewN _⟩
      case measure => simp [intOf]; omega
    · obtain rfl : j = n := by omega
      go_wp2
      go_ret
      exact ⟨rfl, Hm.out⟩

/-- The one is a beginning of the other. -/
structure Begin (x y : List LgD) : Prop where
  le : x.length ≤ y.length
  key : x.map LgD.key = (y.take x.length).map LgD.key
  mx : ∀ a ∈ x, mayB a.r = true
  my : ∀ a ∈ y, mayB a.r = true
end Go.Proofs.YtnbamljaiahmdaaGreat
