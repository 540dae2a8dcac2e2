/-
  What was appended against what is read: LSNs and bytes.
-/
import Derived.Test.YtidligegmhlikaaQChn
import Derived.Test.YtidligegmhlikaaQRdA
import Derived.Test.YtidligegmhlikaaQDecE
namespace Go.Proofs.Ytidligegmhlikaa
open Go Go.RowKit

def LgD.key (y : LgD) : Int × List UInt8 := (y.a, encB y.r)
theorem rows_sec (c : Sc) (s : Int) : rowsM (c.m s) = (secX c.l s).map fun a => (a.1, dec2 a.2) := by
  apply List.ext_getElem?
  intro i
  by_cases hi : i < c.l.length
  · have hc : c.l[i]? = some (c.l[i]'hi) := List.getElem?_eq_getElem _
    rw [rowsM_get (c.m s) (i := i) (r := dec2 (c.l[i]'hi)) (by show (c.l.map dec2)[i]? = _; rw [List.getElem?_map, hc]; rfl)]
    unfold secX
    rw [List.getElem?_map, List.getElem?_map, List.getElem?_zipIdx, hc]
    simp [Sc.m]
  · rw [List.getElem?_eq_none (by rw [rowsM_len]; show (c.l.map dec2).length ≤ i; rw [List.length_map]; omega), List.getElem?_eq_none (by rw [List.length_map, secX_len]; omega)]
theorem out_ms : ∀ (cs : List Sc) (k : Nat), outM (ms cs k) = (outX cs k).map fun a => (a.1, dec2 a.2)
  | [], _ => rfl
  | c :: cs, k => by
    rw [ms_cons, outX_cons, List.map_append, ← out_ms cs (k + 1), ← rows_sec]
    rfl
theorem secX_mem {l : List RcD} {s : Int} {a : Int × RcD} (h : a ∈ secX l s) : a.2 ∈ l := by
  unfold secX at h
  obtain ⟨p, hp, rfl⟩ := List.mem_map.1 h
  obtain ⟨i, hi⟩ := List.getElem?_of_mem hp
  rw [List.getElem?_zipIdx] at hi
  cases hl : l[i]? with
  | none => rw [hl] at hi; simp at hi
  | some x =>
    rw [hl] at hi
    simp at hi
    rw [← hi]
    exact List.mem_of_getElem? hl
/-- Of what was in some memory, and may be. -/
def GoodX (X : List (Int × RcD)) : Prop := ∀ a ∈ X, mayB a.2 = true ∧ ∃ w : World, a.2.At w
theorem outX_good : ∀ (cs : List Sc) (k : Nat), (∀ (i : Nat) (c : Sc), cs[i]? = some c → c.Ok ((k + i : Nat) : Int)) → GoodX (outX cs k)
  | [], _, _ => fun a h => by simp [outX] at h
  | c :: cs, k, hok => by
    intro a ha
    rw [outX_cons] at ha
    rcases List.mem_append.1 ha with h | h
    · have hc := hok 0 c rfl
      obtain ⟨w, hw⟩ := hc.was
      exact ⟨List.all_eq_true.1 (fits_may hc.fit).1 _ (secX_mem h), w, hw _ (secX_mem h)⟩
    · exact outX_good cs (k + 1) (fun i c hc => by rw [show k + 1 + i = k + (i + 1) by omega]; exact hok (i + 1) c hc) a h
theorem keys_of {w : World} : ∀ (L : List LgD) (X : List (Int × RcD)), L.map LgD.p = X.map (fun a => (a.1, dec2 a.2)) → GoodX X → (∀ y ∈ L, y.r.At w) → L.map LgD.key = X.map keyX ∧ ∀ y ∈ L, mayB y.r = true
  | [], [], _, _, _ => ⟨rfl, fun y h => by simp at h⟩
  | [], _ :: _, h, _, _ => by simp at h
  | _ :: _, [], h, _, _ => by simp at h
  | y :: L, a :: X, h, hg, hat => by
    rw [List.map_cons, List.map_cons] at h
    injection h with h1 h2
    obtain ⟨i1, i2⟩ := keys_of L X h2 (fun b hb => hg b (List.mem_cons_of_mem _ hb)) (fun z hz => hat z (List.mem_cons_of_mem _ hz))
    obtain ⟨hm, w', hw'⟩ := hg a List.mem_cons_self
    obtain ⟨r, hr, _⟩ := dec_enc hw' hm
    have hd : decode (encB a.2) = (0, y.r.p) := by
      have : y.r.p = dec2 a.2 := congrArg Prod.snd h1
      rw [this]
      unfold dec2
      rw [hr]
    obtain ⟨e1, e2, _⟩ := dec_only (hat y List.mem_cons_self) hd
    refine ⟨?_, fun z hz => ?_⟩
    · rw [List.map_cons, List.map_cons, i1]
      congr 1
      show (y.a, encB y.r) = (a.1, encB a.2)
      rw [e2, show y.a = a.1 from congrArg Prod.fst h1]
    · rcases List.mem_cons.1 hz with rfl | hz
      · exact e1
      · exact i2 z hz
theorem same_enc {w w' : World} {x y : RcD} (hx : x.At w) (hy : y.At w') (mx : mayB x = true) (my : mayB y = true) (h : encB x = encB y) : sameR x y = true := by
  obtain ⟨r, hr, q1⟩ := dec_enc hx mx
  obtain ⟨r', hr', q2⟩ := dec_enc hy my
  rw [h, hr'] at hr
  injection hr with _ hr
  subst hr
  exact sameR_of (q1.k.symm.trans q2.k) (fun i h1 h2 => (q1.f i h1 h2).symm.trans (q2.f i h1 h2)) (q1.o.symm.trans q2.o) (q1.v.symm.trans q2.v)

section
variable {b n fr du N : Nat} {g g' : Lg} {d d' : Dk} {cs : List Sc}
/-- A record is appended, or not. -/
theorem chn_app (h : Chn b n fr du g d cs) (ok : g.Ok N) (hN : d.dur.length = N) (ha : d.armed = false) (hd : d.dead = false) (hw : Was g.l) {r : RcD} {a er : Int} (k : App g d r a er g' d') :
    ∃ cs', Chn b n fr du g' d' cs' ∧ cs <+: cs' ∧ (outX cs' 0 ++ bufX g').map keyX = (outX cs 0 ++ bufX g).map keyX ++ (if er = 0 then [(a, encB r)] else []) := by
  cases k with
  | arg _ => exact ⟨cs, h, List.prefix_refl _, by simp⟩
  | full _ _ => exact ⟨cs, h, List.prefix_refl _, by simp⟩
  | fit y _ _ _ hy =>
    refine ⟨cs, h.withL _, List.prefix_refl _, ?_⟩
    rw [if_pos rfl]
    show (outX cs 0 ++ secX (g.l ++ [y]) g.nx).map keyX = (outX cs 0 ++ secX g.l g.nx).map keyX ++ [(256 * g.nx + g.l.length, encB r)]
    rw [secX_snoc, ← List.append_assoc, List.map_append]
    congr 1
    show [(256 * g.nx + g.l.length, encB y)] = _
    rw [hy.enc]
  | next y _ hl _ _ hy =>
    refine ⟨cs ++ [⟨g.ep, g.fr, g.l⟩], (chn_wrote h ok hN ha hd hl hw).withL [y], List.prefix_append _ _, ?_⟩
    rw [if_pos rfl]
    show (outX (cs ++ [⟨g.ep, g.fr, g.l⟩]) 0 ++ secX [y] (g.nx + 1)).map keyX = (outX cs 0 ++ secX g.l g.nx).map keyX ++ [(256 * (g.nx + 1), encB r)]
    rw [outX_snoc, show ((0 + cs.length : Nat) : Int) = g.nx by rw [h.gnx]; omega, List.map_append]
    congr 1
    show [(256 * (g.nx + 1) + ((0 : Nat) : Int), encB y)] = _
    rw [hy.enc]
    simp
theorem chn_force (h : Chn b n fr du g d cs) (ok : g.Ok N) (hN : d.dur.length = N) (ha : d.armed = false) (hd : d.dead = false) (hw : Was g.l) :
    ∃ cs', Chn b n fr cs'.length g.forced (g.forcedD d) cs' ∧ cs <+: cs' ∧ (outX cs' 0).map keyX = (outX cs 0 ++ bufX g).map keyX ∧ (g.forcedD d).pend = [] := by
  unfold Lg.forced Lg.forcedD Lg.push Lg.pushD
  by_cases hl : g.l = []
  · rw [if_pos hl, if_pos hl]
    refine ⟨cs, chn_sync h ha hd, List.prefix_refl _, ?_, by rw [(Dk.sync_good ha hd).1]⟩
    unfold bufX
    rw [hl]
    simp [secX]
  · rw [if_neg hl, if_neg hl]
    have hwr := (Dk.write_good ha hd ok.place.1 (by rw [hN]; exact ok.place.2) ok.secL).1
    have ha' : (d.write g.place g.sec).armed = false := by rw [hwr]; exact ha
    have hd' : (d.write g.place g.sec).dead = false := by rw [hwr]; exact hd
    refine ⟨cs ++ [⟨g.ep, g.fr, g.l⟩], chn_sync (chn_wrote h ok hN ha hd hl hw) ha' hd', List.prefix_append _ _, ?_, by rw [(Dk.sync_good ha' hd').1]⟩
    rw [outX_snoc, show ((0 + cs.length : Nat) : Int) = g.nx by rw [h.gnx]; omega]
    rfl
end
end Go.Proofs.Ytidligegmhlikaa
