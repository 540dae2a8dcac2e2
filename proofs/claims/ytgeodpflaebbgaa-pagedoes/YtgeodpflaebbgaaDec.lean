/-
  page.content.read, page.onlyZeros, page.decode.
-/
import Derived.Test.YtgeodpflaebbgaaCont
import Derived.Deep.DeepCutAuto
namespace Go.Proofs.Ytgeodpflaebbgaa
open Go Go.RowKit Go.Shelf

/-- Nothing but noughts. -/
theorem zerosOnly_cons (b : UInt8) (xs : List UInt8) : zerosOnly (b :: xs) = ((b == 0) && zerosOnly xs) := by simp [zerosOnly]
theorem unle_one {xs : List UInt8} {b : UInt8} {r : List UInt8} (h : xs = b :: r) : unle (xs.take 1) = b.toNat := by subst h; simp [unle]

set_option maxRecDepth 100000 in
set_option maxHeartbeats 1000000 in
theorem onlyZeros_ok (w : World) (g : Nat) (A : Option Addr) (n c : Nat) (xs : List UInt8) (h : Rd w g A n c xs) (hc : c ≤ maxLen) :
    Calls Try.prog 46 #[.pointer (some ⟨g, 0, none⟩)] w fun e w' => e = .returned (.bool (zerosOnly xs)) ∧ Mod (fun k => k = g) w w' := by
  have H := Lib.hid h
  have Hc := Lib.hid hc
  clear h hc
  go_enter Try.func46, Try.ntmps46
  go_wp2
  go_loopw [] (fun wr => ∃ (m d : Nat) (B : Option Addr) (ys : List UInt8), Rd wr g B m d ys ∧ d ≤ maxLen ∧ zerosOnly xs = zerosOnly ys ∧ Mod (fun k => k = g) w wr) (fun wr => match wr.cell? ⟨g, 0, none⟩ with | some (.slice _ m _) => m | _ => 0)
  case atStart => exact ⟨n, c, A, xs, H.out, Hc.out, rfl, Mod.refl _ _⟩
  case round =>
    obtain ⟨m, d, B, ys, hr, hd, hz, hm⟩ := hrel
    have Hr := Lib.hid hr
    have Hd := Lib.hid hd
    have Hz := Lib.hid hz
    have Hm := Lib.hid hm
    have hlen := hr.2.1.len
    have hcell := hr.cell
    have Hcell := Lib.hid hcell
    have Hl := Lib.hid (left_ok wr g B m d ys hr)
    clear hr hd hz hm hcell
    by_cases h0 : m = 0
    · subst h0
      obtain rfl : ys = [] := List.eq_nil_of_length_eq_zero hlen
      go_wp2_with fail
      refine Hl.out.mono ?_
      rintro e w2 ⟨rfl, rfl⟩
      go_wp2
      go_ret
      exact ⟨by rw [Hz.out]; rfl, Hm.out⟩
    · obtain ⟨b, r, rfl⟩ : ∃ b r, ys = b :: r := by
        cases ys with
        | nil => simp at hlen; omega
        | cons b r => exact ⟨b, r, rfl⟩
      have hg := get_ok wr g B m d (b :: r) Hr.out Hd.out 1 rfl (by omega)
      rw [show (1 : Int).toNat = 1 from rfl, unle_one rfl] at hg
      have Hg := Lib.hid hg
      have hm0 : (0 : Int) < m := by omega
      clear hg
      go_wp2_with fail
      refine Hl.out.mono ?_
      rintro e w2 ⟨rfl, rfl⟩
      go_wp2_with fail
      refine Hg.out.mono ?_
      rintro e w3 ⟨rfl, B', hr', _, hm', _⟩
      have Hm3 := Lib.hid (Hm.out.trans hm' (fun _ _ h => h))
      by_cases hb : b = 0
      · subst hb
        have Hr3 : Hid (Rd w3 g B' (m - 1) (d - 1) r) := hr'
        clear hr' hm'
        go_wp2
        go_roundw
        case rel => exact ⟨m - 1, d - 1, B', r, Hr3.out, by have := Hd.out; omega, by rw [Hz.out, zerosOnly_cons]; rfl, Hm3.out⟩
        case measure =>
          rw [Hcell.out, Hr3.out.cell]
          simp only
          omega
      · have hb' : ((b.toNat : Int) != 0) = true := by
          rw [bne_iff_ne]
          intro e
          exact hb (UInt8.toNat_inj.1 (by simpa using e))
        have Hzf : Hid (zerosOnly xs = false) := by
          show _ = _
          rw [Hz.out, zerosOnly_cons]
          have : (b == 0) = false := by simpa using hb
          rw [this]; rfl
        clear hr' hm' hb
        generalize (b.toNat : Int) = q at *
        go_wp2
        go_ret
        exact ⟨by rw [Hzf.out]; rfl, Hm3.out⟩

/-- A block of bytes in memory laid since. -/
def Ty8 (w : World) (base k : Nat) : Prop := base ≤ k ∧ ∃ cs, w.heap[k]? = some (.cells cs 5 (0, 0))
theorem Ty8.mod {F : Nat → Prop} {w w' : World} {base k : Nat} (h : Ty8 w base k) (hm : Mod F w w') (hF : ¬ F k) : Ty8 w' base k := by
  obtain ⟨h1, cs, h2⟩ := h
  exact ⟨h1, cs, (hm.block k (Array.getElem?_eq_some_iff.1 h2).1 hF).trans h2⟩
theorem MV.At.not8 {w : World} {base : Nat} {x : MV} (h : x.At w base) {k : Nat} (hk : x.M k) (cs : Array Value) : w.heap[k]? ≠ some (.cells cs 5 (0, 0)) := by
  intro e
  rcases hk with hk | hk
  · subst hk
    rw [h.obj] at e
    injection e with e
    injection e with _ e
    exact absurd e (by decide)
  · obtain ⟨cur, hc⟩ := h.row.typed hk
    rw [hc] at e
    injection e with e
    injection e with _ e
    exact absurd e (by decide)
/-- A content whose values lie in blocks of bytes of their own, all in memory laid since. -/
structure Ct (w : World) (base : Nat) (x : MV) (rs : List Rec) : Prop where
  at_ : x.At w base
  vals : Vals w (Ty8 w base) x.l rs
theorem Ct.mod {F : Nat → Prop} {w w' : World} {base : Nat} {x : MV} {rs : List Rec} (h : Ct w base x rs) (hm : Mod F w w') (hM : ∀ k, x.M k → ¬ F k) (h8 : ∀ k, F k → ∀ cs, w.heap[k]? ≠ some (.cells cs 5 (0, 0))) : Ct w' base x rs :=
  ⟨h.at_.mod hm hM, h.vals.mod hm (fun k _ hk => by
    have hF : ¬ F k := fun e => by obtain ⟨_, cs, hc⟩ := hk; exact h8 k e cs hc
    exact ⟨hF, hk.mod hm hF⟩)⟩
theorem Ct.keep {w w' : World} {base : Nat} {x : MV} {rs : List Rec} (h : Ct w base x rs) (hm : Mod (fun _ => False) w w') : Ct w' base x rs := h.mod hm (fun _ _ => id) (fun _ e => e.elim)
theorem mSet_last {α : Type} {k : Int} {v : α} {l : List (Int × α)} (h : ∀ z ∈ l, z.1 < k) : mSet k v l = l ++ [(k, v)] := by
  induction l with
  | nil => rfl
  | cons y l ih =>
    simp only [mSet]
    rw [if_pos (h y (List.mem_cons_self ..)), ih (fun z hz => h z (List.mem_cons_of_mem _ hz))]
    rfl
theorem Vals.keys {w : World} {Q : Nat → Prop} {k : Int} : ∀ {L : List Pr} {rs : List Rec}, Vals w Q L rs → (∀ r ∈ rs, r.1 < k) → ∀ z ∈ L, z.1 < k
  | [], [], _, _ => fun z hz => by cases hz
  | e :: L, r :: rs, h, hk => fun z hz => by
    rcases List.mem_cons.1 hz with e' | e'
    · subst e'; rw [h.1.1]; exact hk r (List.mem_cons_self ..)
    · exact Vals.keys h.2 (fun q hq => hk q (List.mem_cons_of_mem _ hq)) z e'
/-- One more record, behind the others. -/
theorem ct_set (w : World) (base : Nat) (x : MV) (rs : List Rec) (h : Ct w base x rs) (hl : x.l.length ≤ 900) (hb : base ≤ w.heap.size) (k : Int) (hk : ∀ r ∈ rs, r.1 < k) (v : Sv) (xs : List UInt8) (hv : Sl w v.a v.n v.c xs) (h8 : ∀ j, blkOf v.a = some j → 0 < v.n → Ty8 w base j) :
    Calls Try.prog 36 #[.pointer (some ⟨x.p, 2, none⟩), .int .i64 k, .slice v.a v.n v.c] w fun e w' =>
      (∃ b, e = .returned (.bool b)) ∧ ∃ x', x'.p = x.p ∧ x'.pid = x.pid ∧ x'.plsn = x.plsn ∧ Ct w' base x' (rs ++ [(k, xs)]) ∧ Mod x.M w w' ∧ ∀ k, x'.M k → x.M k ∨ w.heap.size ≤ k := by
  refine (mset_ok w base x h.at_ hl hb k v).mono ?_
  rintro e w' ⟨rfl, x', hk'⟩
  refine ⟨⟨_, rfl⟩, x', hk'.p, hk'.pid, hk'.plsn, ⟨hk'.at_, ?_⟩, hk'.mod, hk'.new⟩
  rw [hk'.l, mSet_last (h.vals.keys hk)]
  have hq : ∀ j, Ty8 w base j → ¬ x.M j := fun j hj e => by obtain ⟨_, cs, hc⟩ := hj; exact h.at_.not8 e cs hc
  refine Vals.snoc ⟨rfl, hv.mod hk'.mod (fun j hj hn => hq j (h8 j hj hn)), fun j hj hn => (h8 j hj hn).mod hk'.mod (hq j (h8 j hj hn))⟩ (h.vals.mod hk'.mod (fun j _ hj => ⟨hq j hj, hj.mod hk'.mod (hq j hj)⟩))

/-- Bytes that fill a block of their own. -/
theorem Sl.lit_ {w : World} {g : Nat} {e : TypeId} {fr : Nat × Nat} (xs : List UInt8) (h : w.heap[g]? = some (.cells (xs.map bv).toArray e fr)) : Sl w (some ⟨g, 0, none⟩) xs.length xs.length xs := by
  refine ⟨rfl, Nat.le_refl _, fun _ => ⟨g, 0, rfl, fun j hj => ?_⟩⟩
  rw [Nat.zero_add, cell_of_row w g j _ _ _ h]
  simp [hj]
/-- Take, whatever comes of it. -/
theorem take_any (w : World) (g : Nat) (A : Option Addr) (n c : Nat) (xs : List UInt8) (h : Rd w g A n c xs) (hc : c ≤ maxLen) :
    Calls Try.prog 57 #[.pointer (some ⟨g, 0, none⟩)] w fun e w' => (∃ B m d er, e = .returned (.tuple #[.slice B m d, .int .i64 er])) ∧ Mod (fun k => k = g) w w' := by
  by_cases hs : n < 1 + (xs.getD 0 0).toNat
  · refine (take_short w g A n c xs h hs).mono ?_
    rintro e w' ⟨rfl, rfl⟩
    exact ⟨⟨_, _, _, _, rfl⟩, Mod.refl _ _⟩
  · refine (take_ok w g A n c xs h hc (by omega) _ rfl (by omega)).mono ?_
    rintro e w' ⟨rfl, w1, hf, _, _, _, hm, _⟩
    exact ⟨⟨_, _, _, _, rfl⟩, (hf.2.2.mono (fun _ _ e => e.elim)).trans hm (fun _ _ e => e)⟩

/-- What the loop of read has: after j records, of which the last has the key 'last'. -/
structure Rds (w0 : World) (base rg : Nat) (x : MV) (xs : List UInt8) (count : Nat) (j : Nat) (last : Int) (W : World) : Prop where
  ex : ∃ (x' : MV) (A : Option Addr) (n c : Nat) (ys : List UInt8) (rs : List Rec), x'.p = x.p ∧ x'.pid = x.pid ∧ x'.plsn = x.plsn ∧ Ct W base x' rs ∧ Rd W rg A n c ys ∧ c ≤ maxLen ∧
    (∀ k, blkOf A = some k → 0 < n → ¬ x'.M k) ∧ ¬ x'.M rg ∧ rs.length = j ∧ (∀ r ∈ rs, r.1 ≤ last) ∧
    readN count (-1) xs = (readN (count - j) last ys).map (fun q => (rs ++ q.1, q.2))
  low : -1 ≤ last
  old : Mod (fun k => base ≤ k) w0 W
  rgb : base ≤ rg
/-- What read leaves. -/
structure Red (w0 W : World) (base rg : Nat) (x : MV) (q : List Rec × List UInt8) : Prop where
  ex : ∃ (x' : MV) (A : Option Addr) (n c : Nat), x'.p = x.p ∧ x'.pid = x.pid ∧ x'.plsn = x.plsn ∧ Ct W base x' q.1 ∧ Rd W rg A n c q.2 ∧ c ≤ maxLen ∧ ¬ x'.M rg

theorem readN_bad {n : Nat} {last : Int} {xs : List UInt8} (h : xs.length < 3 ∨ xs.length < 3 + (xs.getD 2 0).toNat ∨ (unle (xs.take 2) : Int) ≤ last ∨ 32 < (xs.getD 2 0).toNat) : readN (n + 1) last xs = none := by
  simp only [readN]
  rw [if_pos h]
theorem readN_good1 {n : Nat} {last : Int} {xs : List UInt8} (h : ¬ (xs.length < 3 ∨ xs.length < 3 + (xs.getD 2 0).toNat ∨ (unle (xs.take 2) : Int) ≤ last ∨ 32 < (xs.getD 2 0).toNat)) :
    readN (n + 1) last xs = (readN n (unle (xs.take 2)) (xs.drop (3 + (xs.getD 2 0).toNat))).map (fun q => (((unle (xs.take 2) : Int), (xs.drop 3).take (xs.getD 2 0).toNat) :: q.1, q.2)) := by
  simp only [readN]
  rw [if_neg h]

set_option maxRecDepth 100000 in
set_option maxHeartbeats 2000000 in
theorem read_ok (w : World) (base rg : Nat) (x : MV) (A : Option Addr) (n c : Nat) (xs : List UInt8) (count : Nat) (h : Ct w base x []) (hr : Rd w rg A n c xs) (hc : c ≤ maxLen) (hrg : base ≤ rg) (hsep : ∀ k, blkOf A = some k → 0 < n → ¬ x.M k) (hne : ¬ x.M rg) (hcnt : count ≤ 255) :
    Calls Try.prog 45 #[.pointer (some ⟨x.p, 0, none⟩), .pointer (some ⟨rg, 0, none⟩), .int .i64 count] w fun e w' =>
      e = .returned (.bool (readN count (-1) xs).isSome) ∧ Mod (fun k => base ≤ k) w w' ∧ ∀ q, readN count (-1) xs = some q → Red w w' base rg x q := by
  have H0 : Hid (Rds w base rg x xs count 0 (-1) w) := by
    refine ⟨⟨x, A, n, c, xs, [], rfl, rfl, rfl, h, hr, hc, hsep, hne, rfl, (fun r hr => by cases hr), ?_⟩, by omega, Mod.refl _ _, hrg⟩
    rw [Nat.sub_zero]
    cases readN count (-1) xs <;> rfl
  clear h hr hc hrg hsep hne
  go_enter Try.func45, Try.ntmps45
  go_wp2
  go_loopw [13, 7] (fun i l wr => ∃ (j : Nat) (last : Int), j ≤ count ∧ i = .int .i64 j ∧ l = .int .i64 last ∧ Rds w base rg x xs count j last wr) (fun i _ _ => count - (intOf i).toNat)
  case atStart => exact ⟨0, -1, by omega, rfl, rfl, H0.out⟩
  case round =>
    obtain ⟨j, last, hj, rfl, rfl, hR⟩ := hrel
    obtain ⟨x', A', m, d, ys, rs, hp, hpid, hplsn, hct, hrd, hd, hsep, hne, hrs, hlast, hrn⟩ := hR.ex
    have HR := Lib.hid hR
    have hlen := hrd.2.1.len
    by_cases hlt : j < count
    · obtain ⟨q, hq⟩ : ∃ q, count - j = q + 1 := ⟨count - j - 1, by omega⟩
      rw [hq] at hrn
      have fin : ∀ (W : World), Mod (fun k => k = rg) wr W → readN count (-1) xs = none → Mod (fun k => base ≤ k) w W := fun W hm _ => HR.out.old.trans hm (fun k _ e => by have := HR.out.rgb; omega)
      have Hfin := Lib.hid fin
      clear fin
      by_cases h2 : m < 2
      · have hnone : readN count (-1) xs = none := by rw [hrn, readN_bad (.inl (by omega))]; rfl
        have Hg := Lib.hid (get_short wr rg A' m d ys hrd 2 rfl (by omega))
        have Ht := Lib.hid (take_any wr rg A' m d ys hrd hd)
        have Hn := Lib.hid hnone
        clear hct hrd hsep hne hrn hnone hR hlast
        go_wp2_with fail
        refine Hg.out.mono ?_
        rintro e w2 ⟨rfl, rfl⟩
        go_wp2_with fail
        refine Ht.out.mono ?_
        rintro e w3 ⟨⟨B, mm, dd, er, rfl⟩, hm⟩
        have Hm := Lib.hid hm
        clear hm
        go_wp2
        go_ret
        exact ⟨by rw [Hn.out]; rfl, Hfin.out _ Hm.out Hn.out, fun q h => by rw [Hn.out] at h; cases h⟩
      · obtain ⟨v, hv⟩ : ∃ v, (ys.getD 2 0).toNat = v := ⟨_, rfl⟩
        have hv255 : v < 256 := by rw [← hv]; exact (ys.getD 2 0).toNat_lt
        obtain ⟨k, hk⟩ : ∃ k, unle (ys.take 2) = k := ⟨_, rfl⟩
        have hk1 : k < 65536 := by
          have := unle_lt (ys.take 2)
          rw [List.length_take, hk, show min 2 ys.length = 2 by omega] at this
          omega
        have hg := get_ok wr rg A' m d ys hrd hd 2 rfl (by omega)
        rw [show (2 : Int).toNat = 2 from rfl, hk] at hg
        have Hg := Lib.hid hg
        have Hct := Lib.hid hct
        have Hrd := Lib.hid hrd
        have Hsep := Lib.hid hsep
        have Hne := Lib.hid hne
        have Hrn := Lib.hid hrn
        have Hlast := Lib.hid hlast
        have Hp := Lib.hid hp
        have Hpid := Lib.hid hpid
        have Hplsn := Lib.hid hplsn
        have Hv := Lib.hid hv
        have Hk := Lib.hid hk
        have Hlen := Lib.hid hlen
        have Hd := Lib.hid hd
        have Hrs := Lib.hid hrs
        clear hct hrd hsep hne hrn hR hlast hg hp hpid hplsn hv hk hlen hd hrs
        go_wp2_with fail
        refine Hg.out.mono ?_
        rintro e w2 ⟨rfl, A2, hrd2, hA2, hm2, hs2⟩
        have hhd : ((ys.drop 2).getD 0 0).toNat = v := by rw [← Hv.out]; simp
        have Hd2 : Hid (d - 2 ≤ maxLen) := by show _ ≤ _; have := Hd.out; omega
        by_cases hts : m - 2 < 1 + v
        · have hnone : readN count (-1) xs = none := by rw [Hrn.out, readN_bad (by rw [Hv.out, Hlen.out]; omega)]; rfl
          have Ht := Lib.hid (take_short w2 rg A2 (m - 2) (d - 2) _ hrd2 (by rw [hhd]; exact hts))
          have Hn := Lib.hid hnone
          have Hm := Lib.hid hm2
          clear hrd2 hhd hm2 hs2 hnone
          go_wp2_with fail
          refine Ht.out.mono ?_
          rintro e w3 ⟨rfl, rfl⟩
          go_wp2
          go_ret
          exact ⟨by rw [Hn.out]; rfl, Hfin.out _ Hm.out Hn.out, fun q h => by rw [Hn.out] at h; cases h⟩
        · have Ht := Lib.hid (take_ok w2 rg A2 (m - 2) (d - 2) _ hrd2 Hd2.out (by omega) v hhd (by omega))
          have Hrd2 := Lib.hid hrd2
          have Hm2 := Lib.hid hm2
          have HA2 := Lib.hid hA2
          clear hrd2 hhd hm2 hA2 hs2
          go_wp2_with fail
          refine Ht.out.mono ?_
          rintro e w4 ⟨rfl, w3, hf3, A4, hrd4, hA4, hm4, hs4⟩
          have hm34 : Mod (fun k => k = rg) w2 w4 := (hf3.2.2.mono (fun _ _ e => e.elim)).trans hm4 (fun _ _ e => e)
          have hmr : Mod (fun k => k = rg) wr w4 := Hm2.out.trans hm34 (fun _ _ e => e)
          have Hmr := Lib.hid hmr
          by_cases hkl : (k : Int) ≤ last
          · have hdk : decide ((k : Int) ≤ last) = true := by simpa using hkl
            have hnone : readN count (-1) xs = none := by rw [Hrn.out, readN_bad (by rw [Hk.out]; exact .inr (.inr (.inl hkl)))]; rfl
            have Hn := Lib.hid hnone
            clear hf3 hrd4 hA4 hm4 hs4 hm34 hmr hkl hnone
            go_wp2
            go_ret
            exact ⟨by rw [Hn.out]; rfl, Hfin.out _ Hmr.out Hn.out, fun q h => by rw [Hn.out] at h; cases h⟩
          · have hdk : decide ((k : Int) ≤ last) = false := by simpa using hkl
            by_cases hv32 : 32 < v
            · have hnone : readN count (-1) xs = none := by rw [Hrn.out, readN_bad (by rw [Hv.out]; exact .inr (.inr (.inr hv32)))]; rfl
              have Hn := Lib.hid hnone
              clear hf3 hrd4 hA4 hm4 hs4 hm34 hmr hkl hnone
              go_wp2
              go_ret
              exact ⟨by rw [Hn.out]; rfl, Hfin.out _ Hmr.out Hn.out, fun q h => by rw [Hn.out] at h; cases h⟩
            · have hrgl : rg < wr.heap.size := Hrd.out.lt
              have hrg2 : rg < w2.heap.size := Hrd2.out.lt
              have hb4 : w4.heap[w2.heap.size]? = some (.cells ((((ys.drop 2).drop 1).take v).map bv).toArray 5 (0, 0)) := (hm4.block _ (by rw [hf3.2.1]; omega) (by omega)).trans hf3.1
              have hvl : (((ys.drop 2).drop 1).take v).length = v := by simp only [List.length_take, List.length_drop, Hlen.out]; omega
              have hsl := Sl.lit_ (((ys.drop 2).drop 1).take v) hb4
              rw [hvl, List.drop_drop, show 2 + 1 = 3 from rfl] at hsl
              have hct4 : Ct w4 base x' rs := Hct.out.mod hmr (fun k hk e => Hne.out (by rw [← e]; exact hk)) (fun k e cs h => by
                subst e
                rw [Hrd.out.1] at h
                injection h with h
                injection h with _ h
                exact absurd h (by decide))
              have hbase4 : base ≤ w4.heap.size := by have := HR.out.rgb; have := hmr.size; omega
              have hset := ct_set w4 base x' rs hct4 (by have := hct4.vals.len; have := Hrs.out; omega) hbase4 (k : Int) (fun r hr => by have := Hlast.out r hr; omega) ⟨some ⟨w2.heap.size, 0, none⟩, v, v⟩ _ hsl
                (fun jj hj _ => by
                  simp [blkOf] at hj
                  subst hj
                  exact ⟨by have := HR.out.rgb; omega, _, hb4⟩)
              rw [Hp.out] at hset
              have Hset := Lib.hid hset
              have Hrd4 := Lib.hid hrd4
              have HA4 := Lib.hid hA4
              have Hsz4 := Lib.hid hmr.size
              have Hct4 := Lib.hid hct4
              have Hbad : Hid (¬ (ys.length < 3 ∨ ys.length < 3 + (ys.getD 2 0).toNat ∨ (unle (ys.take 2) : Int) ≤ last ∨ 32 < (ys.getD 2 0).toNat)) := by
                show ¬ _
                rw [Hv.out, Hk.out, Hlen.out]
                omega
              clear hf3 hrd4 hA4 hm4 hs4 hm34 hmr hkl hb4 hvl hsl hct4 hbase4 hset
              go_wp2_with fail
              refine Hset.out.mono ?_
              rintro e w5 ⟨⟨bb, rfl⟩, x5, hp5, hpid5, hplsn5, hct5, hm5, hnew5⟩
              have Hnext : Hid (Rds w base rg x xs count (j + 1) k w5) := by
                have hrdn := Hrd4.out
                refine ⟨⟨x5, A4, m - 2 - (1 + v), d - 2 - (1 + v), (ys.drop 2).drop (1 + v), rs ++ [((k : Int), (ys.drop 3).take v)], hp5, hpid5.trans Hpid.out, hplsn5.trans Hplsn.out, hct5, hrdn.mod hm5 Hne.out (fun kk e hn => Hsep.out kk (by rw [← HA2.out, ← HA4.out]; exact e) (by omega)), by have := Hd.out; omega, fun kk e hn hM => ?_, fun hM => ?_, by rw [List.length_append, List.length_singleton, Hrs.out], fun r hr => ?_, ?_⟩, by have := HR.out.low; omega, ?_, HR.out.rgb⟩
                · rcases hnew5 kk hM with e' | e'
                  · exact Hsep.out kk (by rw [← HA2.out, ← HA4.out]; exact e) (by omega) e'
                  · obtain ⟨b, o, hb, hbl⟩ := hrdn.2.1.lt hn
                    rw [hb] at e
                    simp [blkOf] at e
                    omega
                · rcases hnew5 rg hM with e' | e'
                  · exact Hne.out e'
                  · have := hrdn.lt; omega
                · rcases List.mem_append.1 hr with e | e
                  · have := Hlast.out r e; have := of_decide_eq_false hdk; omega
                  · rw [List.mem_singleton] at e; subst e; exact Int.le_refl _
                · rw [Hrn.out, readN_good1 Hbad.out, Hk.out, Hv.out, Option.map_map, show count - (j + 1) = q by omega, List.drop_drop, show 2 + (1 + v) = 3 + v by omega]
                  congr 1
                  funext z
                  simp
                · exact (HR.out.old.trans Hmr.out (fun kk _ e => by have := HR.out.rgb; omega)).trans hm5 (fun kk _ hM => (Hct4.out.at_.M_lt hM).1)
              clear hct5 hm5 hnew5
              go_wp2
              go_roundw
              case rel => exact ⟨j + 1, k, by omega, by go_num, rfl, Hnext.out⟩
              case measure => simp [intOf]; omega
    · obtain rfl : j = count := by omega
      have Hres : Hid (readN j (-1) xs = some (rs, ys)) := by
        show _ = _
        rw [hrn, Nat.sub_self]
        simp [readN]
      have Hred : Hid (Red w wr base rg x (rs, ys)) := ⟨⟨x', A', m, d, hp, hpid, hplsn, hct, hrd, hd, hne⟩⟩
      clear hct hrd hsep hne hrn hR hlast
      go_wp2
      go_ret
      exact ⟨by rw [Hres.out]; rfl, HR.out.old, fun q h => by rw [Hres.out] at h; injection h with h; rw [← h]; exact Hred.out⟩

/-- What decode leaves: a content, in memory laid since. -/
structure Dcd (w w' : World) (x : MV) (g : Pg) : Prop where
  ct : Ct w' w.heap.size x g.l
  pid : x.pid = g.id
  plsn : x.plsn = g.lsn
  old : Mod (fun _ => False) w w'
theorem dcd_none (w w1 : World) (hm : Mod (fun _ => False) w w1) : Dcd w (w1.alloc (.cells #[.int .i64 0, .int .i64 0, .slice none 0 0] 64)) ⟨w1.heap.size, 0, 0, none, 0, []⟩ nonePg :=
  ⟨⟨⟨heap_alloc_new w1 _, OwN.nil _ _ _ _, hm.size, by simp [blkOf], List.Pairwise.nil⟩, trivial⟩, rfl, rfl, hm.alloc _⟩

set_option maxRecDepth 100000 in
theorem decode_len (w : World) (A : Option Addr) (n c : Nat) (xs : List UInt8) (h : Sl w A n c xs) (hn : n ≠ 248) :
    Calls Try.prog 33 #[.slice A n c] w fun e w' => ∃ x, e = .returned (.tuple #[.pointer (some ⟨x.p, 0, none⟩), .bool (dec xs).isSome]) ∧ Dcd w w' x (cont xs) := by
  have hd : dec xs = none := by
    unfold dec
    rw [if_neg (by rw [h.len]; exact fun e => hn e.1)]
  have hcx : cont xs = nonePg := by unfold cont; rw [hd]; rfl
  rw [hcx, hd]
  have hb : ((n : Int) != 248) = true := by rw [bne_iff_ne]; omega
  have Ho := Lib.hid (dcd_none w w (Mod.refl _ w))
  clear hd hcx h
  go_enter Try.func33, Try.ntmps33
  go_wp2
  go_ret2
  exact ⟨_, rfl, Ho.out⟩
end Go.Proofs.Ytgeodpflaebbgaa
