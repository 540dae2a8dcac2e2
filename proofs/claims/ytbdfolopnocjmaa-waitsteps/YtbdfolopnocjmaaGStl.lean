/-
  wait.Still.
-/
import Derived.Test.YtbdfolopnocjmaaGAln
namespace Go.Proofs.Ytbdfolopnocjmaa
open Go Go.RowKit

/-- Those that are taken away, in order: al, of whom the first are done; c: how many waits for each are left. -/
structure Kn (L : List Wp) (al : List Int) (c : Int → Nat) : Prop where
  nd : al.Nodup
  sub : ∀ a ∈ al, a ∈ keys L ++ tgts L
  ord : ∀ q b, al[q]? = some b → ∀ a, (a, b) ∈ edg L → a ∈ al.take q
  zero : ∀ a ∈ al, c a = 0
  all : ∀ a ∈ keys L, a ∈ al ∨ c a ≠ 0
theorem Kn.len {L : List Wp} {al : List Int} {c : Int → Nat} (h : Kn L al c) : al.length ≤ L.length + (edg L).length := by
  have := nodup_len al _ h.nd h.sub
  rw [List.length_append, tgts_len] at this
  have e : (keys L).length = L.length := by simp [keys]
  omega
theorem Kn.cong {L : List Wp} {al : List Int} {c d : Int → Nat} (h : Kn L al c) (e : ∀ a, c a = d a) : Kn L al d := by
  have : c = d := funext e
  rw [← this]; exact h
/-- Who is done. -/
def dn (al : List Int) (i : Nat) : Int → Bool := fun a => !(al.take i).contains a
theorem dn_false {al : List Int} {i : Nat} {a : Int} : dn al i a = false ↔ a ∈ al.take i := by simp [dn]
theorem Kn.start {L : List Wp} {al : List Int} (hn : al.Nodup) (ha : ∀ a, a ∈ al ↔ a ∈ keys L ∧ cin L (fun _ => true) a = 0) : Kn L al (cin L (dn al 0)) := by
  have e : ∀ a, cin L (dn al 0) a = cin L (fun _ => true) a := fun a => cin_all (fun x => by simp [dn]) a
  refine ⟨hn, fun a h => List.mem_append_left _ ((ha a).1 h).1, fun q b hb a he => ?_, fun a h => by rw [e]; exact ((ha a).1 h).2, fun a hk => ?_⟩
  · have h0 := ((ha b).1 (List.mem_of_getElem? hb)).2
    have := cin_zero.1 h0 a he
    cases this
  · by_cases h0 : cin L (fun _ => true) a = 0
    · exact .inl ((ha a).2 ⟨hk, h0⟩)
    · exact .inr (by rw [e]; exact h0)
/-- The next one that is taken away: x. -/
theorem Kn.open_ {L : List Wp} {al : List Int} {i : Nat} {x : Int} (h : Kn L al (cin L (dn al i))) (hx : al[i]? = some x) : ∀ a, cin L (dn al i) a = cin L (dn al (i + 1)) a + (adj L x).count a := by
  refine fun a => cin_more (dn_false.2 ?_) (fun y => ?_) a
  · exact take_mem_of_lt (Nat.lt_succ_self _) hx
  · have e := take_succ_at hx
    unfold dn
    rw [e]
    have hxn : x ∉ al.take i := fun hm => by
      obtain ⟨j, hj, ej⟩ := mem_take_lt hm
      have := nodup_idx h.nd hx ej
      omega
    by_cases hy : y = x
    · subst hy
      simp [hxn]
    · simp [hy]
/-- A wait less. -/
theorem Kn.step {L : List Wp} {al0 al : List Int} {i j : Nat} {x t : Int} (h : Kn L al (fun y => cin L (dn al0 (i + 1)) y + ((adj L x).drop j).count y)) (hpre : al0 <+: al) (ht : (adj L x)[j]? = some t) :
    t ∉ al ∧ ((cin L (dn al0 (i + 1)) t + ((adj L x).drop j).count t = 1 → Kn L (al ++ [t]) (fun y => cin L (dn al0 (i + 1)) y + ((adj L x).drop (j + 1)).count y)) ∧
      (cin L (dn al0 (i + 1)) t + ((adj L x).drop j).count t ≠ 1 → Kn L al (fun y => cin L (dn al0 (i + 1)) y + ((adj L x).drop (j + 1)).count y))) := by
  obtain ⟨hj, et⟩ := List.getElem?_eq_some_iff.1 ht
  have hd : (adj L x).drop j = t :: (adj L x).drop (j + 1) := by rw [List.drop_eq_getElem_cons hj, et]
  have hc : ∀ y, ((adj L x).drop j).count y = ((adj L x).drop (j + 1)).count y + if y = t then 1 else 0 := by
    intro y
    rw [hd, List.count_cons]
    by_cases e : y = t
    · simp [e]
    · simp [e, Ne.symm e]
  have htn : t ∉ al := fun hm => by
    have h1 := h.zero t hm
    have h2 := hc t
    simp only [if_true] at h2
    omega
  refine ⟨htn, fun h1 => ?_, fun h1 => ?_⟩
  · have h0 : cin L (dn al0 (i + 1)) t + ((adj L x).drop (j + 1)).count t = 0 := by have := hc t; simp only [if_true] at this; omega
    refine ⟨List.nodup_append.2 ⟨h.nd, by simp, fun y hy z hz => by rw [List.mem_singleton.1 hz]; exact fun e => htn (by rw [← e]; exact hy)⟩, fun a ha => ?_, fun q b hb a he => ?_, fun a ha => ?_, fun a ha => ?_⟩
    · rcases List.mem_append.1 ha with ha | ha
      · exact h.sub a ha
      · rw [List.mem_singleton.1 ha]
        exact List.mem_append_right _ (mem_tgts.2 ⟨x, mem_adj.1 (List.mem_of_getElem? ht)⟩)
    · rcases Nat.lt_or_ge q al.length with hq | hq
      · rw [List.getElem?_append_left hq] at hb
        rw [List.take_append_of_le_length (by omega)]
        exact h.ord q b hb a he
      · have hq2 : q = al.length := by
          have := (List.getElem?_eq_some_iff.1 hb).1
          simp at this; omega
        subst hq2
        rw [List.getElem?_append_right (Nat.le_refl _)] at hb
        simp at hb
        subst hb
        rw [List.take_append_of_le_length (Nat.le_refl _), List.take_length]
        have hz : cin L (dn al0 (i + 1)) t = 0 := by omega
        exact hpre.subset (List.mem_of_mem_take (dn_false.1 (cin_zero.1 hz a he)))
    · rcases List.mem_append.1 ha with ha | ha
      · have h2 := h.zero a ha
        have := hc a
        split at this <;> omega
      · rw [List.mem_singleton.1 ha]; exact h0
    · rcases h.all a ha with h2 | h2
      · exact .inl (List.mem_append_left _ h2)
      · by_cases e : a = t
        · exact .inl (List.mem_append_right _ (by rw [e]; simp))
        · refine .inr ?_
          have := hc a
          rw [if_neg e] at this
          omega
  · refine ⟨h.nd, h.sub, h.ord, fun a ha => ?_, fun a ha => ?_⟩
    · have h2 := h.zero a ha
      have := hc a
      split at this <;> omega
    · rcases h.all a ha with h2 | h2
      · exact .inl h2
      · refine .inr ?_
        have := hc a
        by_cases e : a = t
        · subst e
          simp only [if_true] at this
          omega
        · rw [if_neg e] at this
          omega
theorem Kn.done {L : List Wp} {al : List Int} (h : Kn L al (cin L (dn al al.length))) : (∀ a, cin L (dn al al.length) a = 0) ↔ ∀ x, ¬ Rch (edg L) x x := by
  rw [← kahn (E := edg L) h.nd h.ord]
  · constructor
    · intro h0 a b hab
      have := dn_false.1 (cin_zero.1 (h0 b) a hab)
      rwa [List.take_length] at this
    · intro hall b
      refine cin_zero.2 fun a hab => dn_false.2 ?_
      rw [List.take_length]
      exact hall a b hab
  · intro a b hab
    rcases h.all a (adj_key hab) with h1 | h1
    · exact .inl h1
    · refine .inr (Classical.byContradiction fun hn => h1 (cin_zero.2 fun c hc => dn_false.2 ?_))
      rw [List.take_length]
      exact Classical.byContradiction fun hcn => hn ⟨c, hc, hcn⟩

theorem dn_pre {al al2 : List Int} {i : Nat} (h : al <+: al2) (hi : i ≤ al.length) (a : Int) : dn al i a = dn al2 i a := by
  obtain ⟨s, rfl⟩ := h
  unfold dn
  rw [List.take_append_of_le_length hi]
theorem stl_del {w1 wq w5 w6 : World} {ba n c N B : Nat} {A : Option Addr} {zs : List Int} {f : Int → Option Value} (ho : OwI wq (ba + 1) A n c zs) (hm : Mod (fun k => B ≤ k) w1 wq) (hs : ba + 1 ≤ wq.heap.size) (h5 : Mod (fun k => k = ba) wq w5)
    (hp : Mp w6 ba N f) (h6 : Mod (fun k => k = ba) w5 w6) (t : Int) (hB : B ≤ ba) :
    Hid (OwI (w6.alloc (.cells #[.int .i64 t] 3)) (ba + 1) A n c zs) ∧ Hid (Mod (fun k => B ≤ k) w1 (w6.alloc (.cells #[.int .i64 t] 3))) ∧ Hid (Mp (w6.alloc (.cells #[.int .i64 t] 3)) ba N f) ∧ Hid (ba + 1 ≤ (w6.alloc (.cells #[.int .i64 t] 3)).heap.size) := by
  have hlow : ∀ k, blkOf A = some k → ¬ k = ba := fun k e => by have := (OwV.lt ho k e).1; omega
  refine ⟨OwI.keep (OwV.mod (OwV.mod ho h5 hlow) h6 hlow) ((Mod.refl _ w6).alloc _), ?_, hp.keep ((Mod.refl _ w6).alloc _), ?_⟩
  · exact ((hm.trans h5 (fun i _ e => by omega)).trans h6 (fun i _ e => by omega)).alloc _
  · show _ ≤ _
    have := h5.size
    have := h6.size
    rw [World.size_alloc]
    omega

set_option maxRecDepth 100000 in
set_option maxHeartbeats 6400000 in
theorem still_ok (w : World) (A0 : Option Addr) (n c0 : Nat) (l : List Wt) (h : Wl w A0 n c0 l) (hf : Few l) (hk : ∀ x ∈ l, x.ok) :
    Calls Try.prog 13 #[.slice A0 n c0] w fun e w' => e = .returned (.bool (stl (edg (ps l)))) ∧ Mod (fun _ => False) w w' := by
  have HGo := Lib.hid (graphOf_ok w A0 n c0 l h hf hk)
  have hKi : ∀ a, a ∈ keys (ps l) ++ tgts (ps l) → I64 a := fun a ha => by
    rcases List.mem_append.1 ha with h | h
    · exact keys_i64 hk h
    · obtain ⟨x, hx⟩ := mem_tgts.1 h; exact (edg_i64 hk hx).2
  have hL1 : (ps l).length ≤ 1000 := by rw [ps_len]; exact hf.n
  have hL2 := hf.e
  obtain ⟨L, hL⟩ : ∃ L, ps l = L := ⟨_, rfl⟩
  rw [hL] at HGo hKi hL1 hL2 ⊢
  have HKi := Lib.hid hKi
  have HL1 := Lib.hid hL1
  have HL2 := Lib.hid hL2
  clear h hf hk hL hKi hL1 hL2
  go_enter Try.func13, Try.ntmps13
  go_wp2_with fail
  refine HGo.out.mono ?_
  rintro e w1 ⟨b, m, f, rfl, hg, hb, hm, hm1⟩
  have HG1 := Lib.hid hg
  have HM1 := Lib.hid hm1
  clear hg hm1 HGo hm hb
  go_wp2_with fail
  refine (awaited_ok _ _ _ _ _ HG1.out HL2.out (fun x y e => HKi.out y (List.mem_append_right _ (mem_tgts.2 ⟨x, e⟩)))).mono ?_
  rintro e w2 ⟨ba, rfl, hp, hba, hm2⟩
  have HG2 := Lib.hid (HG1.out.keep hm2)
  have HP2 := Lib.hid hp
  have HM2 := Lib.hid hm2
  have Hba : Hid (w1.heap.size ≤ ba) := hba
  have Hb1 : Hid (b < w1.heap.size) := HG1.out.mp.lt
  clear hp hm2 hba
  go_wp2_with fail
  refine (alone_ok _ _ _ _ _ _ _ _ HG2.out HL1.out HP2.out (fun a => Nat.le_trans (cin_le _ _ _) HL2.out)).mono ?_
  rintro e w3 ⟨A, al, c', rfl, ho, hn, ha, hm3⟩
  have HKn : Hid (Kn L al (cin L (dn al 0))) := Kn.start hn ha
  have HP3 : Hid (Mp w3 ba (tgts L).length (cnf (cin L (dn al 0)))) := by
    have := HP2.out.keep hm3
    rw [cnf_all (d := cin L (dn al 0)) (fun a => cin_all (fun x => by simp [dn]) a)] at this
    exact this
  have HO3 : Hid (OwI w3 (ba + 1) A al.length c' al) := OwV.rebase ho (fun k e => by have := (OwV.lt ho k e).1; have := HP2.out.lt; omega)
  have HM3 : Hid (Mod (fun k => w1.heap.size ≤ k) w1 w3) := (HM2.out.trans hm3 (fun _ _ h => h)).mono (fun _ _ h => h.elim)
  have HS3 : Hid (ba + 1 ≤ w3.heap.size) := by show _ ≤ _; have := HP3.out.lt; omega
  clear ho hn ha hm3 HG2 HP2 HM2
  go_wp2_with fail
  go_loopw [5, 6] (fun s i wr => ∃ (q : Nat) (A : Option Addr) (al : List Int) (c' : Nat), q ≤ al.length ∧ i = .int .i64 q ∧ s = .slice A al.length c' ∧ Kn L al (cin L (dn al q)) ∧ OwI wr (ba + 1) A al.length c' al ∧ Mp wr ba (tgts L).length (cnf (cin L (dn al q))) ∧ Mod (fun k => w1.heap.size ≤ k) w1 wr ∧ ba + 1 ≤ wr.heap.size)
    (fun _ i _ => 3000 - (intOf i).toNat)
  case atStart => exact ⟨0, A, al, c', Nat.zero_le _, rfl, rfl, HKn.out, HO3.out, HP3.out, HM3.out, HS3.out⟩
  case round =>
    obtain ⟨q, A, al, c', hq, rfl, rfl, hkn, ho, hp, hm, hs⟩ := hrel
    have HKn1 := Lib.hid hkn
    have HO := Lib.hid ho
    have HP := Lib.hid hp
    have HM := Lib.hid hm
    have HS := Lib.hid hs
    have Hal : Hid (al.length ≤ 2000) := by show _ ≤ _; have := hkn.len; have := HL1.out; have := HL2.out; omega
    have hal : al.length ≤ 2000 := Hal.out
    clear hkn ho hp hm hs HKn HO3 HP3 HM3 HS3
    by_cases hlt : q < al.length
    · obtain ⟨x, hx⟩ : ∃ x, al[q]? = some x := ⟨_, List.getElem?_eq_getElem hlt⟩
      obtain ⟨B0, o0, hA, hc⟩ := HO.out.il.2.2 (by omega)
      have s0 := hc q x hx
      rw [hA] at HO ⊢
      have hxi : I64 x := HKi.out x (HKn1.out.sub x (List.mem_of_getElem? hx))
      have hgr := HG1.out.old HM.out
      obtain ⟨G, k, d, hget, hil⟩ := HG1.out.get x
      have hlk := hgr.mp.look (t := 35) Try.underlying35 (zeroRow _) hxi
      rw [hget] at hlk
      have HIl := Lib.hid hil
      have hkl : k ≤ 1000 := by have := hil.len; have := adj_len L x; have := HL2.out; omega
      have Hxo : Hid (∀ a, cin L (dn al q) a = cin L (dn al (q + 1)) a + (adj L x).count a) := HKn1.out.open_ hx
      have HK2 : Hid (Kn L al (fun y => cin L (dn al (q + 1)) y + ((adj L x).drop 0).count y)) := HKn1.out.cong (fun a => by rw [Hxo.out]; rfl)
      have HP2 : Hid (Mp wr ba (tgts L).length (cnf (fun y => cin L (dn al (q + 1)) y + ((adj L x).drop 0).count y))) := by
        have := HP.out
        rw [cnf_all Hxo.out] at this
        exact this
      clear hc hA hx hxi hgr hget hil HKn1 HP Hxo
      go_wp2_with fail
      clear hlk s0
      go_loopw [5, 29] (fun s i wq => ∃ (j : Nat) (A : Option Addr) (al2 : List Int) (c' : Nat), j ≤ k ∧ i = .int .i64 j ∧ s = .slice A al2.length c' ∧ al <+: al2 ∧ Kn L al2 (fun y => cin L (dn al (q + 1)) y + ((adj L x).drop j).count y) ∧ OwI wq (ba + 1) A al2.length c' al2 ∧ Mp wq ba (tgts L).length (cnf (fun y => cin L (dn al (q + 1)) y + ((adj L x).drop j).count y)) ∧ Mod (fun k => w1.heap.size ≤ k) w1 wq ∧ ba + 1 ≤ wq.heap.size)
        (fun _ i _ => k - (intOf i).toNat)
      case atStart => exact ⟨0, _, al, c', Nat.zero_le _, rfl, rfl, List.prefix_rfl, HK2.out, HO.out, HP2.out, HM.out, HS.out⟩
      case round =>
        obtain ⟨j, A2, al2, c2, hj, rfl, rfl, hpre, hkn, ho, hp, hm, hs⟩ := hrel
        have Hpre := Lib.hid hpre
        have HKn3 := Lib.hid hkn
        have HO3 := Lib.hid ho
        have HP3 := Lib.hid hp
        have HM3 := Lib.hid hm
        have HS3 := Lib.hid hs
        have Hal2 : Hid (al2.length ≤ 2000) := by show _ ≤ _; have := hkn.len; have := HL1.out; have := HL2.out; omega
        have hal2 : al2.length ≤ 2000 := Hal2.out
        clear hpre hkn ho hp hm hs HK2 HO HP2 HM HS
        by_cases hlt2 : j < k
        · obtain ⟨B1, o1, hG, hc⟩ := (HIl.out.old HM3.out).2.2 (by omega)
          have hjl : j < (adj L x).length := by have := HIl.out.len; omega
          obtain ⟨t, ht⟩ : ∃ t, (adj L x)[j]? = some t := ⟨_, List.getElem?_eq_getElem hjl⟩
          have s1 := hc j t ht
          rw [hG]
          obtain ⟨htn, hst1, hst2⟩ := HKn3.out.step Hpre.out ht
          have hti : I64 t := HKi.out t (List.mem_append_right _ (mem_tgts.2 ⟨x, mem_adj.1 (List.mem_of_getElem? ht)⟩))
          have hlk := HP3.out.look (t := 40) Try.underlying40 (zeroInt _) hti
          rw [cnf_get] at hlk
          have hct : ∀ y, ((adj L x).drop j).count y = ((adj L x).drop (j + 1)).count y + if y = t then 1 else 0 := by
            intro y
            obtain ⟨hj', et⟩ := List.getElem?_eq_some_iff.1 ht
            rw [List.drop_eq_getElem_cons hj', et, List.count_cons]
            by_cases e : y = t
            · simp [e]
            · simp [e, Ne.symm e]
          have hcs : ∀ y, (cin L (dn al (q + 1)) y + ((adj L x).drop j).count y) - (if y = t then 1 else 0) = cin L (dn al (q + 1)) y + ((adj L x).drop (j + 1)).count y := by
            intro y; rw [hct y]; split <;> omega
          have hge : 1 ≤ cin L (dn al (q + 1)) t + ((adj L x).drop j).count t := by rw [hct t]; simp; omega
          have hle : cin L (dn al (q + 1)) t + ((adj L x).drop j).count t ≤ 2000 := by
            have h1 := cin_le L (dn al (q + 1)) t
            have h2 : ((adj L x).drop j).count t ≤ (edg L).length := Nat.le_trans (Nat.le_trans List.count_le_length (by rw [List.length_drop]; omega)) (adj_len L x)
            have := HL2.out
            omega
          have Hup : Hid (2 ≤ cin L (dn al (q + 1)) t + ((adj L x).drop j).count t → upd (cnf fun y => cin L (dn al (q + 1)) y + ((adj L x).drop j).count y) t (some (.int .i64 ((((cin L (dn al (q + 1)) t + ((adj L x).drop j).count t : Nat)) : Int) - 1))) = cnf (fun y => cin L (dn al (q + 1)) y + ((adj L x).drop (j + 1)).count y)) := fun h2 => by
            rw [cnf_down (c := fun y => cin L (dn al (q + 1)) y + ((adj L x).drop j).count y) h2, cnf_all hcs]
          have Hout : Hid (cin L (dn al (q + 1)) t + ((adj L x).drop j).count t = 1 → ∀ v, upd (upd (cnf fun y => cin L (dn al (q + 1)) y + ((adj L x).drop j).count y) t (some v)) t none = cnf (fun y => cin L (dn al (q + 1)) y + ((adj L x).drop (j + 1)).count y)) := fun h2 v => by
            rw [cnf_out (c := fun y => cin L (dn al (q + 1)) y + ((adj L x).drop j).count y) h2, cnf_all hcs]
          have Htg : Hid (∀ a v, cnf (fun y => cin L (dn al (q + 1)) y + ((adj L x).drop (j + 1)).count y) a = some v → a ∈ tgts L) := fun a v hv => by
            have h7 : ¬ (cnf (fun y => cin L (dn al (q + 1)) y + ((adj L x).drop (j + 1)).count y) a = none) := by rw [hv]; intro h; cases h
            rw [cnf_none] at h7
            by_cases h8 : cin L (dn al (q + 1)) a = 0
            · have h9 : 0 < ((adj L x).drop (j + 1)).count a := by omega
              exact mem_tgts.2 ⟨x, mem_adj.1 (List.mem_of_mem_drop (List.count_pos_iff.1 h9))⟩
            · exact cin_tgts h8
          have Hst1 := Lib.hid hst1
          have Hst2 := Lib.hid hst2
          have Hti := Lib.hid hti
          have hml : (tgts L).length < maxLen := by rw [tgts_len]; have := HL2.out; unfold maxLen; omega
          have hml1 : Hid ((tgts L).length ≤ 1000) := by show _ ≤ _; rw [tgts_len]; exact HL2.out
          obtain ⟨z, hz⟩ : ∃ z, cin L (dn al (q + 1)) t + ((adj L x).drop j).count t = z := ⟨_, rfl⟩
          rw [hz] at hlk hge hle Hup Hout Hst1 Hst2
          clear hc hG hjl ht htn hst1 hst2 hti hct hcs hz
          by_cases h1 : z = 1
          · subst h1
            have hmlz : ((1 : Nat) : Int) = 1 := rfl
            rw [hmlz] at hlk
            go_wp2_with (first
              | (at_mapUpdate; refine wpList_store_mp (val := .int .i64 0) rfl _ _ _ rfl Try.underlying40 rfl HP3.out hml rfl rfl Hti.out ?_; intro w5 h3 h4 h5; have hlk5 := h3.look (t := 40) Try.underlying40 (zeroInt _) Hti.out; rw [upd_same] at hlk5; have H3 := Lib.hid h3; have H4 := Lib.hid h4; clear h3 h4 h5)
              | (at_delete; refine wpList_delete_mp rfl _ _ rfl Try.underlying40 rfl H3.out rfl Hti.out ?_; intro w6 h3 h4 h5; obtain ⟨HO6, HM6, HP6, HS6⟩ := stl_del HO3.out HM3.out HS3.out H4.out h3 h4 t (by have := Hba.out; omega); have Hsrc := Lib.hid (Src.one w6 (.int .i64 t) 3 rfl); clear h3 h4 h5 H3 H4)
              | (at_builtin; refine wpList_app (.tmp 43) (.tmp 45) intElem rfl rfl rfl rfl HO6.out Hsrc.out (by omega) (by unfold maxLen; omega) HS6.out ?_; intro A' c3 w7 h1 h2 h3; have H1 := Lib.hid h1; have H2 := Lib.hid h2; clear h1 h2 h3)
              | fail)
            go_roundw
            case rel =>
              have hlow : ∀ i, blkOf A2 = some i → ba + 1 ≤ i := fun i e => (OwV.lt HO6.out i e).1
              have hmA := grown_mod H2.out
              refine ⟨j + 1, A', al2 ++ [t], c3, by omega, by go_num, by simp, Hpre.out.trans (List.prefix_append _ _), Hst1.out rfl, ?_, ?_, HM6.out.trans hmA (fun i _ e => by have := hlow _ e; have := Hba.out; omega), Nat.le_trans HS6.out hmA.size⟩
              · have := H1.out
                rw [List.length_append]
                unfold OwI
                rw [ivs_append]
                exact this
              · have h6 := HP6.out.mod hmA (fun e => by have := hlow _ e; omega)
                rw [Hout.out rfl] at h6
                exact h6.few (tgts L) Htg.out
            case measure => simp [intOf]; omega
          · obtain ⟨zi, hzi⟩ : ∃ zi : Int, ((z : Nat) : Int) = zi := ⟨_, rfl⟩
            have hz0 : 2 ≤ zi := by omega
            have hz1 : zi ≤ 2000 := by omega
            have hzn : (zi - 1 == 0) = false := by simp; omega
            have h2z : 2 ≤ z := by omega
            rw [hzi] at hlk
            have Hzi := Lib.hid hzi
            have H2z := Lib.hid h2z
            have H1z := Lib.hid h1
            clear hzi h2z h1 hge hle
            go_wp2_with (first
              | (at_mapUpdate; refine wpList_store_mp (val := .int .i64 (zi - 1)) rfl _ _ _ rfl Try.underlying40 rfl HP3.out hml rfl rfl Hti.out ?_; intro w5 h3 h4 h5; have hlk5 := h3.look (t := 40) Try.underlying40 (zeroInt _) Hti.out; rw [upd_same] at hlk5; have H3 := Lib.hid h3; have H4 := Lib.hid h4; clear h3 h4 h5)
              | fail)
            go_roundw
            case rel =>
              refine ⟨j + 1, A2, al2, c2, by omega, by go_num, rfl, Hpre.out, Hst2.out H1z.out, OwV.mod HO3.out H4.out (fun i e => by have := (OwV.lt HO3.out i e).1; omega), ?_, HM3.out.trans H4.out (fun i _ e => by have := Hba.out; omega), Nat.le_trans HS3.out H4.out.size⟩
              have h6 := H3.out
              have h7 := Hup.out H2z.out
              rw [Hzi.out] at h7
              rw [h7] at h6
              exact h6.few (tgts L) Htg.out
            case measure => simp [intOf]; omega
        · obtain rfl : j = k := by omega
          have hql : q + 1 ≤ al.length := hlt
          have hcc : ∀ y, cin L (dn al (q + 1)) y + ((adj L x).drop j).count y = cin L (dn al2 (q + 1)) y := fun y => by
            rw [List.drop_of_length_le (by have := HIl.out.len; omega)]
            exact cin_all (dn_pre Hpre.out hql) y
          have HKn4 : Hid (Kn L al2 (cin L (dn al2 (q + 1)))) := HKn3.out.cong hcc
          have HP4 : Hid (Mp wr ba (tgts L).length (cnf (cin L (dn al2 (q + 1))))) := by have := HP3.out; rw [cnf_all hcc] at this; exact this
          have hpl : al.length ≤ al2.length := Hpre.out.length_le
          clear hcc HKn3 HP3
          go_wp2
          go_roundw
          case rel => exact ⟨q + 1, A2, al2, c2, by omega, by go_num, rfl, HKn4.out, HO3.out, HP4.out, HM3.out, HS3.out⟩
          case measure => simp [intOf]; omega
    · obtain rfl : q = al.length := by omega
      obtain ⟨kk, hlen, hkk⟩ := HP.out.len (t := 40) Try.underlying40
      have Hkk : Hid (((kk : Int) == 0) = stl (edg L)) := by
        show _ = _
        rw [Bool.eq_iff_iff, stl_true, ← HKn1.out.done]
        have h1 : (((kk : Nat) : Int) == 0) = true ↔ kk = 0 := by simp
        rw [h1, hkk]
        exact ⟨fun h a => cnf_none.1 (h a), fun h a => cnf_none.2 (h a)⟩
      have HME : Hid (Mod (fun _ => False) w wr) := HM1.out.trans HM.out (fun i hi e => by have := HM1.out.size; omega)
      clear hkk
      go_wp2
      go_ret
      exact ⟨by rw [Hkk.out]; rfl, HME.out⟩
end Go.Proofs.Ytbdfolopnocjmaa
