/-
  bobbinref12: Blockers.
-/
import Derived.Test.YtpkjafadhnecfaaKRef
import Derived.Test.YtpkjafadhnecfaaKBlk
namespace Go.Proofs.Ytpkjafadhnecfaa
open Go Go.RowKit

/-- What has been found among the first i: the least of those that meet p, if there is one. -/
def Scn (p : Tr → Bool) (l : List Tr) (i : Nat) (f : Bool) (v : Int) : Prop :=
  (f = false ∧ ∀ h ∈ l.take i, p h = false) ∨ (f = true ∧ (∃ h ∈ l.take i, p h = true ∧ h.a = v) ∧ ∀ h ∈ l.take i, p h = true → v ≤ h.a)
theorem Scn.zero (p : Tr → Bool) (l : List Tr) (v : Int) : Scn p l 0 false v := .inl ⟨rfl, by simp⟩
section
variable {p : Tr → Bool} {l : List Tr} {i : Nat} {f : Bool} {v : Int}
theorem mem_take_succ (hi : i < l.length) {h : Tr} : h ∈ l.take (i + 1) ↔ h ∈ l.take i ∨ h = atS l i := by
  rw [← List.take_append_getElem hi, List.mem_append, List.mem_singleton, ← atS_at hi]
theorem Scn.no (hs : Scn p l i f v) (hi : i < l.length) (hp : p (atS l i) = false) : Scn p l (i + 1) f v := by
  rcases hs with ⟨hf, ha⟩ | ⟨hf, ⟨h, hm, hph, hv⟩, ha⟩
  · refine .inl ⟨hf, fun h hm => ?_⟩
    rcases (mem_take_succ hi).1 hm with h1 | rfl
    · exact ha h h1
    · exact hp
  · refine .inr ⟨hf, ⟨h, (mem_take_succ hi).2 (.inl hm), hph, hv⟩, fun k hk hpk => ?_⟩
    rcases (mem_take_succ hi).1 hk with h1 | rfl
    · exact ha k h1 hpk
    · rw [hp] at hpk; cases hpk
theorem Scn.first (hs : Scn p l i false v) (hi : i < l.length) (hp : p (atS l i) = true) : Scn p l (i + 1) true (atS l i).a := by
  rcases hs with ⟨_, ha⟩ | ⟨hf, _⟩
  · refine .inr ⟨rfl, ⟨_, (mem_take_succ hi).2 (.inr rfl), hp, rfl⟩, fun k hk hpk => ?_⟩
    rcases (mem_take_succ hi).1 hk with h1 | rfl
    · rw [ha k h1] at hpk; cases hpk
    · exact Int.le_refl _
  · cases hf
theorem Scn.less (hs : Scn p l i true v) (hi : i < l.length) (hp : p (atS l i) = true) (hl : (atS l i).a < v) : Scn p l (i + 1) true (atS l i).a := by
  rcases hs with ⟨hf, _⟩ | ⟨_, _, ha⟩
  · cases hf
  · refine .inr ⟨rfl, ⟨_, (mem_take_succ hi).2 (.inr rfl), hp, rfl⟩, fun k hk hpk => ?_⟩
    rcases (mem_take_succ hi).1 hk with h1 | rfl
    · have := ha k h1 hpk; omega
    · exact Int.le_refl _
theorem Scn.more (hs : Scn p l i true v) (hi : i < l.length) (hl : ¬ (atS l i).a < v) : Scn p l (i + 1) true v := by
  rcases hs with ⟨hf, _⟩ | ⟨_, ⟨h, hm, hph, hv⟩, ha⟩
  · cases hf
  · refine .inr ⟨rfl, ⟨h, (mem_take_succ hi).2 (.inl hm), hph, hv⟩, fun k hk hpk => ?_⟩
    rcases (mem_take_succ hi).1 hk with h1 | rfl
    · exact ha k h1 hpk
    · omega
end
/-- Who blocks, and stands behind the last one that was told. -/
def cdF (tx res mode : Int) (j : Nat) (last : Int) (h : Tr) : Bool := blF tx res mode h && (decide (j = 0) || decide (last < h.a))
theorem cdF_iff {tx res mode last : Int} {j : Nat} {h : Tr} : cdF tx res mode j last h = true ↔ blF tx res mode h = true ∧ (j = 0 ∨ last < h.a) := by simp [cdF]
theorem asc_lt {bs : List Int} (h : bs.Pairwise (· < ·)) {i j : Nat} (hij : i < j) (hj : j < bs.length) : bs.getD i 0 < bs.getD j 0 := by
  have e1 : bs.getD i 0 = bs[i] := by simp [Nat.lt_trans hij hj]
  have e2 : bs.getD j 0 = bs[j] := by simp [hj]
  rw [e1, e2]
  exact List.pairwise_iff_getElem.1 h i j (Nat.lt_trans hij hj) hj hij
theorem getD_in {bs : List Int} {q : Nat} (h : q < bs.length) : bs.getD q 0 ∈ bs := by
  have e : bs.getD q 0 = bs[q] := by simp [h]
  rw [e]
  exact List.getElem_mem h
theorem scan_none {l : List Tr} {tx res mode v : Int} {j : Nat} (hj : j ≤ (blks l tx res mode).length)
    (hs : Scn (cdF tx res mode j ((blks l tx res mode).getD (j - 1) 0)) l l.length false v) : j = (blks l tx res mode).length := by
  rcases hs with ⟨_, ha⟩ | ⟨hf, _⟩
  · rcases Nat.lt_or_ge j (blks l tx res mode).length with hlt | hge
    · exfalso
      obtain ⟨h, hm, he, hb⟩ := mem_blks.1 (getD_in hlt)
      have := ha h (by rw [List.take_length]; exact hm)
      rw [cdF_iff.2 ⟨hb, by
        rcases Nat.eq_zero_or_pos j with h0 | h0
        · exact .inl h0
        · right; rw [he]; exact asc_lt (blks_asc l tx res mode) (by omega) hlt⟩] at this
      cases this
    · omega
  · cases hf
theorem scan_some {l : List Tr} {tx res mode v : Int} {j : Nat} (hj : j ≤ (blks l tx res mode).length)
    (hs : Scn (cdF tx res mode j ((blks l tx res mode).getD (j - 1) 0)) l l.length true v) : j < (blks l tx res mode).length ∧ v = (blks l tx res mode).getD j 0 := by
  rcases hs with ⟨hf, _⟩ | ⟨_, ⟨h, hm, hp, rfl⟩, ha⟩
  · cases hf
  · rw [List.take_length] at hm ha
    obtain ⟨hb, hl⟩ := cdF_iff.1 hp
    have hin : h.a ∈ blks l tx res mode := mem_blks.2 ⟨h, hm, rfl, hb⟩
    obtain ⟨k, hk, he⟩ := List.mem_iff_getElem.1 hin
    have hek : (blks l tx res mode).getD k 0 = h.a := by simp [hk, he]
    have hjk : j ≤ k := by
      rcases hl with h0 | hl
      · omega
      · rcases Nat.lt_or_ge k j with hlt | hge
        · exfalso
          rw [← hek] at hl
          rcases Nat.lt_or_eq_of_le (show k ≤ j - 1 by omega) with h1 | h1
          · rcases Nat.lt_or_ge (j - 1) (blks l tx res mode).length with h2 | h2
            · have := asc_lt (blks_asc l tx res mode) h1 h2; omega
            · omega
          · subst h1; omega
        · exact hge
    have hjl : j < (blks l tx res mode).length := by omega
    refine ⟨hjl, ?_⟩
    rcases Nat.lt_or_eq_of_le hjk with h1 | h1
    · exfalso
      have hlt := asc_lt (blks_asc l tx res mode) h1 hk
      obtain ⟨h', hm', he', hb'⟩ := mem_blks.1 (getD_in hjl)
      have := ha h' hm' (cdF_iff.2 ⟨hb', by
        rcases Nat.eq_zero_or_pos j with h0 | h0
        · exact .inl h0
        · right; rw [he']; exact asc_lt (blks_asc l tx res mode) (by omega) hjl⟩)
      omega
    · subst h1; exact hek.symm
/-- How long a slice value is. -/
def lenV : Value → Nat
  | .slice _ n _ => n
  | _ => 0
theorem take_succ_getD {bs : List Int} {j : Nat} (h : j < bs.length) : bs.take (j + 1) = bs.take j ++ [bs.getD j 0] := by
  have e : bs.getD j 0 = bs[j] := by simp [h]
  rw [e, List.take_append_getElem h]

set_option maxRecDepth 100000 in
set_option maxHeartbeats 6400000 in
theorem rblockers_ok (w : World) (A0 : Option Addr) (n c0 : Nat) (l : List Tr) (h : Tl w A0 n c0 l) (hn : n ≤ 1000) (ht : ∀ x ∈ l, T64 x) (tx res mode : Int) (hmode : I64 mode) :
    Calls Try.prog 13 #[.slice A0 n c0, .int .i64 tx, .int .i64 res, .int .i64 mode] w fun e w' => BkAns w w' (blks l tx res mode) e := by
  have HX := Lib.hid h
  have Hl : Hid (l.length = n) := h.len
  have HT : Hid (∀ i, i < n → I64 (atS l i).c) := fun i hi => by
    have hi' : i < l.length := by rw [Hl.out]; exact hi
    rw [atS_at hi']
    exact (ht _ (List.getElem_mem hi')).2.2
  have HCl := Lib.hid (fun V a (ha : I64 a) => rclash_ok V a mode ha hmode)
  have Hnone : Hid (∀ j v, j ≤ (blks l tx res mode).length → Scn (cdF tx res mode j ((blks l tx res mode).getD (j - 1) 0)) l n false v → j = (blks l tx res mode).length) := fun j v hj hs => scan_none hj (by rw [Hl.out]; exact hs)
  have Hsome : Hid (∀ j v, j ≤ (blks l tx res mode).length → Scn (cdF tx res mode j ((blks l tx res mode).getD (j - 1) 0)) l n true v → j < (blks l tx res mode).length ∧ v = (blks l tx res mode).getD j 0) := fun j v hj hs => scan_some hj (by rw [Hl.out]; exact hs)
  have Hbl : Hid ((blks l tx res mode).length ≤ n) := by show _ ≤ _; rw [← Hl.out]; exact blks_len l tx res mode
  clear h ht hmode
  generalize blks l tx res mode = bs at *
  have hbl := Hbl.out
  have HR : Hid (Blr w w (bs.take 0) none 0 0) := ⟨OwV.nil _ _ _, Mod.refl _ _⟩
  go_enter Try.func13, Try.ntmps13
  go_wp2
  go_loopw [9] (fun s wr => ∃ (j : Nat) (A : Option Addr) (c : Nat), j ≤ bs.length ∧ s = .slice A j c ∧ Blr w wr (bs.take j) A j c) (fun s _ => bs.length + 1 - lenV s)
  case atStart => exact ⟨0, none, 0, Nat.zero_le _, rfl, HR.out⟩
  case round =>
    obtain ⟨j, A, c, hj, rfl, hr⟩ := hrel
    have Hr := Lib.hid hr
    have HN := Lib.hid (fun v => Hnone.out j v hj)
    have HS := Lib.hid (fun v => Hsome.out j v hj)
    clear hr HR
    have hjc : (bs.take j).length = j := by rw [List.length_take]; omega
    have Hjc := Lib.hid hjc
    clear hjc
    generalize hla : bs.getD (j - 1) 0 = last at *
    have Hla := Lib.hid hla
    clear hla
    obtain ⟨wo, hwo⟩ : ∃ wo, wo = wr := ⟨_, rfl⟩
    subst hwo
    have HZ : Hid (Scn (cdF tx res mode j last) l 0 false 0) := Scn.zero _ _ _
    go_wp2
    go_loopw [10, 11, 12] (fun p q s wr => ∃ (i : Nat) (f : Bool) (v : Int), i ≤ n ∧ s = .int .i64 i ∧ p = .bool f ∧ q = .int .i64 v ∧ Scn (cdF tx res mode j last) l i f v ∧ Mod (fun _ => False) wo wr) (fun _ _ s _ => n - (intOf s).toNat)
    case atStart => exact ⟨0, false, 0, Nat.zero_le _, rfl, rfl, rfl, HZ.out, Mod.refl _ _⟩
    case round =>
      obtain ⟨i, f, v, hi, rfl, rfl, rfl, hsc, hw⟩ := hrel
      have Hw := Lib.hid hw
      have Hsc := Lib.hid hsc
      clear hw hsc HZ
      by_cases hlt : i < n
      · have hil : i < l.length := by rw [Hl.out]; exact hlt
        obtain ⟨b, o, hS, hc⟩ := (HX.out.keep (Hr.out.old.trans Hw.out (fun _ _ h => h))).cells (by omega)
        rw [hS]
        obtain ⟨s0, s1, s2⟩ := hc i hlt
        have HI := Lib.hid (HT.out i hlt)
        have Sno : Hid (cdF tx res mode j last (atS l i) = false → Scn (cdF tx res mode j last) l (i + 1) f v) := fun hp => Hsc.out.no hil hp
        have Sfst : Hid (f = false → cdF tx res mode j last (atS l i) = true → Scn (cdF tx res mode j last) l (i + 1) true (atS l i).a) := fun hf hp => by have h := Hsc.out; rw [hf] at h; exact h.first hil hp
        have Slss : Hid (f = true → cdF tx res mode j last (atS l i) = true → (atS l i).a < v → Scn (cdF tx res mode j last) l (i + 1) true (atS l i).a) := fun hf hp hx => by have h := Hsc.out; rw [hf] at h; exact h.less hil hp hx
        have Smor : Hid (f = true → ¬ (atS l i).a < v → Scn (cdF tx res mode j last) l (i + 1) true v) := fun hf hx => by have h := Hsc.out; rw [hf] at h; exact h.more hil hx
        generalize atS l i = x at *
        have Hcl := Lib.hid (fun V => HCl.out V x.c HI.out)
        have Hbf : Hid (blF tx res mode x = ((x.a != tx) && ((x.b == res) && clB x.c mode))) := by show blF tx res mode x = _; rw [Bool.eq_iff_iff, blF_iff]; simp
        have Hcd : Hid (cdF tx res mode j last x = (blF tx res mode x && (decide (j = 0) || decide (last < x.a)))) := rfl
        rw [Hbf.out] at Hcd
        generalize clB x.c mode = cl at *
        have Hw2 := Lib.hid (Hw.out.alloc (.cells #[.int .i64 x.a, .int .i64 x.b, .int .i64 x.c] 37))
        clear hc hS Hbf Hsc hil
        by_cases ha : x.a = tx
        · have hd1 : (x.a != tx) = false := by simpa using ha
          clear ha
          have Hnx := Lib.hid (Sno.out (by rw [Hcd.out]; simp [hd1]))
          go_wp2_with fail
          refine (Hcl.out _).mono ?_
          rintro e w5 ⟨rfl, h'⟩; subst w5
          go_wp2_with fail
          go_quiet (fail)
          go_wp2
          go_roundw
          case rel => exact ⟨i + 1, f, v, by omega, by go_num, rfl, rfl, Hnx.out, Hw2.out.drewN _⟩
          case measure => simp [intOf]; omega
        · have hd1 : (x.a != tx) = true := by simpa using ha
          clear ha
          by_cases hb : x.b = res
          · have hd2 : (x.b == res) = true := by simpa using hb
            clear hb
            cases cl with
            | false =>
              have Hnx := Lib.hid (Sno.out (by rw [Hcd.out]; simp))
              go_wp2_with fail
              refine (Hcl.out _).mono ?_
              rintro e w5 ⟨rfl, h'⟩; subst w5
              go_wp2_with fail
              go_quiet (fail)
              go_wp2
              go_roundw
              case rel => exact ⟨i + 1, f, v, by omega, by go_num, rfl, rfl, Hnx.out, Hw2.out.drewN _⟩
              case measure => simp [intOf]; omega
            | true =>
              by_cases h0 : j = 0
              · have hj0 : ((j : Int) == 0) = true := by simpa using h0
                have H0 := Lib.hid h0
                clear h0
                cases f with
                | false =>
                  have Hnx := Lib.hid (Sfst.out rfl (by rw [Hcd.out]; simp [hd1, hd2, H0.out]))
                  go_wp2_with fail
                  refine (Hcl.out _).mono ?_
                  rintro e w5 ⟨rfl, h'⟩; subst w5
                  go_wp2_with fail
                  go_quiet (fail)
                  go_wp2
                  go_roundw
                  case rel => exact ⟨i + 1, true, x.a, by omega, by go_num, rfl, rfl, Hnx.out, Hw2.out.drewN _⟩
                  case measure => simp [intOf]; omega
                | true =>
                  by_cases hx : x.a < v
                  · have hdx : decide (x.a < v) = true := decide_eq_true hx
                    have Hnx := Lib.hid (Slss.out rfl (by rw [Hcd.out]; simp [hd1, hd2, H0.out]) hx)
                    go_wp2_with fail
                    refine (Hcl.out _).mono ?_
                    rintro e w5 ⟨rfl, h'⟩; subst w5
                    go_wp2_with fail
                    go_quiet (fail)
                    go_wp2
                    go_roundw
                    case rel => exact ⟨i + 1, true, x.a, by omega, by go_num, rfl, rfl, Hnx.out, Hw2.out.drewN _⟩
                    case measure => simp [intOf]; omega
                  · have hdx : decide (x.a < v) = false := decide_eq_false hx
                    have Hnx := Lib.hid (Smor.out rfl hx)
                    go_wp2_with fail
                    refine (Hcl.out _).mono ?_
                    rintro e w5 ⟨rfl, h'⟩; subst w5
                    go_wp2_with fail
                    go_quiet (fail)
                    go_wp2
                    go_roundw
                    case rel => exact ⟨i + 1, true, v, by omega, by go_num, rfl, rfl, Hnx.out, Hw2.out.drewN _⟩
                    case measure => simp [intOf]; omega
              · have hkj : ∃ k, j = k + 1 := ⟨j - 1, by omega⟩
                obtain ⟨k, hk⟩ := hkj
                obtain ⟨g, hA, hcA⟩ := OwV.cells (Hr.out.own.keep Hw.out) (by omega)
                have ck := hcA k (by omega)
                have hck : (ivs (bs.take j))[k]? = some (.int .i64 last) := by
                  have hkb : k < bs.length := by omega
                  have e : last = bs.getD k 0 := by rw [← Hla.out, hk]; rfl
                  rw [e, ivs, List.getElem?_map, List.getElem?_take, if_pos (by omega), List.getD_eq_getElem?_getD, List.getElem?_eq_getElem hkb]
                  rfl
                rw [hck] at ck
                rw [hA]
                have hgl := World.block_lt_of_cell? _ _ ck
                have hgne : g ≠ wr.heap.size := by simp at hgl; omega
                clear hgl
                have hj0 : ((j : Int) == 0) = false := by simpa using h0
                have hsub : (j : Int) - 1 = (k : Int) := by omega
                have hwr : IntKind.i64.wrap (k : Int) = (k : Int) := by rw [IntKind.wrap_i64]; omega
                have hkl : k < j := by omega
                have Hck := Lib.hid ck
                have ck2 : (wr.alloc (.cells #[.int .i64 x.a, .int .i64 x.b, .int .i64 x.c] 37)).cell? ⟨g, k, none⟩ = some (.int .i64 last) := (World.cell?_of_block (((Mod.refl (fun _ => False) wr).alloc _).block g (World.block_lt_of_cell? _ _ ck) id)).trans ck
                have H0 := Lib.hid h0
                clear hk hA hcA hck h0
                by_cases hgt : last < x.a
                · have hdl : decide (last < x.a) = true := decide_eq_true hgt
                  cases f with
                  | false =>
                    have Hnx := Lib.hid (Sfst.out rfl (by rw [Hcd.out]; simp [hd1, hd2, hgt]))
                    go_wp2_with fail
                    refine (Hcl.out _).mono ?_
                    rintro e w5 ⟨rfl, h'⟩; subst w5
                    go_wp2_with fail
                    go_quiet (fail)
                    go_wp2
                    go_roundw
                    case rel => exact ⟨i + 1, true, x.a, by omega, by go_num, rfl, rfl, Hnx.out, Hw2.out.drewN _⟩
                    case measure => simp [intOf]; omega
                  | true =>
                    by_cases hx : x.a < v
                    · have hdx : decide (x.a < v) = true := decide_eq_true hx
                      have Hnx := Lib.hid (Slss.out rfl (by rw [Hcd.out]; simp [hd1, hd2, hgt]) hx)
                      go_wp2_with fail
                      refine (Hcl.out _).mono ?_
                      rintro e w5 ⟨rfl, h'⟩; subst w5
                      go_wp2_with fail
                      go_quiet (fail)
                      go_wp2
                      go_roundw
                      case rel => exact ⟨i + 1, true, x.a, by omega, by go_num, rfl, rfl, Hnx.out, Hw2.out.drewN _⟩
                      case measure => simp [intOf]; omega
                    · have hdx : decide (x.a < v) = false := decide_eq_false hx
                      have Hnx := Lib.hid (Smor.out rfl hx)
                      go_wp2_with fail
                      refine (Hcl.out _).mono ?_
                      rintro e w5 ⟨rfl, h'⟩; subst w5
                      go_wp2_with fail
                      go_quiet (fail)
                      go_wp2
                      go_roundw
                      case rel => exact ⟨i + 1, true, v, by omega, by go_num, rfl, rfl, Hnx.out, Hw2.out.drewN _⟩
                      case measure => simp [intOf]; omega
                · have hdl : decide (last < x.a) = false := decide_eq_false hgt
                  have Hnx := Lib.hid (Sno.out (by rw [Hcd.out]; simp [H0.out, hgt]))
                  go_wp2_with fail
                  refine (Hcl.out _).mono ?_
                  rintro e w5 ⟨rfl, h'⟩; subst w5
                  go_wp2_with fail
                  go_quiet (fail)
                  go_wp2
                  go_roundw
                  case rel => exact ⟨i + 1, f, v, by omega, by go_num, rfl, rfl, Hnx.out, Hw2.out.drewN _⟩
                  case measure => simp [intOf]; omega
          · have hd2 : (x.b == res) = false := by simpa using hb
            clear hb
            have Hnx := Lib.hid (Sno.out (by rw [Hcd.out]; simp [hd2]))
            go_wp2_with fail
            refine (Hcl.out _).mono ?_
            rintro e w5 ⟨rfl, h'⟩; subst w5
            go_wp2_with fail
            go_quiet (fail)
            go_wp2
            go_roundw
            case rel => exact ⟨i + 1, f, v, by omega, by go_num, rfl, rfl, Hnx.out, Hw2.out.drewN _⟩
            case measure => simp [intOf]; omega
      · obtain rfl : i = n := by omega
        have Hm := Lib.hid (Hr.out.old.trans Hw.out (fun _ _ h => h))
        cases f with
        | false =>
          have hjn := HN.out v Hsc.out
          have Ho5 := Lib.hid (Hr.out.own.keep Hw.out)
          have Htk : Hid (bs.take j = bs) := by show _ = _; rw [hjn, List.take_length]
          go_wp2
          go_ret
          rw [Htk.out] at Ho5
          refine ⟨A, c, by rw [← hjn]; rfl, ?_, Hm.out⟩
          have := Ho5.out
          rw [hjn] at this
          exact this
        | true =>
          obtain ⟨hjl, hv⟩ := HS.out v Hsc.out
          have Hown := Lib.hid (OwV.alloc (Hr.out.own.keep Hw.out) (.cells #[.int .i64 v] 3))
          have Hsrc := Lib.hid (Src.one wr (.int .i64 v) 3 rfl)
          have Hbase : Hid (w.heap.size ≤ (wr.alloc (.cells #[.int .i64 v] 3)).heap.size) := by
            show _ ≤ _
            rw [World.size_alloc]
            have := Hm.out.size
            omega
          have Hlt2 := Lib.hid (Hr.out.own.keep Hw.out).lt
          have Hts : Hid (bs.take (j + 1) = bs.take j ++ [v]) := by show _ = _; rw [hv]; exact take_succ_getD hjl
          clear hv
          go_wp2_with (at_builtin; refine wpList_app (.tmp 73) (.tmp 75) intElem rfl rfl rfl rfl Hown.out Hsrc.out (by omega) (by unfold maxLen; omega) Hbase.out ?_; intro A' c' w3 h1 h2 h3; have H1 := Lib.hid h1; have H2 := Lib.hid h2; clear h1 h2 h3)
          have Hr4 : Hid (Blr w w3 (bs.take (j + 1)) A' (j + 1) c') := by
            refine ⟨?_, ?_⟩
            · rw [Hts.out]
              have h1 := H1.out
              show OwV w3 _ _ A' _ c' (ivs _)
              rw [ivs, List.map_append]
              exact h1
            · exact (Hm.out.alloc (.cells #[.int .i64 v] 3)).grown H2.out (fun k e hk => by have := (Hlt2.out k e).1; omega)
          clear H1 H2
          go_roundw
          case rel => exact ⟨j + 1, A', c', by omega, rfl, Hr4.out⟩
          case measure => simp [lenV]; omega
end Go.Proofs.Ytpkjafadhnecfaa
