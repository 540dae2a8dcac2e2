/-
  bobbinref13: in, Reached, Reach, Still.
-/
import Derived.Test.YtbdfolopnocjmaaGRea
namespace Go.Proofs.Ytbdfolopnocjmaa
open Go Go.RowKit

set_option maxRecDepth 100000 in
theorem in_ok (w : World) (A : Option Addr) (n c : Nat) (zs : List Int) (h : Il w A n c zs) (hn : n ≤ 1000) (z : Int) :
    Calls Try.prog 17 #[.slice A n c, .int .i64 z] w fun e w' => e = .returned (.bool (decide (z ∈ zs))) ∧ w' = w := by
  have H := Lib.hid h
  clear h
  go_enter Try.func17, Try.ntmps17
  go_wp2
  go_loopw [5] (fun k wr => ∃ j : Nat, j ≤ n ∧ k = .int .i64 j ∧ z ∉ zs.take j ∧ wr = w) (fun k _ => n - (intOf k).toNat)
  case atStart => exact ⟨0, Nat.zero_le _, rfl, by simp, rfl⟩
  case round =>
    obtain ⟨j, hj, rfl, hz, rfl⟩ := hrel
    have Hz := Lib.hid hz
    clear hz
    by_cases hlt : j < n
    · obtain ⟨b, o, hA, hc⟩ := H.out.2.2 (by omega)
      obtain ⟨t, ht⟩ : ∃ t, zs[j]? = some t := ⟨_, List.getElem?_eq_getElem (by rw [H.out.len]; exact hlt)⟩
      have s0 := hc j t ht
      rw [hA]
      have Ht := Lib.hid ht
      clear hc hA ht
      by_cases he : t = z
      · have hq : (t == z) = true := by simpa using he
        have Hm : Hid (decide (z ∈ zs) = true) := by
          have hm : z ∈ zs := by rw [← he]; exact List.mem_of_getElem? Ht.out
          exact decide_eq_true hm
        clear he Hz
        go_wp2
        go_ret
        exact ⟨by rw [Hm.out]; rfl, rfl⟩
      · have hq : (t == z) = false := by simpa using he
        have Hz2 : Hid (z ∉ zs.take (j + 1)) := fun hm => by
          rw [take_succ_at Ht.out] at hm
          rcases List.mem_append.1 hm with hm | hm
          · exact Hz.out hm
          · exact he (List.mem_singleton.1 hm).symm
        clear he Hz
        go_wp2
        go_roundw
        case rel => exact ⟨j + 1, by omega, by go_num, Hz2.out, by trivial⟩
        case measure => simp [intOf]; omega
    · obtain rfl : j = n := by omega
      have Hm : Hid (decide (z ∈ zs) = false) := by
        have := Hz.out
        rw [List.take_of_length_le (by rw [H.out.len]; omega)] at this
        exact decide_eq_false this
      clear Hz
      go_wp2
      go_ret
      exact ⟨by rw [Hm.out]; rfl, rfl⟩

def lenS : Value → Nat
  | .slice _ n _ => n
  | _ => 0
/-- What is found: each once, each is reached. -/
structure Fo (E : List (Int × Int)) (fr : Int) (D : List Int) : Prop where
  nd : D.Nodup
  rch : ∀ y ∈ D, Rch E fr y
theorem Fo.len {L : List Wp} {fr : Int} {D : List Int} (h : Fo (edg L) fr D) : D.length ≤ (edg L).length := by
  rw [← tgts_len]
  exact nodup_len _ _ h.nd (fun y hy => by obtain ⟨c, hc⟩ := rch_tgt (h.rch y hy); exact mem_tgts.2 ⟨c, hc⟩)
theorem Fo.add {L : List Wp} {fr x t : Int} {D D0 : List Int} (h : Fo (edg L) fr D) (h0 : Fo (edg L) fr D0) (hx : x = fr ∨ x ∈ D0) (ht : (x, t) ∈ edg L) (hn : t ∉ D) : Fo (edg L) fr (D ++ [t]) := by
  refine ⟨List.nodup_append.2 ⟨h.nd, by simp, fun y hy z hz => by rw [List.mem_singleton.1 hz]; exact fun e => hn (by rw [← e]; exact hy)⟩, fun y hy => ?_⟩
  rcases List.mem_append.1 hy with hy | hy
  · exact h.rch y hy
  · rw [List.mem_singleton.1 hy]
    rcases hx with e | e
    · rw [← e]; exact .one ht
    · exact (h0.rch x e).trans (.one ht)
/-- How far a pass is: g says whether there are more than D0; the first i, and of the next one some, have been followed. -/
def Pa (l : List Wt) (fr : Int) (D0 D : List Int) (g : Bool) (i : Nat) (cur : List Int) : Prop :=
  (g = false → D = D0 ∧ (∀ x ∈ l.take i, (x.tx = fr ∨ x.tx ∈ D0) → ∀ y ∈ x.zs, y ∈ D0) ∧ ∀ y ∈ cur, y ∈ D0) ∧ (g = true → D0.length < D.length)
theorem Pa.next {l : List Wt} {fr : Int} {D0 D : List Int} {g : Bool} {i : Nat} {x : Wt} (h : Pa l fr D0 D g i x.zs) (hx : l[i]? = some x) : Pa l fr D0 D g (i + 1) [] := by
  refine ⟨fun hg => ?_, h.2⟩
  obtain ⟨h1, h2, h3⟩ := h.1 hg
  refine ⟨h1, fun y hy hs z hz => ?_, fun y hy => by cases hy⟩
  rw [take_succ_at hx] at hy
  rcases List.mem_append.1 hy with hy | hy
  · exact h2 y hy hs z hz
  · rw [List.mem_singleton.1 hy] at hz; exact h3 z hz
theorem Pa.skip {l : List Wt} {fr : Int} {D0 D : List Int} {g : Bool} {i : Nat} {x : Wt} (h : Pa l fr D0 D g i []) (hx : l[i]? = some x) (h1 : x.tx ≠ fr) (h2 : x.tx ∉ D) : Pa l fr D0 D g (i + 1) [] := by
  refine ⟨fun hg => ?_, h.2⟩
  obtain ⟨e, h3, _⟩ := h.1 hg
  refine ⟨e, fun y hy hs z hz => ?_, fun y hy => by cases hy⟩
  rw [take_succ_at hx] at hy
  rcases List.mem_append.1 hy with hy | hy
  · exact h3 y hy hs z hz
  · rw [List.mem_singleton.1 hy] at hs
    rcases hs with e' | e'
    · exact absurd e' h1
    · exact absurd (by rw [e]; exact e') h2
theorem Pa.there {l : List Wt} {fr t : Int} {D0 D : List Int} {g : Bool} {i k : Nat} {zs : List Int} (h : Pa l fr D0 D g i (zs.take k)) (ht : zs[k]? = some t) (hm : t ∈ D) : Pa l fr D0 D g i (zs.take (k + 1)) := by
  refine ⟨fun hg => ?_, h.2⟩
  obtain ⟨e, h2, h3⟩ := h.1 hg
  refine ⟨e, h2, fun y hy => ?_⟩
  rw [take_succ_at ht] at hy
  rcases List.mem_append.1 hy with hy | hy
  · exact h3 y hy
  · rw [List.mem_singleton.1 hy, ← e]; exact hm
theorem Pa.new {l : List Wt} {fr t : Int} {D0 D : List Int} {g : Bool} {i : Nat} {cur cur' : List Int} (h : Pa l fr D0 D g i cur) : Pa l fr D0 (D ++ [t]) true i cur' := by
  refine ⟨fun hg => (by cases hg), fun _ => ?_⟩
  rw [List.length_append, List.length_singleton]
  cases g with
  | false => rw [(h.1 rfl).1]; exact Nat.lt_succ_self _
  | true => have := h.2 rfl; omega
theorem Pa.done {l : List Wt} {fr : Int} {D0 D : List Int} (h : Pa l fr D0 D false l.length []) (hf : Fo (edg (ps l)) fr D) (y : Int) : y ∈ D ↔ Rch (edg (ps l)) fr y := by
  obtain ⟨rfl, h2, _⟩ := h.1 rfl
  rw [List.take_length] at h2
  have hd : ∀ z, (z = fr ∨ z ∈ D) → ∀ c, (z, c) ∈ edg (ps l) → c ∈ D := by
    intro z hz c hc
    obtain ⟨p, hp, e1, hcz⟩ := mem_edg.1 hc
    obtain ⟨x, hx, rfl⟩ := List.mem_map.1 hp
    have e2 : x.tx = z := e1
    exact h2 x hx (by rw [e2]; exact hz) c hcz
  exact ⟨hf.rch y, fun hr => rch_closed (S := fun y => y ∈ D) hr (fun c hc => hd fr (.inl rfl) c hc) (fun z hz c hc => hd z (.inr hz) c hc)⟩

set_option maxRecDepth 100000 in
set_option maxHeartbeats 6400000 in
theorem rreached_ok (w : World) (A0 : Option Addr) (n c0 : Nat) (l : List Wt) (h : Wl w A0 n c0 l) (hf : Few l) (fr : Int) :
    Calls Try.prog 18 #[.slice A0 n c0, .int .i64 fr] w fun e w' => ∃ A D c', e = .returned (.slice A D.length c') ∧ OwI w' w.heap.size A D.length c' D ∧ D.length ≤ 1000 ∧ (∀ y, y ∈ D ↔ Rch (edg (ps l)) fr y) ∧ Mod (fun _ => False) w w' := by
  have hn : n ≤ 1000 := by have := hf.n; rw [h.len] at this; exact this
  have HX := Lib.hid h
  have He := Lib.hid hf.e
  clear h hf
  go_enter Try.func18, Try.ntmps18
  go_wp2
  go_loopw [5] (fun s wr => ∃ (A : Option Addr) (D : List Int) (c' : Nat), s = .slice A D.length c' ∧ Fo (edg (ps l)) fr D ∧ OwI wr w.heap.size A D.length c' D ∧ Mod (fun _ => False) w wr)
    (fun s _ => 3000 - lenS s)
  case atStart => exact ⟨none, [], 0, rfl, ⟨List.nodup_nil, fun y h => by cases h⟩, OwI.nil _ _, Mod.refl _ _⟩
  case round =>
    obtain ⟨A, D, c', rfl, hfo, ho, hm⟩ := hrel
    have HF := Lib.hid hfo
    have HO := Lib.hid ho
    have HM := Lib.hid hm
    have hD : D.length ≤ 1000 := Nat.le_trans hfo.len He.out
    have HD := Lib.hid hD
    clear hfo ho hm
    go_wp2
    go_loopw [5, 6, 7] (fun s gv iv wr => ∃ (i : Nat) (g : Bool) (A : Option Addr) (D2 : List Int) (c' : Nat), i ≤ n ∧ s = .slice A D2.length c' ∧ gv = .bool g ∧ iv = .int .i64 i ∧ Fo (edg (ps l)) fr D2 ∧ Pa l fr D D2 g i [] ∧ OwI wr w.heap.size A D2.length c' D2 ∧ Mod (fun _ => False) w wr)
      (fun _ _ iv _ => n - (intOf iv).toNat)
    case atStart => exact ⟨0, false, A, D, c', Nat.zero_le _, rfl, rfl, rfl, HF.out, ⟨fun _ => ⟨rfl, fun x hx => by simp at hx, fun y hy => by cases hy⟩, fun h => by cases h⟩, HO.out, HM.out⟩
    case round =>
      obtain ⟨i, g, A2, D2, c2, hi, rfl, rfl, rfl, hfo, hpa, ho, hm⟩ := hrel
      have HF2 := Lib.hid hfo
      have HPa := Lib.hid hpa
      have HO2 := Lib.hid ho
      have HM2 := Lib.hid hm
      have hD2 : D2.length ≤ 1000 := Nat.le_trans hfo.len He.out
      clear hfo hpa ho hm HF HO HM hD
      by_cases hlt : i < n
      · obtain ⟨b, o, hA, hc⟩ := (HX.out.keep HM2.out).at_ (by omega)
        have hil : i < l.length := by rw [HX.out.len]; exact hlt
        obtain ⟨x, hx⟩ : ∃ x, l[i]? = some x := ⟨_, List.getElem?_eq_getElem hil⟩
        obtain ⟨s0, s1⟩ := hc i x hx
        have Hxl := Lib.hid (List.mem_of_getElem? hx)
        have hcell : ∀ X, Mod (fun _ => False) w X → X.cell? ⟨b, o + i * 2, none⟩ = some (.int .i64 x.tx) ∧ X.cell? ⟨b, o + i * 2 + 1, none⟩ = some (.slice x.A x.n x.c) := fun X hX => by
          obtain ⟨b', o', hA', hc'⟩ := (HX.out.keep hX).at_ (by omega)
          rw [hA] at hA'
          injection hA' with hA'
          injection hA' with e1 e2
          subst e1
          subst e2
          exact hc' i x hx
        have Hcell := Lib.hid hcell
        have Hx := Lib.hid hx
        have hrun := in_ok wr A2 D2.length c2 D2 HO2.out.il hD2 x.tx
        have Hin := Lib.hid hrun
        have HA := Lib.hid hA
        have hxn : x.n ≤ 1000 := by have h1 := (HX.out.row x Hxl.out).len; have h2 := zs_le Hxl.out; have := He.out; omega
        rw [hA]
        clear hc hA hil hx hcell hrun
        go_wp2_with fail
        refine Hin.out.mono ?_
        rintro e w1 ⟨rfl, hw⟩
        subst w1
        clear Hin
        by_cases hsel : x.tx = fr
        · have q1 : (x.tx != fr) = false := by simpa using hsel
          have Hsel : Hid (x.tx = fr ∨ x.tx ∈ D2) := .inl hsel
          clear hsel
          go_wp2_with fail
          go_loopw [5, 6, 9] (fun s gv kv wr => ∃ (k : Nat) (g : Bool) (A : Option Addr) (D3 : List Int) (c' : Nat), k ≤ x.n ∧ s = .slice A D3.length c' ∧ gv = .bool g ∧ kv = .int .i64 k ∧ Fo (edg (ps l)) fr D3 ∧ Pa l fr D D3 g i (x.zs.take k) ∧ OwI wr w.heap.size A D3.length c' D3 ∧ Mod (fun _ => False) w wr)
            (fun _ _ kv _ => x.n - (intOf kv).toNat)
          case atStart => exact ⟨0, g, A2, D2, c2, Nat.zero_le _, rfl, rfl, rfl, HF2.out, HPa.out, HO2.out, HM2.out⟩
          case round =>
            obtain ⟨k, g3, A3, D3, c3, hk, rfl, rfl, rfl, hfo, hpa, ho, hm⟩ := hrel
            obtain ⟨r0, r1⟩ := Hcell.out _ hm
            have HF3 := Lib.hid hfo
            have HPa3 := Lib.hid hpa
            have HO3 := Lib.hid ho
            have HM3 := Lib.hid hm
            have hD3 : D3.length ≤ 1000 := Nat.le_trans hfo.len He.out
            clear hfo hpa ho hm HPa HO2 HM2 s0 s1
            by_cases hlt2 : k < x.n
            · have hIl := (HX.out.row x Hxl.out).keep HM3.out
              obtain ⟨B1, o1, hxA, hcz⟩ := hIl.2.2 (by omega)
              obtain ⟨t, ht⟩ : ∃ t, x.zs[k]? = some t := ⟨_, List.getElem?_eq_getElem (by rw [hIl.len]; exact hlt2)⟩
              have r2 := hcz k t ht
              rw [hxA] at r1
              have Hte : Hid ((x.tx, t) ∈ edg (ps l)) := mem_edg.2 ⟨x.p, List.mem_map.2 ⟨x, Hxl.out, rfl⟩, rfl, List.mem_of_getElem? ht⟩
              have Hin := Lib.hid (in_ok wr A3 D3.length c3 D3 HO3.out.il hD3 t)
              have Ht := Lib.hid ht
              clear hcz ht hIl
              have HxA := Lib.hid hxA
              clear hxA
              go_wp2_with fail
              refine Hin.out.mono ?_
              rintro e w3 ⟨rfl, hw⟩
              subst w3
              clear Hin
              by_cases htD : t ∈ D3
              · have q3 : decide (t ∈ D3) = true := decide_eq_true htD
                have HPa4 : Hid (Pa l fr D D3 g3 i (x.zs.take (k + 1))) := HPa3.out.there Ht.out htD
                rw [q3]
                clear htD q3 HPa3
                go_wp2
                go_roundw
                case rel => exact ⟨k + 1, g3, A3, D3, c3, by omega, rfl, rfl, by go_num, HF3.out, HPa4.out, HO3.out, HM3.out⟩
                case measure => simp [intOf]; omega
              · have q3 : decide (t ∈ D3) = false := decide_eq_false htD
                have HPa4 : Hid (Pa l fr D (D3 ++ [t]) true i (x.zs.take (k + 1))) := HPa3.out.new
                have HF4 : Hid (Fo (edg (ps l)) fr (D3 ++ [t])) := HF3.out.add HF2.out Hsel.out Hte.out htD
                rw [q3]
                have hma : Mod (fun _ => False) wr (wr.alloc (.cells #[.int .i64 t] 3)) := (Mod.refl _ wr).alloc _
                have HO4 := Lib.hid (HO3.out.keep hma)
                have HM4 := Lib.hid (HM3.out.trans hma (fun _ _ h => h))
                have Hsrc := Lib.hid (Src.one wr (.int .i64 t) 3 rfl)
                have HS4 : Hid (w.heap.size ≤ (wr.alloc (.cells #[.int .i64 t] 3)).heap.size) := HM4.out.size
                clear htD q3 HPa3 hma
                go_wp2_with (first
                  | (at_builtin; refine wpList_app (.tmp 57) (.tmp 66) intElem rfl rfl rfl rfl HO4.out Hsrc.out (by omega) (by unfold maxLen; omega) HS4.out ?_; intro A' c4 w7 h1 h2 h3; have H1 := Lib.hid h1; have H2 := Lib.hid h2; clear h1 h2 h3)
                  | fail)
                go_roundw
                case rel =>
                  have hmA := HM4.out.grown H2.out (fun j e hj => by have := (OwV.lt HO4.out j e).1; omega)
                  refine ⟨k + 1, true, A', D3 ++ [t], c4, by omega, by simp, rfl, by go_num, HF4.out, HPa4.out, ?_, hmA⟩
                  have := H1.out
                  rw [List.length_append]
                  unfold OwI
                  rw [ivs_append]
                  exact this
                case measure => simp [intOf]; omega
            · obtain rfl : k = x.n := by omega
              have HPa4 : Hid (Pa l fr D D3 g3 (i + 1) []) := Pa.next (x := x) (by have := HPa3.out; rw [List.take_of_length_le (by rw [(HX.out.row x Hxl.out).len]; omega)] at this; exact this) Hx.out
              clear HPa3
              go_wp2
              go_roundw
              case rel => exact ⟨i + 1, g3, A3, D3, c3, by omega, rfl, rfl, by go_num, HF3.out, HPa4.out, HO3.out, HM3.out⟩
              case measure => simp [intOf]; omega
        · have q1 : (x.tx != fr) = true := by simpa using hsel
          by_cases hmem : x.tx ∈ D2
          · have q2 : decide (x.tx ∈ D2) = true := decide_eq_true hmem
            have Hsel : Hid (x.tx = fr ∨ x.tx ∈ D2) := .inr hmem
            rw [q2]
            clear hsel hmem q2
            go_wp2_with fail
            go_loopw [5, 6, 9] (fun s gv kv wr => ∃ (k : Nat) (g : Bool) (A : Option Addr) (D3 : List Int) (c' : Nat), k ≤ x.n ∧ s = .slice A D3.length c' ∧ gv = .bool g ∧ kv = .int .i64 k ∧ Fo (edg (ps l)) fr D3 ∧ Pa l fr D D3 g i (x.zs.take k) ∧ OwI wr w.heap.size A D3.length c' D3 ∧ Mod (fun _ => False) w wr)
              (fun _ _ kv _ => x.n - (intOf kv).toNat)
            case atStart => exact ⟨0, g, A2, D2, c2, Nat.zero_le _, rfl, rfl, rfl, HF2.out, HPa.out, HO2.out, HM2.out⟩
            case round =>
              obtain ⟨k, g3, A3, D3, c3, hk, rfl, rfl, rfl, hfo, hpa, ho, hm⟩ := hrel
              obtain ⟨r0, r1⟩ := Hcell.out _ hm
              have HF3 := Lib.hid hfo
              have HPa3 := Lib.hid hpa
              have HO3 := Lib.hid ho
              have HM3 := Lib.hid hm
              have hD3 : D3.length ≤ 1000 := Nat.le_trans hfo.len He.out
              clear hfo hpa ho hm HPa HO2 HM2 s0 s1
              by_cases hlt2 : k < x.n
              · have hIl := (HX.out.row x Hxl.out).keep HM3.out
                obtain ⟨B1, o1, hxA, hcz⟩ := hIl.2.2 (by omega)
                obtain ⟨t, ht⟩ : ∃ t, x.zs[k]? = some t := ⟨_, List.getElem?_eq_getElem (by rw [hIl.len]; exact hlt2)⟩
                have r2 := hcz k t ht
                rw [hxA] at r1
                have Hte : Hid ((x.tx, t) ∈ edg (ps l)) := mem_edg.2 ⟨x.p, List.mem_map.2 ⟨x, Hxl.out, rfl⟩, rfl, List.mem_of_getElem? ht⟩
                have Hin := Lib.hid (in_ok wr A3 D3.length c3 D3 HO3.out.il hD3 t)
                have Ht := Lib.hid ht
                clear hcz ht hIl
                have HxA := Lib.hid hxA
                clear hxA
                go_wp2_with fail
                refine Hin.out.mono ?_
                rintro e w3 ⟨rfl, hw⟩
                subst w3
                clear Hin
                by_cases htD : t ∈ D3
                · have q3 : decide (t ∈ D3) = true := decide_eq_true htD
                  have HPa4 : Hid (Pa l fr D D3 g3 i (x.zs.take (k + 1))) := HPa3.out.there Ht.out htD
                  rw [q3]
                  clear htD q3 HPa3
                  go_wp2
                  go_roundw
                  case rel => exact ⟨k + 1, g3, A3, D3, c3, by omega, rfl, rfl, by go_num, HF3.out, HPa4.out, HO3.out, HM3.out⟩
                  case measure => simp [intOf]; omega
                · have q3 : decide (t ∈ D3) = false := decide_eq_false htD
                  have HPa4 : Hid (Pa l fr D (D3 ++ [t]) true i (x.zs.take (k + 1))) := HPa3.out.new
                  have HF4 : Hid (Fo (edg (ps l)) fr (D3 ++ [t])) := HF3.out.add HF2.out Hsel.out Hte.out htD
                  rw [q3]
                  have hma : Mod (fun _ => False) wr (wr.alloc (.cells #[.int .i64 t] 3)) := (Mod.refl _ wr).alloc _
                  have HO4 := Lib.hid (HO3.out.keep hma)
                  have HM4 := Lib.hid (HM3.out.trans hma (fun _ _ h => h))
                  have Hsrc := Lib.hid (Src.one wr (.int .i64 t) 3 rfl)
                  have HS4 : Hid (w.heap.size ≤ (wr.alloc (.cells #[.int .i64 t] 3)).heap.size) := HM4.out.size
                  clear htD q3 HPa3 hma
                  go_wp2_with (first
                    | (at_builtin; refine wpList_app (.tmp 57) (.tmp 66) intElem rfl rfl rfl rfl HO4.out Hsrc.out (by omega) (by unfold maxLen; omega) HS4.out ?_; intro A' c4 w7 h1 h2 h3; have H1 := Lib.hid h1; have H2 := Lib.hid h2; clear h1 h2 h3)
                    | fail)
                  go_roundw
                  case rel =>
                    have hmA := HM4.out.grown H2.out (fun j e hj => by have := (OwV.lt HO4.out j e).1; omega)
                    refine ⟨k + 1, true, A', D3 ++ [t], c4, by omega, by simp, rfl, by go_num, HF4.out, HPa4.out, ?_, hmA⟩
                    have := H1.out
                    rw [List.length_append]
                    unfold OwI
                    rw [ivs_append]
                    exact this
                  case measure => simp [intOf]; omega
              · obtain rfl : k = x.n := by omega
                have HPa4 : Hid (Pa l fr D D3 g3 (i + 1) []) := Pa.next (x := x) (by have := HPa3.out; rw [List.take_of_length_le (by rw [(HX.out.row x Hxl.out).len]; omega)] at this; exact this) Hx.out
                clear HPa3
                go_wp2
                go_roundw
                case rel => exact ⟨i + 1, g3, A3, D3, c3, by omega, rfl, rfl, by go_num, HF3.out, HPa4.out, HO3.out, HM3.out⟩
                case measure => simp [intOf]; omega
          · have q2 : decide (x.tx ∈ D2) = false := decide_eq_false hmem
            have HPa2 : Hid (Pa l fr D D2 g (i + 1) []) := HPa.out.skip Hx.out hsel hmem
            rw [q2]
            clear hsel hmem q2 HPa
            go_wp2
            go_roundw
            case rel => exact ⟨i + 1, g, A2, D2, c2, by omega, rfl, rfl, by go_num, HF2.out, HPa2.out, HO2.out, HM2.out⟩
            case measure => simp [intOf]; omega
      · obtain rfl : i = n := by omega
        cases g with
        | false =>
          have HE : Hid (∀ y, y ∈ D2 ↔ Rch (edg (ps l)) fr y) := Pa.done (by have := HPa.out; rw [← HX.out.len] at this; exact this) HF2.out
          clear HPa
          go_wp2
          go_ret
          exact ⟨A2, D2, c2, rfl, HO2.out, hD2, HE.out, HM2.out⟩
        | true =>
          have hgt : D.length < D2.length := HPa.out.2 rfl
          have Hgt := Lib.hid hgt
          clear HPa hgt
          go_wp2
          go_roundw
          case rel => exact ⟨A2, D2, c2, rfl, HF2.out, HO2.out, HM2.out⟩
          case measure => have h1 := Hgt.out; have h2 := HD.out; simp only [lenS]; omega

set_option maxRecDepth 100000 in
theorem rreach_ok (w : World) (A0 : Option Addr) (n c0 : Nat) (l : List Wt) (h : Wl w A0 n c0 l) (hf : Few l) (fr to_ : Int) :
    Calls Try.prog 11 #[.slice A0 n c0, .int .i64 fr, .int .i64 to_] w fun e w' => e = .returned (.bool (rch (edg (ps l)) fr to_)) ∧ Mod (fun _ => False) w w' := by
  have HR := Lib.hid (rreached_ok w A0 n c0 l h hf fr)
  clear h hf
  go_enter Try.func11, Try.ntmps11
  go_wp2_with fail
  refine HR.out.mono ?_
  rintro e w1 ⟨A, D, c', rfl, ho, hd, hy, hm⟩
  have HM := Lib.hid hm
  have Hin := Lib.hid (in_ok w1 A D.length c' D ho.il hd to_)
  have Hy : Hid (decide (to_ ∈ D) = rch (edg (ps l)) fr to_) := by
    show _ = _
    rw [Bool.eq_iff_iff, decide_eq_true_iff, rch_true]
    exact hy to_
  clear ho hy hm HR
  go_wp2_with fail
  refine Hin.out.mono ?_
  rintro e w2 ⟨rfl, hw⟩
  subst hw
  rw [Hy.out]
  clear Hin
  go_wp2
  go_ret
  exact ⟨rfl, HM.out⟩

set_option maxRecDepth 100000 in
set_option maxHeartbeats 3200000 in
theorem rstill_ok (w : World) (A0 : Option Addr) (n c0 : Nat) (l : List Wt) (h : Wl w A0 n c0 l) (hf : Few l) :
    Calls Try.prog 14 #[.slice A0 n c0] w fun e w' => e = .returned (.bool (stl (edg (ps l)))) ∧ Mod (fun _ => False) w w' := by
  have hn : n ≤ 1000 := by have := hf.n; rw [h.len] at this; exact this
  have HX := Lib.hid h
  have HR := Lib.hid (fun V (hV : Wl V A0 n c0 l) tx => rreach_ok V A0 n c0 l hV hf tx tx)
  have Hall : Hid ((∀ x ∈ l, ¬ Rch (edg (ps l)) x.tx x.tx) → stl (edg (ps l)) = true) := fun ha => stl_true.2 (fun a hx => by
    obtain ⟨c, hc, _⟩ := rch_iff.1 hx
    obtain ⟨p, hp, e1, _⟩ := mem_edg.1 hc
    obtain ⟨x, hxl, rfl⟩ := List.mem_map.1 hp
    have e2 : x.tx = a := e1
    exact ha x hxl (by rw [e2]; exact hx))
  have Hone : Hid (∀ a, rch (edg (ps l)) a a = true → stl (edg (ps l)) = false) := fun a ha => stl_false.2 (fun h => h a (rch_true.1 ha))
  have Hno : Hid (∀ a, rch (edg (ps l)) a a = false → ¬ Rch (edg (ps l)) a a) := fun a => rch_false.1
  obtain ⟨rf, hrf⟩ : ∃ rf : Int → Bool, (fun a => rch (edg (ps l)) a a) = rf := ⟨_, rfl⟩
  have hrf2 : ∀ a, rch (edg (ps l)) a a = rf a := fun a => by rw [← hrf]
  simp only [hrf2] at HR Hone Hno
  generalize stl (edg (ps l)) = st at *
  clear h hf hrf hrf2
  go_enter Try.func14, Try.ntmps14
  go_wp2
  go_loopw [3] (fun k wr => ∃ i : Nat, i ≤ n ∧ k = .int .i64 i ∧ (∀ x ∈ l.take i, ¬ Rch (edg (ps l)) x.tx x.tx) ∧ Mod (fun _ => False) w wr) (fun k _ => n - (intOf k).toNat)
  case atStart => exact ⟨0, Nat.zero_le _, rfl, fun x hx => by simp at hx, Mod.refl _ _⟩
  case round =>
    obtain ⟨i, hi, rfl, ha, hm⟩ := hrel
    have HA := Lib.hid ha
    have HM := Lib.hid hm
    clear ha hm
    by_cases hlt : i < n
    · have hXr := HX.out.keep HM.out
      obtain ⟨b, o, hA, hc⟩ := hXr.at_ (by omega)
      have hil : i < l.length := by rw [HX.out.len]; exact hlt
      obtain ⟨x, hx⟩ : ∃ x, l[i]? = some x := ⟨_, List.getElem?_eq_getElem hil⟩
      obtain ⟨s0, s1⟩ := hc i x hx
      have hR := HR.out wr.drew hXr.drew x.tx
      rw [hA] at hR ⊢
      have HR2 := Lib.hid hR
      have Hx := Lib.hid hx
      have HMd := Lib.hid HM.out.drew
      have hi0 : (i : Int) < (n : Int) := by omega
      have hi1 : (0 : Int) ≤ (i : Int) := by omega
      have hs : w.heap.size ≤ wr.heap.size := HM.out.size
      have HS0 : Hid ((fun w' : World => w'.cell? ⟨b, o + i * 2, none⟩ = some (.int .i64 x.tx)) wr.drew) := s0
      clear hc hA hil hx hXr hR s1
      go_wp2_with fail
      go_region_held3 (fun w' => w'.cell? ⟨b, o + i * 2, none⟩ = some (.int .i64 x.tx)) (first | exact HS0.out | exact h3) ((go_at_call 11; refine HR2.out.mono ?_; rintro e w2 ⟨rfl, hm2⟩; have h3 := (World.cell?_of_block (hm2.block b (World.block_lt_of_cell? _ _ HS0.out) id)).trans HS0.out))
      have HM2 := Lib.hid (HMd.out.trans hm2 (fun _ _ h => h))
      clear hm2 h3 HS0 HR2 s0
      cases hq : rf x.tx with
      | true =>
        have Hst := Lib.hid (Hone.out x.tx hq)
        clear hq HA
        go_wp2
        go_ret
        exact ⟨by rw [Hst.out]; rfl, HM2.out⟩
      | false =>
        have HA2 : Hid (∀ y ∈ l.take (i + 1), ¬ Rch (edg (ps l)) y.tx y.tx) := fun y hy => by
          rw [take_succ_at Hx.out] at hy
          rcases List.mem_append.1 hy with hy | hy
          · exact HA.out y hy
          · rw [List.mem_singleton.1 hy]; exact Hno.out x.tx hq
        clear hq HA
        go_wp2
        go_roundw
        case rel => exact ⟨i + 1, by omega, by go_num, HA2.out, HM2.out⟩
        case measure => simp [intOf]; omega
    · obtain rfl : i = n := by omega
      have Hst : Hid (st = true) := Hall.out (by have := HA.out; rw [List.take_of_length_le (by rw [HX.out.len]; omega)] at this; exact this)
      clear HA
      go_wp2
      go_ret
      exact ⟨by rw [Hst.out]; rfl, HM.out⟩
end Go.Proofs.Ytbdfolopnocjmaa
