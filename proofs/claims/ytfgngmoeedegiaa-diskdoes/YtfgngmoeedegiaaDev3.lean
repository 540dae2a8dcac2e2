/-
  bytes.Clone, slices.Clone, made, Read.
-/
import Derived.Test.YtfgngmoeedegiaaDev2
namespace Go.Proofs.Ytfgngmoeedegiaa
open Go Go.RowKit

theorem secElem : Elem Try.prog 63 61 (.slice none 0 0) 24 := Elem.mk_ Try.underlying63 rfl (by kernel_rfl)

theorem OwV.empty (w : World) (e : TypeId) : OwV (w.alloc (.cells #[] e)) w.heap.size e (some ⟨w.heap.size, 0, none⟩) 0 0 [] :=
  OwV.of_block (cur := []) (Nat.le_refl _) (heap_alloc_new w _) (by simp)

set_option maxRecDepth 100000 in
theorem bclone_ok (w : World) (b o n c : Nat) (xs : List UInt8) (h : Sl w (some ⟨b, o, none⟩) n c xs) (hn : n ≤ 1000) :
    Calls Try.prog 33 #[.slice (some ⟨b, o, none⟩) n c] w fun e w' => ∃ A' c', e = .returned (.slice A' n c') ∧ FreshR w w' A' n c' xs := by
  have hown := OwV.empty w 5
  have hsrc := (h.alloc (.cells #[] 5)).src
  have hml : 0 + n ≤ maxLen := by unfold maxLen; omega
  have hbase : w.heap.size ≤ (w.alloc (.cells #[] 5)).heap.size := by simp
  have heq : ∀ w : World, (binOp .eql 39 (.slice (some ⟨b, o, none⟩) n c) (.slice none 0 0)).run Try.prog w = .ok (.bool false) w := fun _ => by kernel_rfl
  clear h
  go_enter Try.func33, Try.ntmps33
  go_wp2_with (at_builtin; refine wpList_app (.tmp 5) (.tmp 6) byteElem rfl rfl rfl rfl hown hsrc (by omega) hml hbase ?_)
  intro A4 c4 w4 hown4 hg4 _
  have hm4 : Mod (fun _ => False) w w4 := ((Mod.refl _ w).alloc (.cells #[] 5)).grown hg4 (fun k e hk => by simp [blkOf] at e; omega)
  have H4 := Lib.hid hown4
  clear hown4 hown hsrc hg4
  go_wp2
  go_ret
  exact ⟨A4, c4, rfl, H4.out, hm4⟩

theorem Src.of_own {w : World} {base : Nat} {e : TypeId} {A : Option Addr} {n c : Nat} {vs : List Value} (h : OwV w base e A n c vs) (h1 : ∀ u ∈ vs, u.oneCell' = true) : Src w A n vs := by
  refine ⟨h.len, h1, fun hn => ?_⟩
  obtain ⟨g, rfl, hc⟩ := h.cells hn
  refine ⟨_, rfl, fun j u hu => ?_⟩
  have hj : j < n := by have := (List.getElem?_eq_some_iff.1 hu).1; rw [h.len] at this; exact this
  have hadd : (⟨g, 0, none⟩ : Addr).add j = ⟨g, j, none⟩ := by unfold Addr.add; split <;> simp_all
  rw [hadd, hc j hj]
  exact hu

theorem scts_one (D : List Sct) : ∀ u ∈ D.map Sct.v, u.oneCell' = true := by
  intro u hu
  obtain ⟨s, _, rfl⟩ := List.mem_map.1 hu
  rfl

/-- A row of sectors' slices, in new memory. -/
def FreshS (w w' : World) (g c : Nat) (D : List Sct) : Prop :=
  OwV w' w.heap.size 61 (some ⟨g, 0, none⟩) D.length c (D.map Sct.v) ∧ Mod (fun _ => False) w w'

set_option maxRecDepth 100000 in
theorem sclone_ok (w : World) (base b c : Nat) (D : List Sct) (h : OwV w base 61 (some ⟨b, 0, none⟩) D.length c (D.map Sct.v)) (hn : D.length ≤ 4096) (h0 : 0 < D.length) :
    Calls Try.prog 35 #[.slice (some ⟨b, 0, none⟩) D.length c] w fun e w' => ∃ g c', e = .returned (.slice (some ⟨g, 0, none⟩) D.length c') ∧ FreshS w w' g c' D := by
  have hown := OwV.empty w 61
  have hsrc := Src.of_own (h.alloc (.cells #[] 61)) (scts_one D)
  have hml : 0 + D.length ≤ maxLen := by unfold maxLen; omega
  have hbase : w.heap.size ≤ (w.alloc (.cells #[] 61)).heap.size := by simp
  have heq : ∀ w : World, (binOp .eql 63 (.slice (some ⟨b, 0, none⟩) D.length c) (.slice none 0 0)).run Try.prog w = .ok (.bool false) w := fun _ => by kernel_rfl
  clear h
  go_enter Try.func35, Try.ntmps35
  go_wp2_with (at_builtin; refine wpList_app (.tmp 5) (.tmp 6) secElem rfl rfl rfl rfl hown hsrc (by omega) hml hbase ?_)
  intro A4 c4 w4 hown4 hg4 _
  have hm4 : Mod (fun _ => False) w w4 := ((Mod.refl _ w).alloc (.cells #[] 61)).grown hg4 (fun k e hk => by simp [blkOf] at e; omega)
  obtain ⟨g, rfl, _⟩ := hown4.cells h0
  have H4 := Lib.hid hown4
  clear hown4 hown hsrc hg4
  go_wp2
  go_ret
  exact ⟨g, c4, rfl, H4.out, hm4⟩

/-- A device over new sectors. -/
def DV.fresh (p bd bn cd cn : Nat) (D : List Sct) : DV := ⟨p, bd, bn, cd, cn, none, 0, D, [], false, 0, false⟩
def Dk.fresh (D : List (List UInt8)) : Dk := ⟨D, [], false, 0, false⟩

/-- A new device: in new memory, and nothing old has turned. -/
def Made (w w' : World) (base : Nat) (x : DV) (d : Dk) : Prop := x.At w' base ∧ x.dk = d ∧ (∀ k, x.M k → base ≤ k) ∧ Mod (fun _ => False) w w'

set_option maxRecDepth 100000 in
theorem made_ok (w : World) (base b c : Nat) (D : List Sct) (h : OwV w base 61 (some ⟨b, 0, none⟩) D.length c (D.map Sct.v)) (hn : D.length ≤ 4096) (h0 : 0 < D.length)
    (hb : base ≤ w.heap.size) (hs : ∀ s ∈ D, s.At w (fun k => k = b)) :
    Calls Try.prog 29 #[.slice (some ⟨b, 0, none⟩) D.length c] w fun e w' => ∃ x, e = .returned (.pointer (some ⟨x.p, 0, none⟩)) ∧ Made w w' base x (Dk.fresh (D.map Sct.xs)) := by
  go_enter Try.func29, Try.ntmps29
  go_wp2_with fail
  refine (sclone_ok _ _ _ _ _ h hn h0).mono ?_
  rintro e w1 ⟨g, c', rfl, hf, hm⟩
  have H1 := Lib.hid (h.mod hm (fun _ _ => id))
  have Hbl := Lib.hid (h.lt b rfl)
  have Hs := Lib.hid hs
  have Hf := Lib.hid hf
  clear h hs hf
  go_wp2
  go_ret
  have hsz := hm.size
  have hg := Hf.out.lt g rfl
  refine ⟨DV.fresh w1.heap.size b g c c' D, rfl, ?_, rfl, ?_, hm.alloc _⟩
  · refine ⟨heap_alloc_new w1 _, H1.out.alloc _, ?_, OwN.nil _ _ _ _, fun s hs => ?_, by simp [DV.fresh], by show base ≤ w1.heap.size; omega, ?_, ?_, ?_, by simp [DV.fresh, blkOf], h0, hn, by simp [DV.fresh]⟩
    · exact ((Hf.out.rebase (base' := base) (fun k e => by simp [blkOf] at e; omega)).alloc _)
    · have hs1 := Hs.out s hs
      refine ⟨(hs1.1.mod hm (fun _ _ _ => id)).alloc _, fun k hk hM => ?_⟩
      obtain ⟨bb, oo, hA, hbb⟩ := hs1.1.lt (by omega)
      have hkb : k = bb := by rw [hA] at hk; simp [blkOf] at hk; omega
      rcases hM with e | e | e | e
      · simp only [DV.fresh] at e; omega
      · exact hs1.2 k hk e
      · simp only [DV.fresh] at e; omega
      · simp [DV.fresh, blkOf] at e
    · have := Hbl.out; simp only [DV.fresh]; omega
    · simp only [DV.fresh]; omega
    · have := Hbl.out; simp only [DV.fresh]; omega
  · have := Hbl.out
    rintro k (e | e | e | e)
    · simp only [DV.fresh] at e; omega
    · simp only [DV.fresh] at e; omega
    · simp only [DV.fresh] at e; omega
    · simp [DV.fresh, blkOf] at e

/-- What Read answers. -/
def Dk.read (d : Dk) (i : Int) : List UInt8 := if d.reach i = 0 then d.now.getD i.toNat [] else []
theorem DV.read_eq (x : DV) (i : Int) (s : Sct) (hr : x.dk.reach i = 0) (hs : (lay x.D x.W)[i.toNat]? = some s) : x.dk.read i = s.xs := by
  unfold Dk.read
  rw [if_pos hr, x.dk_now, List.getD_eq_getElem?_getD, List.getElem?_map, hs]
  rfl
theorem Dk.reach_zero {d : Dk} {i : Int} (h : d.reach i = 0) : d.dead = false ∧ 0 ≤ i ∧ i < d.dur.length := by
  unfold Dk.reach at h
  split at h
  · cases h
  · rename_i hd
    split at h
    · rename_i hi; exact ⟨by simpa using hd, hi⟩
    · cases h
theorem mem_lay {α : Type} (W : List (Nat × α)) : ∀ (D : List α) (s : α), s ∈ lay D W → s ∈ D ∨ ∃ y ∈ W, y.2 = s := by
  induction W with
  | nil => intro D s h; exact .inl h
  | cons y W ih =>
    intro D s h
    rcases ih (D.set y.1 y.2) s h with h1 | ⟨z, hz, e⟩
    · rcases List.mem_or_eq_of_mem_set h1 with h2 | h2
      · exact .inl h2
      · exact .inr ⟨y, List.mem_cons_self .., h2.symm⟩
    · exact .inr ⟨z, List.mem_cons_of_mem _ hz, e⟩
/-- The sector that Read finds. -/
theorem DV.At.nowAt {w : World} {base : Nat} {x : DV} (h : x.At w base) (i : Nat) (hi : i < x.D.length) :
    ∃ s, (lay x.D x.W)[i]? = some s ∧ s.At w x.M ∧ w.cell? ⟨x.bn, i, none⟩ = some s.v := by
  have hl : i < (lay x.D x.W).length := by rw [lay_len]; exact hi
  refine ⟨(lay x.D x.W)[i], List.getElem?_eq_getElem hl, ?_, ?_⟩
  · rcases mem_lay x.W x.D _ (List.getElem_mem hl) with h1 | ⟨y, hy, e⟩
    · exact h.secs _ h1
    · rw [← e]; exact (h.wsecs y hy).2
  · obtain ⟨g, hg, hc⟩ := h.now.cells (by omega)
    injection hg with hg; injection hg with hg
    subst hg
    rw [hc i hi, List.getElem?_map, List.getElem?_eq_getElem hl]
    rfl

set_option maxRecDepth 100000 in
theorem read_ok (w : World) (base : Nat) (x : DV) (h : x.At w base) (i : Int) :
    Calls Try.prog 22 #[.pointer (some ⟨x.p, 0, none⟩), .int .i64 i] w fun e w' => ∃ A n c, e = .returned (.tuple #[.slice A n c, .int .i64 (x.dk.reach i)]) ∧ FreshR w w' A n c (x.dk.read i) := by
  by_cases hr : x.dk.reach i = 0
  · obtain ⟨_, h0, h1⟩ := Dk.reach_zero hr
    rw [x.dk_len] at h1
    obtain ⟨s, hs, hat, hc⟩ := h.nowAt i.toNat (by omega)
    have He := Lib.hid (x.read_eq i s hr hs)
    obtain ⟨b, o, hA, _⟩ := hat.1.lt (by omega)
    obtain ⟨c0, c1, c2, c3, c4, c5⟩ := h.cells
    have Hat := Lib.hid hat
    have hc' : w.cell? ⟨x.bn, i.toNat, none⟩ = some (.slice (some ⟨b, o, none⟩) 256 s.c) := by rw [hc, ← hA]; rfl
    have H := Lib.hid h
    have hSl : Hid (Sl w (some ⟨b, o, none⟩) 256 s.c s.xs) := by rw [← hA]; exact Hat.out.1
    clear hs hat hc hA c0 c2 c3 c4 c5 h
    go_enter Try.func22, Try.ntmps22
    go_wp2_with fail
    refine (reach_ok _ _ x H.out i).mono ?_
    rintro e w' ⟨rfl, rfl⟩
    rw [hr]
    go_wp2_with fail
    refine (bclone_ok _ _ _ _ _ _ hSl.out (by omega)).mono ?_
    rintro e w1 ⟨A', c', rfl, hf⟩
    rw [← He.out] at hf
    have Hf := Lib.hid hf
    clear hf
    go_wp2
    go_ret2
    exact ⟨A', 256, c', by rw [hr]; rfl, Hf.out⟩
  · have He : Hid (x.dk.read i = []) := by show _ = _; unfold Dk.read; rw [if_neg hr]
    have hne : (x.dk.reach i != 0) = true := by simpa using hr
    have H := Lib.hid (reach_ok w base x h i)
    clear h hr
    generalize x.dk.reach i = r at *
    go_enter Try.func22, Try.ntmps22
    go_wp2_with fail
    refine H.out.mono ?_
    rintro e w' ⟨rfl, rfl⟩
    go_wp2
    go_ret2
    refine ⟨none, 0, 0, rfl, ?_⟩
    rw [He.out]
    exact ⟨OwV.nil _ _ _, Mod.refl _ _⟩
end Go.Proofs.Ytfgngmoeedegiaa
