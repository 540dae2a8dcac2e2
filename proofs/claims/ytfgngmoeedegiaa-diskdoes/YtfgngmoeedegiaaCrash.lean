/-
  The contract of Disk.Crash.
-/
import Derived.Test.YtfgngmoeedegiaaCrashR
namespace Go.Proofs.Ytfgngmoeedegiaa
open Go Go.RowKit Go.Shelf
attribute [local go_sem] Oper.semAt_some

/-- What survivors leave of the sectors. -/
def applySv (D : List (List UInt8)) (zs : List Sv) : List (List UInt8) := zs.foldl (fun D z => D.set z.i (partOf (D.getD z.i []) z.s.xs z.k)) D
theorem applySv_snoc (D : List (List UInt8)) (zs : List Sv) (z : Sv) : applySv D (zs ++ [z]) = (applySv D zs).set z.i (partOf ((applySv D zs).getD z.i []) z.s.xs z.k) := by simp [applySv]
theorem set_getD (D : List (List UInt8)) (i : Nat) : D.set i (D.getD i []) = D := by
  apply List.ext_getElem (by simp)
  intro j h1 h2
  rw [List.getElem_set]
  split
  · rename_i e; subst e; simp at h1; simp [h1]
  · rfl
theorem applySv_surv (f : Nat → Nat) (W : List (Nat × Sct)) : ∀ (i : Nat) (D : List (List UInt8)), applySv D (survGo f i W) = crashGo f i (W.map fun y => (y.1, y.2.xs)) D := by
  induction W with
  | nil => intro i D; rfl
  | cons y W ih =>
    intro i D
    show applySv D (if 0 < f i then _ else _) = crashGo f (i + 1) _ (D.set y.1 (partOf (D.getD y.1 []) y.2.xs (f i)))
    split
    · exact ih (i + 1) _
    · rename_i h
      have h0 : f i = 0 := by omega
      rw [ih, h0, part_zero, set_getD]

/-! ### What a turn of a block that is no cells leaves -/
section
variable {W W' : World} {row : Option Nat}
theorem blk_kept {k : Nat} {cs : Array Value} {t : TypeId} {fr : Nat × Nat} (h : W.heap[k]? = some (.cells cs t fr)) (hg : W.grownBy W' row) (hr : ∀ r, row = some r → ∃ o : Obj, W.heap[r]? = some o ∧ o.isCells = false) : W'.heap[k]? = some (.cells cs t fr) := by
  refine (hg.block k (Array.getElem?_eq_some_iff.1 h).1 (fun e => ?_)).trans h
  obtain ⟨o, ho, hc⟩ := hr k e.symm
  rw [h] at ho
  injection ho with ho
  subst ho
  cases hc
theorem Sl.own {A : Option Addr} {n c : Nat} {xs : List UInt8} (h : Sl W A n c xs) (hg : W.grownBy W' row) (hr : ∀ r, row = some r → ∃ o : Obj, W.heap[r]? = some o ∧ o.isCells = false) : Sl W' A n c xs := by
  refine ⟨h.1, h.2.1, fun hn => ?_⟩
  obtain ⟨b, o, rfl, hc⟩ := h.2.2 hn
  exact ⟨b, o, rfl, fun j hj => cell_kept (hc j hj) hg hr⟩
theorem OwV.own {base : Nat} {e : TypeId} {g n c : Nat} {vs : List Value} (h : OwV W base e (some ⟨g, 0, none⟩) n c vs) (hg : W.grownBy W' row) (hr : ∀ r, row = some r → ∃ o : Obj, W.heap[r]? = some o ∧ o.isCells = false) : OwV W' base e (some ⟨g, 0, none⟩) n c vs := by
  have hl := h.1
  obtain ⟨_, cur, hb, h1, h2, h3, h4⟩ := h.block rfl
  exact ⟨hl, .inr ⟨g, c, cur, rfl, (h.lt g rfl).1, blk_kept hb hg hr, h1, h2, by simpa using h3, by simpa using h4⟩⟩
theorem OwN.own {base : Nat} {e : TypeId} {size : Nat} {A : Option Addr} {n c : Nat} {vs : List Value} (h : OwN W base e size A n c vs) (hg : W.grownBy W' row) (hr : ∀ r, row = some r → ∃ o : Obj, W.heap[r]? = some o ∧ o.isCells = false) : OwN W' base e size A n c vs := by
  refine ⟨h.1, ?_⟩
  rcases h.2 with hn | ⟨g, cap, cur, hv, hb, hgg, rest⟩
  · exact .inl hn
  · exact .inr ⟨g, cap, cur, hv, hb, blk_kept hgg hg hr, rest⟩
theorem DV.At.own {base : Nat} {x : DV} (h : x.At W base) (hg : W.grownBy W' row) (hr : ∀ r, row = some r → ∃ o : Obj, W.heap[r]? = some o ∧ o.isCells = false) : x.At W' base where
  obj := blk_kept h.obj hg hr
  dur := h.dur.own hg hr
  now := h.now.own hg hr
  pend := h.pend.own hg hr
  secs := fun s hs => ⟨(h.secs s hs).1.own hg hr, (h.secs s hs).2⟩
  wsecs := fun y hy => ⟨(h.wsecs y hy).1, (h.wsecs y hy).2.1.own hg hr, (h.wsecs y hy).2.2⟩
  pb := h.pb
  d1 := h.d1
  d2 := h.d2
  d3 := h.d3
  d4 := h.d4
  pos := h.pos
  few := h.few
  lft := h.lft
theorem Mod.turn {F : Nat → Prop} {w : World} (h : Mod F w W) (hg : W.grownBy W' row) (hr : ∀ r, row = some r → r < w.heap.size → F r) : Mod F w W' := h.grown hg hr
end

/-- The sectors of the device that is being made. -/
structure Aft (w : World) (W : World) (g n c : Nat) (D' : List Sct) : Prop where
  own : OwV W w.heap.size 61 (some ⟨g, 0, none⟩) n c (D'.map Sct.v)
  secs : ∀ s ∈ D', s.At W (fun k => k = g)
theorem Aft.own_ {w W W' : World} {row : Option Nat} {g n c : Nat} {D' : List Sct} (h : Aft w W g n c D') (hg : W.grownBy W' row) (hr : ∀ r, row = some r → ∃ o : Obj, W.heap[r]? = some o ∧ o.isCells = false) : Aft w W' g n c D' :=
  ⟨h.own.own hg hr, fun s hs => ⟨(h.secs s hs).1.own hg hr, (h.secs s hs).2⟩⟩
theorem Aft.keep {w W W' : World} {g n c : Nat} {D' : List Sct} (h : Aft w W g n c D') (hm : Mod (fun _ => False) W W') : Aft w W' g n c D' :=
  ⟨h.own.mod hm (fun _ _ => id), fun s hs => (h.secs s hs).keep hm⟩
theorem Aft.len {w W : World} {g n c : Nat} {D' : List Sct} (h : Aft w W g n c D') : D'.length = n := by have := h.own.len; simpa using this

def noDefer (ops : Array Oper) : Bool := ops.all fun o => match o.op with
  | .defer _ => false
  | _ => true
theorem noDefer_spec {ops : Array Oper} (h : noDefer ops = true) : ∀ (i : Nat) (o : Oper), ops[i]? = some o → ∀ c, o.op ≠ .defer c := by
  intro i o ho c hc
  obtain ⟨hi, e⟩ := Array.getElem?_eq_some_iff.1 ho
  have := Array.all_eq_true.1 h i hi
  rw [e, hc] at this
  cases this

set_option maxRecDepth 100000 in
set_option maxHeartbeats 4000000 in
theorem crash_ok (w : World) (base : Nat) (x : DV) (h : x.At w base) (hW : x.W.length ≤ 1000) (kA : Option Addr) (kn kc : Nat) (ks : List Bool) (torn kk : Int) (hk : Bl w kA kn kc ks) (hkn : kn ≤ 9223372036854775807) :
    Calls Try.prog 19 #[.pointer (some ⟨x.p, 0, none⟩), .agg #[.slice kA kn kc, .int .i64 torn, .int .i64 kk]] w fun e w' => ∃ x', e = .returned (.pointer (some ⟨x'.p, 0, none⟩)) ∧ Made w w' w.heap.size x' (x.dk.crash (keptN ks torn kk)) := by
  refine (callsIn_wide (n := 8)).1 ?_
  have hmA : Mod (fun _ => False) w (w.alloc (.cells #[.slice kA kn kc, .int .i64 torn, .int .i64 kk] 36)) := (Mod.refl _ w).alloc _
  have hA := h.keep hmA
  obtain ⟨c0, c1, c2, c3, c4, c5⟩ := hA.cells
  have hcl := sclone_ok _ _ _ _ _ hA.dur h.few h.pos
  have Hcl := Lib.hid hcl
  have HmA := Lib.hid hmA
  have H := Lib.hid h
  have Hk := Lib.hid hk
  clear c1 c2 c3 c4 c5 hcl hmA hA h hk
  refine callsIn_of_wp_marks Try.func19 rfl trivial ?_ rfl
  simp only [Try.ntmps19, List.size_toArray, List.length_cons, List.length_nil, Nat.reduceAdd, Nat.reduceSub, Array.replicate_succ, Array.replicate_zero, List.push_toArray, List.append_toArray, List.nil_append, List.cons_append]
  gi_wp2_with fail
  refine ⟨trivial, ?_⟩
  refine (callsIn_wide.2 Hcl.out).mono ?_
  rintro e wB ⟨g, cS, rfl, hf, hmB⟩
  have Hf := Lib.hid hf
  have HmB := Lib.hid hmB
  have hmC : Mod (fun _ => False) w (wB.alloc (.cells #[.slice (some ⟨g, 0, none⟩) x.D.length cS] 63)) := (HmA.out.trans hmB (fun _ _ h => h)).alloc _
  have hb3 : (wB.alloc (.cells #[.slice (some ⟨g, 0, none⟩) x.D.length cS] 63)).heap[w.heap.size]? = some (.cells #[.slice kA kn kc, .int .i64 torn, .int .i64 kk] 36 (0, 0)) := by
    have h1 := heap_alloc_new w (.cells #[.slice kA kn kc, .int .i64 torn, .int .i64 kk] 36)
    have h2 := (hmB.block w.heap.size (by rw [World.size_alloc]; omega) id).trans h1
    exact (Below.heap_alloc wB _ _ (Array.getElem?_eq_some_iff.1 h2).1).trans h2
  have d0 : (wB.alloc (.cells #[.slice (some ⟨g, 0, none⟩) x.D.length cS] 63)).cell? ⟨w.heap.size, 0, none⟩ = some (.slice kA kn kc) := by rw [cell_of_row _ _ _ _ _ _ hb3]; rfl
  have d1 : (wB.alloc (.cells #[.slice (some ⟨g, 0, none⟩) x.D.length cS] 63)).cell? ⟨w.heap.size, 1, none⟩ = some (.int .i64 torn) := by rw [cell_of_row _ _ _ _ _ _ hb3]; rfl
  have d2 : (wB.alloc (.cells #[.slice (some ⟨g, 0, none⟩) x.D.length cS] 63)).cell? ⟨w.heap.size, 2, none⟩ = some (.int .i64 kk) := by rw [cell_of_row _ _ _ _ _ _ hb3]; rfl
  have HmC := Lib.hid hmC
  clear hf hmB Hcl hb3 hmC c0
  gi_wp2_with fail
  refine ⟨trivial, ?_⟩
  refine (callsIn_wide.2 (survivors_ok _ _ _ _ _ _ _)).mono ?_
  rintro e wD ⟨rfl, hwD⟩
  clear d0 d1 d2
  obtain ⟨wC, hwC⟩ : ∃ wC, wC = wB.alloc (.cells #[.slice (some ⟨g, 0, none⟩) x.D.length cS] 63) := ⟨_, rfl⟩
  rw [← hwC] at hwD HmC ⊢
  have hsC : wC.heap.size = wB.heap.size + 1 := by rw [hwC, World.size_alloc]
  have hbox : wC.heap[wB.heap.size]? = some (.cells #[.slice (some ⟨g, 0, none⟩) x.D.length cS] 63 (0, 0)) := by rw [hwC]; exact heap_alloc_new wB _
  have hmCD : Mod (fun _ => False) wC wD := by rw [hwD]; exact ((Mod.refl _ _).alloc _).alloc _
  have hsD : wD.heap.size = wC.heap.size + 2 := by rw [hwD, World.size_alloc, World.size_alloc]
  have hboxD : wD.heap[wC.heap.size]? = some (.cells #[.pointer (some ⟨x.p, 0, none⟩)] 24 (0, 0)) := by
    rw [hwD]
    exact (Below.heap_alloc _ _ _ (by rw [World.size_alloc]; omega)).trans (heap_alloc_new wC _)
  have hboxC : wD.heap[wC.heap.size + 1]? = some (.cells #[.slice kA kn kc, .int .i64 torn, .int .i64 kk] 36 (0, 0)) := by
    rw [hwD]
    have := heap_alloc_new (wC.alloc (.cells #[.pointer (some ⟨x.p, 0, none⟩)] 24)) (.cells #[.slice kA kn kc, .int .i64 torn, .int .i64 kk] 36)
    rw [World.size_alloc] at this
    exact this
  have hmD : Mod (fun _ => False) w wD := HmC.out.trans hmCD (fun _ _ h => h)
  have hbox' : Boxed wD wB.heap.size 63 (.slice (some ⟨g, 0, none⟩) x.D.length cS) := (hmCD.block _ (by omega) id).trans hbox
  have hgB := Hf.out.lt g rfl
  have hgw : w.heap.size + 1 ≤ g ∧ g < wB.heap.size := by have h1 := hgB.1; rw [World.size_alloc] at h1; exact ⟨h1, hgB.2⟩
  have hownD : OwV wD w.heap.size 61 (some ⟨g, 0, none⟩) x.D.length cS (x.D.map Sct.v) := by
    refine (((Hf.out.rebase (fun k hk => ?_)).alloc (.cells #[.slice (some ⟨g, 0, none⟩) x.D.length cS] 63)).mod (w' := wD) (by rw [← hwC]; exact hmCD) (fun _ _ => id))
    simp [blkOf] at hk
    omega
  have hmlt : ∀ k, x.M k → k < w.heap.size := fun k hk => (H.out.M_lt hk).2
  have hD := H.out.keep hmD
  have hIts : Its wD g wD.heap.size wC.heap.size (wC.heap.size + 1) x kA kn kc ks torn kk := by
    refine ⟨by rw [cell_of_row _ _ _ _ _ _ hboxD]; rfl, by rw [cell_of_row _ _ _ _ _ _ hboxC]; rfl, by rw [cell_of_row _ _ _ _ _ _ hboxC]; rfl, by rw [cell_of_row _ _ _ _ _ _ hboxC]; rfl, Hk.out.keep hmD, ?_, hD.cells.2.2.1, fun j y hy => hD.pendAt j y hy, by omega, by omega, ?_, ?_⟩
    · intro k hk' hn
      obtain ⟨b, o, e, hc⟩ := Hk.out.2.2 hn
      rw [e] at hk'
      simp [blkOf] at hk'
      have := World.block_lt_of_cell? w _ (hc 0 hn)
      simp only at this
      omega
    · have := hmlt x.p (.inl rfl); omega
    · intro b hb; have := hmlt b (.inr (.inr (.inr hb))); omega
  have HIts := Lib.hid hIts
  have HmD := Lib.hid hmD
  have Hbox := Lib.hid hbox'
  have HownD := Lib.hid hownD
  have HD := Lib.hid hD
  have HsC := Lib.hid hsC
  have HsD := Lib.hid hsD
  have Hgw := Lib.hid hgw
  obtain ⟨Bd, hBd⟩ : ∃ Bd, Bd = wC.heap.size := ⟨_, rfl⟩
  obtain ⟨Ba, hBa⟩ : ∃ Ba, Ba = wB.heap.size := ⟨_, rfl⟩
  obtain ⟨B3, hB3⟩ : ∃ B3, B3 = w.heap.size := ⟨_, rfl⟩
  rw [← hBd] at HIts HsC HsD ⊢
  rw [← hBa] at HsC Hbox Hgw ⊢
  have HBd := Lib.hid hBd
  have HBa := Lib.hid hBa
  clear hIts hmD hbox' hownD hD hsC hsD hgw hgB hboxD hboxC hmCD hbox hwC hwD hmlt hBd hBa HmC Hf HmB HmA
  gi_wp2_with fail
  have hP : ∀ j y, x.W[j]? = some y → (fun z : Sv => z.i < x.D.length ∧ z.s.At wD (fun k => k = g) ∧ z.k ≤ 256) ⟨y.1, y.2, keptN ks torn kk j⟩ := by
    intro j y hy
    have h1 := H.out.wsecs y (List.mem_of_getElem? hy)
    refine ⟨h1.1, ⟨h1.2.1.mod HmD.out (fun _ _ _ => id), fun k hk e => ?_⟩, keptN_le _ _ _ _⟩
    obtain ⟨b, o, hA, hb⟩ := h1.2.1.lt (by omega)
    rw [hA] at hk
    simp [blkOf] at hk
    have := Hgw.out
    omega
  refine wpIn_rangeFunc_ownH (α := { z : Sv // z.i < x.D.length ∧ z.s.At wD (fun k => k = g) ∧ z.k ≤ 256 }) rfl (by omega) (gf := 41) (lb := #[.pointer (some ⟨Bd, 0, none⟩), .pointer (some ⟨Bd + 1, 0, none⟩)]) rfl trivial (enters_of Try.func41 (by kernel_rfl) rfl)
    (surv_stops 7 g wD.heap.size Bd (Bd + 1) (by omega) x kA kn kc ks torn kk _ hkn hW hP wD rfl HIts.out)
    (fun h k => Mod.trans h k (fun _ _ e => e))
    (fun W l o o' hl ho _ _ => ⟨rfl, rfl, rfl, by simp, fun k hk hn => World.putObj_heap_other (fun e => hn (.inr (by omega)))⟩)
    (Below.refl _ _) (fun _ => rfl)
    (fun pre W => (∃ D', Aft w W g x.D.length cS D' ∧ D'.map Sct.xs = applySv (x.D.map Sct.xs) (pre.map Subtype.val)) ∧ Boxed W Ba 63 (.slice (some ⟨g, 0, none⟩) x.D.length cS) ∧ Kp g wD.heap.size wD W)
    (fun _ _ _ => False)
    ?hI (fun _ _ _ _ _ hs _ _ => hs) ?h0
    (fun z a' W => ∃ Bx, wD.heap.size ≤ Bx ∧ W.heap[Bx]? = some (.cells #[.int .i64 z.1.i, .slice z.1.s.A 256 z.1.s.c] 68 (0, 0)) ∧ a' = { tmps := #[.pointer (some ⟨x.p, 0, none⟩), .agg #[.slice kA kn kc, .int .i64 torn, .int .i64 kk], undef, .pointer (some ⟨w.heap.size, 0, none⟩), .pointer none, .pointer (some ⟨Ba, 0, none⟩), .pointer (some ⟨Bx, 0, none⟩), .int .i64 z.1.k, .pointer (some ⟨x.p, 0, none⟩), .bool false, .pointer (some ⟨x.p, 0, none⟩), .pointer (some ⟨x.p, 0, none⟩), .pointer (some ⟨x.p, 0, none⟩), .slice (some ⟨x.bd, 0, none⟩) x.D.length x.cd, .slice (some ⟨g, 0, none⟩) x.D.length cS, .pointer (some ⟨x.p, 0, none⟩), .agg #[.slice kA kn kc, .int .i64 torn, .int .i64 kk], .func (.func 41) #[] #[.pointer (some ⟨Bd, 0, none⟩), .pointer (some ⟨Bd + 1, 0, none⟩)], .agg #[.int .i64 z.1.i, .slice z.1.s.A 256 z.1.s.c], .int .i64 z.1.k, undef, undef, undef, undef, undef, undef, undef, undef, undef, undef, undef, undef, undef, undef, undef, undef, undef, undef], defers := [] })
    ?hAx ?assign ?body ?done ?stop
  case hI =>
    rintro pre A B row ⟨⟨D', ha, hd⟩, hb, hk⟩ hg hr
    exact ⟨⟨D', ha.own_ hg (fun r e => (hr r e).2), hd⟩, blk_kept hb hg (fun r e => (hr r e).2), hk.turn hg (fun r e _ => .inr (hr r e).1)⟩
  case h0 =>
    refine ⟨⟨x.D, ⟨HownD.out, fun s hs => ?_⟩, rfl⟩, Hbox.out, Mod.refl _ _⟩
    have h1 := H.out.secs s hs
    refine ⟨h1.1.mod HmD.out (fun _ _ _ => id), fun k hk e => ?_⟩
    obtain ⟨b, o, hA, hb⟩ := h1.1.lt (by omega)
    rw [hA] at hk
    simp [blkOf] at hk
    have := Hgw.out
    omega
  case hAx =>
    rintro z a' _ A B row ⟨Bx, h1, h2, h3⟩ hg hr
    exact ⟨Bx, h1, blk_kept h2 hg (fun r e => (hr r e).2), h3⟩
  case assign =>
    rintro l pre z W K ⟨⟨D', ha, hd⟩, hb, hk⟩ hK
    have HK := Lib.hid hK
    clear hK
    dsimp only [Sv.encs]
    gi_wp2
    refine HK.out _ _ ((KeepsOthers.alloc _ _).from _) ((Mod.refl _ W).alloc _) ⟨⟨D', ha.keep ((Mod.refl _ W).alloc _), hd⟩, hb.alloc _, hk.alloc _⟩ ⟨W.heap.size, hk.size, heap_alloc_new W _, rfl⟩
  case stop =>
    rintro D c pre W _ _ h _
    exact h.elim
  case done =>
    rintro D zs W hD hzs ⟨⟨D', ha, hd⟩, hb, hk⟩ hK
    have cb := hb.cell
    have hlen := ha.len
    have hWw : Mod (fun _ => False) w W := HmD.out.trans hk (fun i hi e => by have := Hgw.out; have := HmD.out.size; rcases e with e | e <;> omega)
    have hmd := made_ok W w.heap.size g cS D' (by rw [hlen]; exact ha.own) (by rw [hlen]; exact H.out.few) (by rw [hlen]; exact H.out.pos) hWw.size ha.secs
    rw [hlen, hd, hzs, applySv_surv] at hmd
    have Hmd := Lib.hid hmd
    have HK := Lib.hid hK
    have HWw := Lib.hid hWw
    have HhD := Lib.hid hD
    clear hmd hK hWw ha hd hb hk hlen hzs hD
    gi_wp2_with fail
    refine ⟨trivial, ?_⟩
    refine (callsIn_wide.2 Hmd.out).mono ?_
    rintro e w2 ⟨x', rfl, hM⟩
    have hK2 : w2.heap[D]? = some (.deferred (some [])) := (hM.2.2.2.block D (Array.getElem?_eq_some_iff.1 HK.out).1 id).trans HK.out
    have HM := Lib.hid hM
    have HK2 := Lib.hid hK2
    clear hM hK2 cb
    gi_wp2
    refine ⟨by simp, .inl ⟨_, _, rfl, run_takeDeferred HK2.out, ?_⟩⟩
    refine ⟨_, results_tmp rfl _ _ _, x', rfl, ?_⟩
    have hg2 := grownBy_putObj' w2 D (.deferred none)
    have hr2 : ∀ r, some D = some r → ∃ o : Obj, w2.heap[r]? = some o ∧ o.isCells = false := fun r e => by cases e; exact ⟨_, HK2.out, rfl⟩
    refine ⟨HM.out.1.own hg2 hr2, HM.out.2.1, HM.out.2.2.1, ?_⟩
    refine (HWw.out.trans HM.out.2.2.2 (fun _ _ h => h)).turn hg2 (fun r e hr => ?_)
    cases e
    have := HhD.out
    have := HmD.out.size
    omega
  case body =>
    rintro l pre z a' W hl _ ⟨⟨D', ha, hd⟩, hb, hk⟩ ⟨Bx, hBx, hbx, rfl⟩ _
    gi_wp2
    have hz := z.2
    obtain ⟨s0, hs0⟩ : ∃ s0, D'[z.1.i]? = some s0 := ⟨_, List.getElem?_eq_getElem (by rw [ha.len]; exact hz.1)⟩
    obtain ⟨⟨u, cu, hu⟩, fu⟩ := ha.own.spot z.1.i hz.1
    rw [List.getElem?_map, hs0] at hu
    injection hu with hu
    have cu' : W.drew.cell? ⟨g, z.1.i, none⟩ = some (.slice s0.A 256 s0.c) := by rw [← hu] at cu; exact cu
    have hsat := ha.secs s0 (List.mem_of_getElem? hs0)
    have hS : W.drew.cell? ⟨Ba, 0, none⟩ = some (.slice (some ⟨g, 0, none⟩) x.D.length cS) ∧ W.drew.cell? ⟨Bx, 0, none⟩ = some (.int .i64 z.1.i) ∧ W.drew.cell? ⟨Bx, 1, none⟩ = some (.slice z.1.s.A 256 z.1.s.c) :=
      ⟨hb.cell, by show W.cell? _ = _; rw [cell_of_row _ _ _ _ _ _ hbx]; rfl, by show W.cell? _ = _; rw [cell_of_row _ _ _ _ _ _ hbx]; rfl⟩
    have hz1 : (z.1.i : Int) < x.D.length := by have := hz.1; omega
    have hz0 := hz.1
    have hzs : Sl W.drew z.1.s.A 256 z.1.s.c z.1.s.xs := by
      refine hz.2.1.1.mod hk.drew (fun k hk' _ e => ?_)
      obtain ⟨b, o, hA, hbl⟩ := hz.2.1.1.lt (by omega)
      rcases e with e | e
      · exact hz.2.1.2 k hk' e
      · rw [hA] at hk'
        simp [blkOf] at hk'
        omega
    refine wpIn_region_any (by kernel_rfl) (roundOps (noDefer_spec (by kernel_rfl)) ?letsout _ _ _ _ (wpAny_of_held _ _ _ _
      (crash_region (W := W.drew) (by kernel_rfl) (by kernel_rfl) (by kernel_rfl) ?panic x.D.length g Ba Bx cS z.1.i s0.c z.1.s.c z.1.k hz.2.2 s0.A z.1.s.A s0.xs z.1.s.xs _ _ _ _ _ _ _ _ _ _ _ _ _ _ _ _ _ _ _ _ _ _ _ _ _ _ _ _ _ _ _ _ _ _ _ _ hz.1 hS cu' fu hsat.1 hzs ?n1 ?n2 ?fin)))
    case letsout =>
      rintro ⟨a, w', hq⟩
      exact hq
    case panic =>
      intro c a a' w' hq
      exact hq
    case n1 => have := Hgw.out; omega
    case n2 => have := Hgw.out; have := HsC.out; have := HsD.out; omega
    case fin =>
      intro g' w' a' hsec
      have hgl : g < W.heap.size := (ha.own.lt g rfl).2
      have hm1 : Mod (fun _ => False) W w' := (Mod.refl _ W).drew.trans hsec.2.2 (fun _ _ h => h)
      have hg' : g' ≠ g := by have : W.heap.size ≤ g' := hsec.1; omega
      have hm2 : Mod (fun k => k = g) w' (w'.setCell ⟨g, z.1.i, none⟩ (.slice (some ⟨g', 0, none⟩) 256 256)) := (Mod.refl _ w').one _ _
      have hmW : Mod (fun k => k = g) W (w'.setCell ⟨g, z.1.i, none⟩ (.slice (some ⟨g', 0, none⟩) 256 256)) := (hm1.mono (fun _ _ h => h.elim)).trans hm2 (fun _ _ e => e)
      have hgc : ∃ cur, W.heap[g]? = some (.cells cur 61 (0, 0)) := by
        obtain ⟨_, cur, hc, _⟩ := ha.own.block rfl
        exact ⟨cur, hc⟩
      have hBg : Ba ≠ g := by have := Hgw.out; omega
      have hl0 : s0.xs.length = 256 := hsat.len
      have hl1 : z.1.s.xs.length = 256 := hz.2.1.len
      refine ⟨⟨hmW.size, fun k o _ hk' ho => ?_⟩, hmW.mono (fun _ _ e => .inl e), ⟨D'.set z.1.i ⟨some ⟨g', 0, none⟩, 256, partOf s0.xs z.1.s.xs z.1.k⟩, ⟨?_, fun s hs => ?_⟩, ?_⟩, (hmW.block Ba hb.lt hBg).trans hb, hk.trans (hmW.mono (fun _ _ e => .inl e)) (fun _ _ e => e)⟩
      · refine (hmW.block k (Array.getElem?_eq_some_iff.1 hk').1 (fun e => ?_)).trans hk'
        obtain ⟨cur, hc⟩ := hgc
        rw [e, hc] at hk'
        injection hk' with hk'
        subst hk'
        cases ho
      · have h1 := (ha.own.mod hm1 (fun _ _ => id)).set z.1.i (.slice (some ⟨g', 0, none⟩) 256 256)
        rw [← map_set_v]
        exact h1
      · rcases List.mem_or_eq_of_mem_set hs with h1 | h1
        · exact (ha.secs s h1).mod hmW
        · subst h1
          refine ⟨(hsec.sl (partOf_len _ _ _ hl0 hl1 hz.2.2)).mod hm2 (fun k hk' _ e => ?_), fun k hk' e => ?_⟩
          · simp [blkOf] at hk'; omega
          · simp [blkOf] at hk'; omega
      · rw [List.map_append, List.map_cons, List.map_nil, applySv_snoc, ← hd, List.map_set, List.getD_eq_getElem?_getD, List.getElem?_map, hs0]
        rfl
end Go.Proofs.Ytfgngmoeedegiaa
