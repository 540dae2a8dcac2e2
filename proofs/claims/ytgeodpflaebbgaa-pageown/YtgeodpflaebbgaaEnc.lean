/-
  page.content.encode.
-/
import Derived.Test.YtgeodpflaebbgaaCont
import Derived.Test.YtgeodpflaebbgaaSame5
import Derived.Test.YtgeodpflaebbgaaCopy
import Derived.StillTailTactics
import Derived.Deep.RegionHeld3
namespace Go.Proofs.Ytgeodpflaebbgaa
open Go Go.RowKit Go.Shelf
attribute [local go_sem] Oper.semAt_some

/-- An entry that reads, in a world, as a record whose key and value fit. -/
abbrev En (w : World) := { q : Pr × Rec // q.1.1 = q.2.1 ∧ Sl w q.1.2.a q.1.2.n q.1.2.c q.2.2 ∧ 0 ≤ q.2.1 ∧ q.2.1 ≤ 65535 ∧ q.2.2.length ≤ 32 }
def ens (w : World) : (L : List Pr) → (rs : List Rec) → Vals w (fun _ => True) L rs → (∀ r ∈ rs, 0 ≤ r.1 ∧ r.1 ≤ 65535) → (∀ r ∈ rs, r.2.length ≤ 32) → List (En w)
  | [], [], _, _, _ => []
  | e :: L, r :: rs, h, hk, hv => ⟨(e, r), h.1.1, h.1.2.1, (hk r (List.mem_cons_self ..)).1, (hk r (List.mem_cons_self ..)).2, hv r (List.mem_cons_self ..)⟩ :: ens w L rs h.2 (fun q hq => hk q (List.mem_cons_of_mem _ hq)) (fun q hq => hv q (List.mem_cons_of_mem _ hq))
theorem ens_fst (w : World) : ∀ (L : List Pr) (rs : List Rec) (h : Vals w (fun _ => True) L rs) (hk : ∀ r ∈ rs, 0 ≤ r.1 ∧ r.1 ≤ 65535) (hv : ∀ r ∈ rs, r.2.length ≤ 32), (ens w L rs h hk hv).map (fun q => q.1.1) = L
  | [], [], _, _, _ => rfl
  | e :: L, r :: rs, h, hk, hv => by simp only [ens, List.map_cons]; rw [ens_fst w L rs h.2]
theorem ens_snd (w : World) : ∀ (L : List Pr) (rs : List Rec) (h : Vals w (fun _ => True) L rs) (hk : ∀ r ∈ rs, 0 ≤ r.1 ∧ r.1 ≤ 65535) (hv : ∀ r ∈ rs, r.2.length ≤ 32), (ens w L rs h hk hv).map (fun q => q.1.2) = rs
  | [], [], _, _, _ => rfl
  | e :: L, r :: rs, h, hk, hv => by simp only [ens, List.map_cons]; rw [ens_snd w L rs h.2]

/-- A Writer in new memory, its box behind it; nothing old has turned. -/
structure WS (w : World) (xs : List UInt8) (W : World) : Prop where
  ex : ∃ A n c, Wr W w.heap.size w.heap.size A n c xs
  box : Boxed W (w.heap.size + 1) 79 (.pointer (some ⟨w.heap.size, 0, none⟩))
  old : Mod (fun _ => False) w W
theorem OwV.own {W W' : World} {row : Option Nat} {base : Nat} {e : TypeId} {A : Option Addr} {n c : Nat} {vs : List Value} (h : OwV W base e A n c vs) (hg : W.grownBy W' row) (hr : ∀ r, row = some r → ∃ o : Obj, W.heap[r]? = some o ∧ o.isCells = false) : OwV W' base e A n c vs := by
  refine ⟨h.1, ?_⟩
  rcases h.2 with hn | ⟨g, cap, cur, hv, hb, hgg, rest⟩
  · exact .inl hn
  · exact .inr ⟨g, cap, cur, hv, hb, blk_kept hgg hg hr, rest⟩
/-- A step of the Writer leaves the box, old memory, and rows of entries. -/
theorem wr_typed {W : World} {base g : Nat} {A : Option Addr} {n c : Nat} {xs : List UInt8} (h : Wr W base g A n c xs) {k : Nat} (hk : WF g A k) : ∃ cs t fr, W.heap[k]? = some (.cells cs t fr) ∧ t ≠ 97 ∧ t ≠ 79 := by
  rcases hk with e | e
  · subst e; exact ⟨_, _, _, h.2.1, by decide, by decide⟩
  · obtain ⟨_, cur, hc, _⟩ := h.2.2.block e
    exact ⟨_, _, _, hc, by decide, by decide⟩
theorem box_far {W W' : World} {base g Bo : Nat} {A : Option Addr} {n c : Nat} {xs : List UInt8} {v : Value} (h : Wr W base g A n c xs) (hb : Boxed W Bo 79 v) (hm : Mod (WF g A) W W') : Boxed W' Bo 79 v := by
  refine (hm.block Bo hb.lt (fun e => ?_)).trans hb
  obtain ⟨cs, t, fr, hc, _, ht⟩ := wr_typed h e
  have hb' : W.heap[Bo]? = some (.cells #[v] 79 (0, 0)) := hb
  rw [hc] at hb'
  injection hb' with e
  injection e with _ e
  exact ht e
theorem wr_old {w W W' : World} {g : Nat} {A : Option Addr} {n c : Nat} {xs : List UInt8} (h : Wr W w.heap.size g A n c xs) (ho : Mod (fun _ => False) w W) (hm : Mod (WF g A) W W') : Mod (fun _ => False) w W' :=
  ho.trans hm (fun _ hi e => h.wf hi e)
theorem WS.own {w W W' : World} {B : Nat} {xs : List UInt8} {row : Option Nat} (hB : w.heap.size ≤ B) (h : WS w xs W) (hg : W.grownBy W' row) (hr : ∀ r, row = some r → B ≤ r ∧ ∃ o : Obj, W.heap[r]? = some o ∧ o.isCells = false) : WS w xs W' := by
  obtain ⟨A, n, c, hw⟩ := h.ex
  exact ⟨⟨A, n, c, hw.1, blk_kept hw.2.1 hg (fun r e => (hr r e).2), hw.2.2.own hg (fun r e => (hr r e).2)⟩, blk_kept h.box hg (fun r e => (hr r e).2), h.old.grown hg (fun k e hk => by have := (hr k e).1; omega)⟩
theorem WS.keep {w W W' : World} {xs : List UInt8} (h : WS w xs W) (hm : Mod (fun _ => False) W W') : WS w xs W' := by
  obtain ⟨A, n, c, hw⟩ := h.ex
  exact ⟨⟨A, n, c, hw.mod hm id (fun _ _ => id)⟩, (hm.block _ h.box.lt id).trans h.box, h.old.trans hm (fun _ _ h => h)⟩
theorem ws_new (w : World) : WS w [] ((w.alloc (.cells #[.slice none 0 0] 81)).alloc (.cells #[.pointer (some ⟨w.heap.size, 0, none⟩)] 79)) := by
  have h1 : Wr (w.alloc (.cells #[.slice none 0 0] 81)) w.heap.size w.heap.size none 0 0 [] := ⟨Nat.le_refl _, heap_alloc_new w _, OwV.nil _ _ _⟩
  refine ⟨⟨none, 0, 0, h1.alloc _⟩, ?_, ((Mod.refl _ w).alloc _).alloc _⟩
  have := Boxed.new (w.alloc (.cells #[.slice none 0 0] 81)) 79 (.pointer (some ⟨w.heap.size, 0, none⟩))
  rw [World.size_alloc] at this
  exact this
/-- What a step of the Writer leaves. -/
structure Stp (w W W' : World) (xs : List UInt8) : Prop where
  ws : WS w xs W'
  kf : ∀ B, KeepsFrom B W W'
  kp : KpE W W'
theorem wr_step {w W W' : World} {xs ys : List UInt8} {A A' : Option Addr} {n c n' c' : Nat} (h : WS w xs W) (hA : Wr W w.heap.size w.heap.size A n c xs)
    (hw : Wr W' w.heap.size w.heap.size A' n' c' ys) (hm : Mod (WF w.heap.size A) W W') : Stp w W W' ys :=
  have hk := keeps_of_mod hm (fun k _ e => by
    obtain ⟨cs, t, fr, hc, ht, _⟩ := wr_typed hA e
    exact ⟨cs, t, fr, hc, ht⟩)
  ⟨⟨⟨A', n', c', hw⟩, box_far hA h.box hm, wr_old hA h.old hm⟩, hk.1, hk.2⟩
theorem ens_len {w : World} (l : List (En w)) : (recsB (l.map (fun q => q.1.2))).length ≤ l.length * 35 := by
  induction l with
  | nil => simp [recsB]
  | cons q l ih =>
    have := q.2.2.2.2.2
    simp only [List.map_cons, recsB, List.length_append, recB_len, List.length_cons]
    omega
theorem ens_snoc {w : World} (hd : List UInt8) (l : List (En w)) (z : En w) : hd ++ recsB (l.map (fun q => q.1.2)) ++ le (2 : Int).toNat z.1.2.1.toNat ++ (UInt8.ofNat z.1.2.2.length :: z.1.2.2) = hd ++ recsB ((l ++ [z]).map (fun q => q.1.2)) := by
  rw [List.map_append, recsB_append]
  simp [recsB, recB]
theorem enc_splice (g : Pg) (h : Good g) : splice (List.replicate 248 (Value.int .u8 0)) 0 ((bodyB g).map bv) = (enc g).map bv := by
  have hl := bodyB_len h
  unfold splice enc fillB
  rw [List.take_zero, List.nil_append, Nat.zero_add, List.drop_replicate, List.length_map, List.map_append, List.map_replicate]
  rfl
theorem ws_bytes {w W : World} {xs : List UInt8} (h : WS w xs W) (hl : xs.length ≤ 900000) :
    Calls Try.prog 42 #[.pointer (some ⟨w.heap.size, 0, none⟩)] W fun e w' => e = .returned (.slice (some ⟨W.heap.size, 0, none⟩) xs.length xs.length) ∧ Fresh W w' xs := by
  obtain ⟨A, n, c, hw⟩ := h.ex
  have hn : xs.length = n := by have := hw.2.2.len; simpa using this
  subst hn
  exact bytes_ok W _ _ A _ c xs hw (by omega)
theorem ws_put {w W : World} {xs : List UInt8} (h : WS w xs W) (hl : xs.length ≤ 900000) (n k : Int) (hk : widthOk k = true) (hn0 : 0 ≤ n) (hn : n < 256 ^ k.toNat) :
    Calls Try.prog 39 #[.pointer (some ⟨w.heap.size, 0, none⟩), .int .i64 n, .int .i64 k] W fun e W' => e = .returned (.int .i64 0) ∧ Stp w W W' (xs ++ le k.toNat n.toNat) := by
  obtain ⟨A, m, c, hw⟩ := h.ex
  have hm : xs.length = m := by have := hw.2.2.len; simpa using this
  refine (put_ok W _ _ A m c xs hw (by omega) n k hk hn0 hn).mono ?_
  rintro e W' ⟨rfl, A', c', h1, h2, _⟩
  exact ⟨rfl, wr_step h hw h1 h2⟩
theorem ws_lay {w W : World} {xs ys : List UInt8} {B : Option Addr} {m d : Nat} (h : WS w xs W) (hl : xs.length ≤ 900000) (hs : Sl w B m d ys) (hm : m ≤ 255) :
    Calls Try.prog 41 #[.pointer (some ⟨w.heap.size, 0, none⟩), .slice B m d] W fun e W' => e = .returned (.int .i64 0) ∧ Stp w W W' (xs ++ (UInt8.ofNat ys.length :: ys)) := by
  obtain ⟨A, n, c, hw⟩ := h.ex
  have hn : xs.length = n := by have := hw.2.2.len; simpa using this
  refine (lay_ok W _ _ A n c xs hw (by omega) B m d ys (hs.mod h.old (fun _ _ _ => id)) hm (fun k hk hp => ?_)).mono ?_
  · obtain ⟨b, o, hb, hlt⟩ := hs.lt hp
    have : b = k := by rw [hb] at hk; simpa [blkOf] using hk
    subst this
    exact hw.wf hlt
  · rintro e W' ⟨rfl, A', c', h1, h2, _⟩
    rw [← hs.len] at h1
    exact ⟨rfl, wr_step h hw h1 h2⟩

theorem wpListIn_copyTo {F : Fence} {nF : Nat} {P : Program} {w : World} {ops : Array Oper} {rest : List Oper} {o : Oper} {a : Act} {Q : Exit → Act → World → Prop} (d s : Operand) {t e : TypeId} {z : Value} {bytes : Nat}
    {dp sp : Option Addr} {dLen dCap sLen sCap : Nat} {g off : Nat} {cur : List Value} {T : TypeId} {cs : List Value}
    (he : Elem P t e z bytes) (hgd : o.guard = none)
    (ho : o.op = .call { callee := .builtin .copy, args := #[d, s], argTypes := #[t, t] })
    (hed : a.eval d = .slice dp dLen dCap) (hes : a.eval s = .slice sp sLen sCap)
    (hg : w.heap[g]? = some (.cells cur.toArray T (0, 0))) (hn : cs.length = Nat.min sLen dLen)
    (hpos : 0 < cs.length → dp = some ⟨g, off, none⟩ ∧ ∃ ad, sp = some ad ∧ ∀ j v, cs[j]? = some v → w.cell? (ad.add j) = some v)
    (hfit : off + cs.length ≤ cur.length) (h1 : ∀ v ∈ cs, v.oneCell' = true)
    (h : ∀ w', w'.heap[g]? = some (.cells (splice cur off cs).toArray T (0, 0)) → Mod (fun k => k = g) w w' → w'.heap.size = w.heap.size → wpListIn F nF P ops Q rest (a.put o.dst (goInt cs.length)) w') :
    wpListIn F nF P ops Q (o :: rest) a w := by
  refine wpListIn_plain hgd fun K hK => ?_
  obtain ⟨w', hr, h2, h3, h4⟩ := run_copyTo (P := P) (w := w) he o.type (dp := dp) (sp := sp) (dLen := dLen) (dCap := dCap) (sLen := sLen) (sCap := sCap) (off := off) hg hn hpos hfit h1
  unfold Oper.wpIn
  refine ⟨by simp [Oper.about, ho, resolve, Target.leads, Sem.run_pure], ?_⟩
  rw [Oper.semAt_plain F _ _ (by rw [ho]; intro c hc'; cases hc')]
  simp [execOp, ho, resolve, invoke, builtin, hed, hes, hr, Result.andThen]
  exact hK _ _ (h w' h2 h3 h4)

set_option maxRecDepth 100000 in
set_option maxHeartbeats 4000000 in
theorem encode_ok (w : World) (base : Nat) (x : MV) (hx : x.At w base) (g : Pg) (hid : x.pid = g.id) (hlsn : x.plsn = g.lsn) (hv : Vals w (fun _ => True) x.l g.l) (hg : Good g) :
    Calls Try.prog 29 #[.pointer (some ⟨x.p, 0, none⟩)] w fun e w' => ∃ q, e = .returned (.slice (some ⟨q, 0, none⟩) 248 248) ∧ w'.heap[q]? = some (.cells ((enc g).map bv).toArray 5 (0, 0)) ∧ w.heap.size ≤ q ∧ Mod (fun _ => False) w w' := by
  refine (callsIn_wide (n := 8)).1 ?_
  have hfn := seq_some
  have hcnt := hg.count
  have hll := hv.len
  obtain ⟨LS, hL1, hL2⟩ : ∃ LS : List (En w), LS.map (fun q => q.1.1) = x.l ∧ LS.map (fun q => q.1.2) = g.l := ⟨ens w _ _ hv hg.key hg.val, ens_fst _ _ _ _ _ _, ens_snd _ _ _ _ _ _⟩
  have Hx := Lib.hid hx
  have Hg := Lib.hid hg
  have Hrd : Hid (MRd w (some ⟨x.p, 2, none⟩) (LS.map (fun q => q.1.1))) := by rw [hL1]; exact hx.rd
  have hlen : LS.length = g.l.length := by rw [← hL2, List.length_map]
  have HL2 := Lib.hid hL2
  have cid : w.cell? ⟨x.p, 0, none⟩ = some (.int .i64 g.id) := by rw [cell_of_row _ _ _ _ _ _ hx.obj, hid]; rfl
  have clsn : w.cell? ⟨x.p, 1, none⟩ = some (.int .i64 g.lsn) := by rw [cell_of_row _ _ _ _ _ _ hx.obj, hlsn]; rfl
  have Hid0 := Lib.hid cid
  have Hlsn0 := Lib.hid clsn
  clear hx hg hid hlsn hv hL1 hL2 cid clsn
  refine callsIn_of_wp_marks Try.func29 rfl trivial ?_ rfl
  simp only [Try.ntmps29, List.size_toArray, List.length_cons, List.length_nil, Nat.reduceAdd, Nat.reduceSub, Array.replicate_succ, Array.replicate_zero, List.push_toArray, List.append_toArray, List.nil_append, List.cons_append]
  have Hput := Lib.hid (ws_put (ws_new w) (by simp) 176 1 rfl (by omega) (by decide))
  gi_wp2_with fail
  refine ⟨trivial, ?_⟩
  refine (callsIn_wide.2 Hput.out).mono ?_
  rintro e w1 ⟨rfl, h1⟩
  have h1d : WS w ([] ++ le (1 : Int).toNat (176 : Int).toNat) w1.drew := h1.ws.keep (Mod.refl _ w1).drew
  have cb1 := h1.ws.box.cell
  have cid1 : w1.cell? ⟨x.p, 0, none⟩ = some (.int .i64 g.id) := (World.cell?_of_block (h1.ws.old.block x.p (World.block_lt_of_cell? w _ Hid0.out) id)).trans Hid0.out
  clear Hput
  have Hput := Lib.hid (ws_put h1d (by simp [le_length]) g.id 2 rfl Hg.out.id0 (by have := Hg.out.id1; simp; omega))
  clear h1 h1d
  gi_wp2_with fail
  refine wpIn_wide.2 ?_
  go_still_tail 5, (by kernel_rfl)
  change wpList _ _ _ _ _ w1.drew
  clear cb1 cid1
  generalize w1.drew = w1d at *
  go_wp2_with fail
  refine Hput.out.mono ?_
  rintro e w2 ⟨rfl, h2⟩
  have h2d := h2.ws.keep (Mod.refl _ w2).drew
  have cb2 := h2.ws.box.cell
  have clsn2 : w2.cell? ⟨x.p, 1, none⟩ = some (.int .i64 g.lsn) := (World.cell?_of_block (h2.ws.old.block x.p (World.block_lt_of_cell? w _ Hlsn0.out) id)).trans Hlsn0.out
  clear Hput
  have Hput := Lib.hid (ws_put h2d (by simp [le_length]) g.lsn 4 rfl Hg.out.lsn0 (by have := Hg.out.lsn1; simp; omega))
  clear h2 h2d
  go_wp2_with fail
  gi_wp2_with fail
  refine wpIn_wide.2 ?_
  go_still_tail 5, (by kernel_rfl)
  change wpList _ _ _ _ _ w2.drew
  clear cb2 clsn2
  generalize w2.drew = w2d at *
  go_wp2_with fail
  refine Hput.out.mono ?_
  rintro e w3 ⟨rfl, h3⟩
  have h3d := h3.ws.keep (Mod.refl _ w3).drew
  have cb3 := h3.ws.box.cell
  clear Hput
  have Hput := Lib.hid (ws_put h3d (by simp [le_length]) (g.l.length : Int) 1 rfl (by omega) (by simp; omega))
  have hlc := mlen_ok w3.drew (some ⟨x.p, 2, none⟩) (LS.map (fun q => q.1.1)) (Hrd.out.keep h3d.old)
  rw [List.length_map, hlen] at hlc
  have Hlc := Lib.hid hlc
  have Hc3 : Hid (w3.drew.cell? ⟨w.heap.size + 1, 0, none⟩ = some (.pointer (some ⟨w.heap.size, 0, none⟩))) := h3d.box.cell
  clear h3 h3d hlc
  go_wp2_with fail
  gi_wp2_with fail
  refine wpIn_wide.2 ?_
  go_region_held3 (fun w' => w'.cell? ⟨w.heap.size + 1, 0, none⟩ = some (.pointer (some ⟨w.heap.size, 0, none⟩))) (first | exact Hc3.out | exact h4.ws.box.cell) (first | (go_at_call 40; refine Hlc.out.mono ?_; rintro e w4 ⟨rfl, rfl⟩) | (go_at_call 39; refine Hput.out.mono ?_; rintro e w4 ⟨rfl, h4⟩))
  have H4 : Hid (WS w (headB g) w4) := h4.ws
  clear h4 Hput Hlc Hc3 cb3
  gi_wp2_with fail
  refine ⟨trivial, ?_⟩
  refine (callsIn_wide.2 (mall_ok _ _)).mono ?_
  rintro e wD ⟨rfl, hwD⟩
  have hsz := (H4.out.old.size)
  have hlt2 := H4.out.box.lt
  have hmD1 : Mod (fun _ => False) w4 wD := by rw [hwD]; exact (Mod.refl _ _).alloc _
  have hbx : Boxed wD w4.heap.size 90 (.pointer (some ⟨x.p, 2, none⟩)) := by rw [hwD]; exact Boxed.new w4 _ _
  have HI0 := Lib.hid (H4.out.keep hmD1)
  have HIts : Hid (Its wD w4.heap.size (some ⟨x.p, 2, none⟩) (LS.map (fun q => q.1.1))) := ⟨hbx.cell, Hrd.out.keep HI0.out.old⟩
  have HsD : Hid (w.heap.size + 2 ≤ wD.heap.size) := by show _ ≤ _; have := hmD1.size; omega
  clear hbx hmD1 hwD
  gi_wp2_with fail
  refine wpIn_rangeFunc_ownH (α := En w) rfl (by omega) (gf := 47) (lb := #[.pointer (some ⟨w4.heap.size, 0, none⟩)]) rfl trivial (enters_of Try.func47 (by kernel_rfl) rfl)
    (all1_stops (fun q : En w => q.1.1) 7 w4.heap.size (by omega) (some ⟨x.p, 2, none⟩) LS (by omega) wD HIts.out)
    KpE.trans
    (fun W l o o' hl ho hc _ => ⟨by simp, fun j cur fr hj => (World.putObj_heap_other (fun e => by subst e; rw [hj] at ho; injection ho with ho; subst ho; cases hc)).trans hj⟩)
    (Below.refl _ _) (fun _ => rfl)
    (fun pre W => WS w (headB g ++ recsB (pre.map (fun q => q.1.2))) W ∧ pre.length ≤ 60)
    (fun _ _ _ => False)
    ?hI ?hIx ?h0
    (fun z a' _ => a' = { tmps := #[.pointer (some ⟨x.p, 0, none⟩), undef, .slice none 0 0, .pointer (some ⟨w.heap.size + 1, 0, none⟩), .int .i64 z.1.1.1, .slice z.1.1.2.a z.1.1.2.n z.1.1.2.c, undef, .agg #[.slice none 0 0], .pointer (some ⟨w.heap.size, 0, none⟩), .pointer (some ⟨w.heap.size, 0, none⟩), .int .i64 0, .pointer (some ⟨w.heap.size, 0, none⟩), .pointer (some ⟨x.p, 0, none⟩), .pointer (some ⟨x.p, 0, none⟩), .pointer (some ⟨x.p, 0, none⟩), .int .i64 g.id, .int .i64 0, .pointer (some ⟨w.heap.size, 0, none⟩), .pointer (some ⟨x.p, 0, none⟩), .pointer (some ⟨x.p, 0, none⟩), .pointer (some ⟨x.p, 1, none⟩), .int .i64 g.lsn, .int .i64 0, .pointer (some ⟨w.heap.size, 0, none⟩), .pointer (some ⟨x.p, 0, none⟩), .pointer (some ⟨x.p, 0, none⟩), .pointer (some ⟨x.p, 2, none⟩), .int .i64 g.l.length, .int .i64 0, .pointer (some ⟨x.p, 0, none⟩), .pointer (some ⟨x.p, 0, none⟩), .pointer (some ⟨x.p, 2, none⟩), .func (.func 47) #[] #[.pointer (some ⟨w4.heap.size, 0, none⟩)], .int .i64 z.1.1.1, .slice z.1.1.2.a z.1.1.2.n z.1.1.2.c, undef, undef, undef, undef, undef, undef, undef, undef, undef, undef, undef, undef], defers := [] })
    ?hAx ?assign ?body ?done ?stop
  case hI =>
    rintro pre A B row ⟨h1, h2⟩ hg hr
    exact ⟨h1.own (by have := HsD.out; omega) hg hr, h2⟩
  case hIx =>
    rintro c pre A B row h hg hr
    exact h
  case h0 =>
    refine ⟨?_, by simp⟩
    have := HI0.out
    simpa [recsB] using this
  case hAx => intro z a' _ A B row h _ _; exact h
  case assign =>
    rintro l pre z W K hi hK
    have HK := Lib.hid hK
    have Hi := Lib.hid hi
    clear hK hi
    dsimp only [prEnc]
    gi_wp2
    exact HK.out _ _ ⟨Nat.le_refl _, fun _ _ _ h _ => h⟩ ⟨Nat.le_refl _, fun _ _ _ h => h⟩ Hi.out rfl
  case body =>
    rintro l pre z a' W hl _ ⟨ho, hle⟩ rfl hN
    have cb := ho.box.cell
    obtain ⟨z1, z2, z3, z4, z5⟩ := z.2
    have hlen1 : (headB g ++ recsB (pre.map (fun q : En w => q.1.2))).length ≤ 8000 := by
      have := ens_len pre
      rw [List.length_append, headB_len]
      omega
    have hp := ws_put ho (by omega) z.1.2.1 2 rfl z3 (by simp; omega)
    rw [← z1] at hp
    have Hp := Lib.hid hp
    have Hlen1 := Lib.hid hlen1
    have Hz1 := Lib.hid z1
    have Hz2 := Lib.hid z2
    have Hz5 := Lib.hid z5
    have HN := Lib.hid hN
    have Hsn := Lib.hid (ens_snoc (headB g) pre z)
    clear ho hp hlen1 z1 z2 z3 z4 z5 hN
    gi_wp2_with fail
    refine ⟨trivial, ?_⟩
    refine (CallsIn.inRound l (callsIn_wide.2 Hp.out)).mono ?_
    rintro e W1 ⟨rfl, hs1⟩
    have cb1 := hs1.ws.box.cell
    have Hs1 := Lib.hid hs1
    have Hl := Lib.hid (ws_lay hs1.ws (by rw [List.length_append, le_length, show (2 : Int).toNat = 2 from rfl]; have := Hlen1.out; omega) Hz2.out (by have := Hz2.out.len; have := Hz5.out; omega))
    clear hs1 cb
    gi_wp2_with fail
    refine ⟨trivial, ?_⟩
    refine (CallsIn.inRound l (callsIn_wide.2 Hl.out)).mono ?_
    rintro e W2 ⟨rfl, hs2⟩
    have Hws := hs2.ws
    rw [Hz1.out, Hsn.out] at Hws
    have Hws' := Lib.hid Hws
    have Hs2 := Lib.hid hs2
    clear hs2 Hws cb1
    gi_wp2
    exact ⟨(Hs1.out.kf _).trans (Hs2.out.kf _), Hs1.out.kp.trans Hs2.out.kp, Hws'.out, by rw [List.length_append, List.length_singleton]; have := HN.out; omega⟩
  case stop =>
    rintro D c pre W hD hpre h hK
    exact h.elim
  case done =>
    rintro D zs W hD rfl ⟨ho, _⟩ hK
    rw [HL2.out] at ho
    obtain ⟨Z, HZ⟩ : ∃ Z : List Value, Hid (Z = List.replicate 248 (Value.int .u8 0)) := ⟨_, rfl⟩
    have hmk : ∀ V : World, (Instr.makeSlice 25 (.int .i64 248) (.int .i64 248)).run Try.prog V = .ok (.slice (some ⟨V.heap.size, 0, none⟩) 248 248) (V.alloc (.cells Z.toArray 5)) := by
      intro V
      have := run_makeBytes 248 (by omega) V
      have e : madeCells #[Value.int .u8 0] 248 = (List.replicate 248 (Value.int .u8 0)).toArray := by rw [← toList_madeCells_one]
      rw [e, ← HZ.out] at this
      exact this
    have hcb : (W.alloc (.cells Z.toArray 5)).cell? ⟨w.heap.size + 1, 0, none⟩ = some (.pointer (some ⟨w.heap.size, 0, none⟩)) := (ho.box.alloc _).cell
    have hma : Mod (fun _ => False) W (W.alloc (.cells Z.toArray 5)) := (Mod.refl _ W).alloc _
    have hb := ws_bytes (ho.keep hma) (by have := bodyB_len Hg.out; unfold bodyB at this; omega)
    have hsz2 : (W.alloc (.cells Z.toArray 5)).heap.size = W.heap.size + 1 := World.size_alloc _ _
    have Hq : Hid ((W.alloc (.cells Z.toArray 5)).heap[W.heap.size]? = some (.cells Z.toArray 5 (0, 0))) := heap_alloc_new W _
    have HKa : Hid ((W.alloc (.cells Z.toArray 5)).heap[D]? = some (.deferred (some []))) := (hma.block D (Array.getElem?_eq_some_iff.1 hK).1 id).trans hK
    have hDW : D < W.heap.size := (Array.getElem?_eq_some_iff.1 hK).1
    have Hold := Lib.hid (ho.keep hma).old
    have hbl : (headB g ++ recsB g.l).length ≤ 248 := bodyB_len Hg.out
    have Hbd : Hid (headB g ++ recsB g.l = bodyB g) := rfl
    generalize hbb : headB g ++ recsB g.l = B at *
    have Hb := Lib.hid hb
    clear hb ho hK hma hbb HI0 HIts
    have HszW := Lib.hid ((Hold.out).size)
    gi_wp2_with fail
    refine ⟨trivial, ?_⟩
    refine (callsIn_wide.2 Hb.out).mono ?_
    rintro e W1 ⟨rfl, hf1, hz1, hm1⟩
    have Hg1 : Hid (W1.heap[W.heap.size]? = some (.cells Z.toArray 5 (0, 0))) := (hm1.block _ (by rw [hsz2]; omega) id).trans Hq.out
    have HK1 : Hid (W1.heap[D]? = some (.deferred (some []))) := (hm1.block _ (by rw [hsz2]; omega) id).trans HKa.out
    have Hsl : Hid (Sl W1 (some ⟨(W.alloc (.cells Z.toArray 5)).heap.size, 0, none⟩) B.length B.length B) := Sl.lit B hf1
    have Hm1 := Lib.hid (Hold.out.trans hm1 (fun _ _ h => h))
    have Hn : Hid ((B.map bv).length = Nat.min B.length 248) := by show _ = _; rw [List.length_map]; exact (Nat.min_eq_left hbl).symm
    have Hpos : Hid (0 < (B.map bv).length → some (⟨W.heap.size, 0, none⟩ : Addr) = some ⟨W.heap.size, 0, none⟩ ∧ ∃ ad, (some ⟨(W.alloc (.cells Z.toArray 5)).heap.size, 0, none⟩ : Option Addr) = some ad ∧ ∀ j v, (B.map bv)[j]? = some v → W1.cell? (ad.add j) = some v) := fun hp => ⟨rfl, Hsl.out.src.2.2 (by simpa using hp)⟩
    have Hfit : Hid (0 + (B.map bv).length ≤ Z.length) := by show _ ≤ _; rw [HZ.out, List.length_replicate, List.length_map]; omega
    clear hf1 hz1 hm1 hcb
    obtain ⟨W2, hcp, hg2, hm2, hs2⟩ := run_copyTo (P := Try.prog) (w := W1) byteElem 3 (dp := some ⟨W.heap.size, 0, none⟩) (sp := some ⟨(W.alloc (.cells Z.toArray 5)).heap.size, 0, none⟩) (dLen := 248) (dCap := 248) (sLen := B.length) (sCap := B.length) (off := 0) Hg1.out Hn.out Hpos.out Hfit.out Hsl.out.src.2.1
    rw [hsz2] at hcp
    have Hout : Hid (∃ q, Ending.returned (Value.slice (some ⟨W.heap.size, 0, none⟩) 248 248) = .returned (.slice (some ⟨q, 0, none⟩) 248 248) ∧ (W2.putObj D (.deferred none)).heap[q]? = some (.cells ((enc g).map bv).toArray 5 (0, 0)) ∧ w.heap.size ≤ q ∧ Mod (fun _ => False) w (W2.putObj D (.deferred none))) := by
      have hw := HszW.out
      rw [hsz2] at hw
      have hDlo : w.heap.size ≤ D := by have := HsD.out; omega
      refine ⟨_, rfl, ?_, by omega, ?_⟩
      · rw [World.putObj_heap_other (by omega), hg2, HZ.out, Hbd.out, enc_splice g Hg.out]
      · exact (Hm1.out.trans hm2 (fun k hk e => by omega)).grown (grownBy_putObj' W2 D (.deferred none)) (fun k e hk => by cases e; omega)
    have HK2 : Hid (W2.heap[D]? = some (.deferred (some []))) := (hm2.block D (Array.getElem?_eq_some_iff.1 HK1.out).1 (by omega)).trans HK1.out
    clear hg2 hm2 hs2
    gi_wp2
    refine ⟨by simp, .inl ⟨_, _, rfl, run_takeDeferred HK2.out, ?_⟩⟩
    refine ⟨_, results_tmp (t := 2) rfl _ _ _, ?_⟩
    exact Hout.out
end Go.Proofs.Ytgeodpflaebbgaa
