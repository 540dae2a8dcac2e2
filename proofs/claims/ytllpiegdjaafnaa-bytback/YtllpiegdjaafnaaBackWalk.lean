/-
  What a call of the statement BytBack does: it answers true, and turns nothing that was there.
-/
import Derived.Test.YtllpiegdjaafnaaRowN
import Derived.StillTailTactics
namespace Go.Proofs.Ytllpiegdjaafnaa
open Go Go.RowKit

/-- Is a call taken without an error? -/
def OpD.ok (x : OpD) : Bool := if x.lay then decide (x.m ≤ 255) else putB x.n x.width
def okOps (l : List OpD) : List OpD := l.filter OpD.ok
theorem okOps_snoc (l : List OpD) (j : Nat) (h : j < l.length) : okOps (l.take (j + 1)) = okOps (l.take j) ++ if l[j].ok then [l[j]] else [] := by
  unfold okOps
  rw [List.take_succ_eq_append_getElem h, List.filter_append, List.filter_cons, List.filter_nil]
theorem bytes_not_ok {x : OpD} (h : x.ok = false) : x.bytes = [] := by
  unfold OpD.ok at h
  unfold OpD.bytes layBytes putBytes
  split at h
  · rename_i hl
    rw [if_pos hl, if_neg (by simpa using h)]
  · rename_i hl
    rw [if_neg hl, if_neg (by simpa using h)]
theorem opsBytes_ok (l : List OpD) : opsBytes (okOps l) = opsBytes l := by
  induction l with
  | nil => rfl
  | cons x l ih =>
    unfold okOps opsBytes at *
    by_cases h : x.ok = true
    · rw [List.filter_cons_of_pos h]; simp [ih]
    · have h' : x.ok = false := by simpa using h
      rw [List.filter_cons_of_neg h]; simp [ih, bytes_not_ok h']
theorem okOps_len (l : List OpD) : (okOps l).length ≤ l.length := List.length_filter_le _ _

set_option maxRecDepth 100000 in
set_option maxHeartbeats 1600000 in
theorem back_walk (A : Option Addr) (n c : Nat) (l : List OpD) (w : World) (h : OpsAt w w.heap.size A n c l) :
    Calls Try.prog 5 #[.slice A n c] w fun e w' => e = .returned (.bool true) ∧ Below w.heap.size w w' := by
  go_enter Try.func5, Try.ntmps5
  go_wp2_with fail
  refine (awake_ok _).mono ?_
  rintro e w1 ⟨rfl, hm1⟩
  have h1 := h.mod (Nat.le_refl _) hm1 (fun _ _ => id)
  have hM1 : Mod (fun k => w.heap.size ≤ k) w w1 := hm1.mono (fun _ _ h => h.elim)
  have hs1 := hM1.size
  clear hm1
  go_wp2_with fail
  refine (few_ok _ _ _ _ _ _ h1).mono ?_
  rintro e w2 ⟨rfl, rfl⟩
  by_cases hf : fewB l = false
  · rw [hf]
    go_wp2
    go_ret
    exact ⟨rfl, hM1.below (Nat.le_refl _) (fun _ h => by omega)⟩
  · have hf' : fewB l = true := by simpa using hf
    rw [hf']
    have hn : n ≤ 60 := by
      simp only [fewB, Bool.and_eq_true, decide_eq_true_eq] at hf'
      have := h1.1; omega
    clear hf hf' h
    go_wp2
    have hw0 := Wr.new w1 w.heap.size hs1
    have hM2 : Mod (fun k => w.heap.size ≤ k) w1 (w1.alloc (.cells #[.slice none 0 0] 28)) := (Mod.refl _ w1).alloc _
    generalize hg : w1.heap.size = g at hw0 ⊢
    have Hg := Lib.hid hg
    clear hg
    go_loopw [6, 7] (fun done i wr => ∃ (j : Nat) (A1 A2 : Option Addr) (c1 c2 : Nat), j ≤ n ∧ i = .int .i64 j ∧ done = .slice A2 (okOps (l.take j)).length c2 ∧
      Wr wr w.heap.size g A1 (opsBytes (l.take j)).length c1 (opsBytes (l.take j)) ∧ OwN wr w.heap.size 30 4 A2 (okOps (l.take j)).length c2 (opsCells (okOps (l.take j))) ∧
      (∀ k, blkOf A2 = some k → ¬ WF g A1 k) ∧ Mod (fun k => w.heap.size ≤ k) w1 wr) (fun _ i _ => n - (intOf i).toNat)
    case atStart => exact ⟨0, none, none, 0, 0, by omega, rfl, rfl, hw0, OwN.nil _ _ _ _, by simp [blkOf], hM2⟩
    case round =>
      obtain ⟨j, A1, A2, c1, c2, hj, rfl, rfl, hw, ho, hsep, hM⟩ := hrel
      have hbl : (opsBytes (l.take j)).length ≤ 256 * 60 := by
        have := opsBytes_len (l.take j) (fun y hy => (h1.2.2.2 y (List.mem_of_mem_take hy)).1.1)
        have h3 : (l.take j).length ≤ j := List.length_take_le _ _
        omega
      have hol : (okOps (l.take j)).length ≤ 60 := by
        have := okOps_len (l.take j)
        have h3 : (l.take j).length ≤ j := List.length_take_le _ _
        omega
      have hMs := hM.size
      by_cases hlt : j < n
      · obtain ⟨b, o, rfl, hbB, hcells⟩ := h1.2.2.1 (by omega)
        have hjl : j < l.length := by rw [h1.1]; exact hlt
        obtain ⟨q0, q1, q2, q3⟩ := hcells j l[j] (List.getElem?_eq_getElem hjl)
        have hbel : Below w.heap.size w1 wr := hM.below hs1 (fun _ h => by omega)
        have r0 := (hbel.cell (p := ⟨b, o + j * 4, none⟩) hbB).trans q0
        have r1 := (hbel.cell (p := ⟨b, o + j * 4 + 1, none⟩) hbB).trans q1
        have r2 := (hbel.cell (p := ⟨b, o + j * 4 + 2, none⟩) hbB).trans q2
        have r3 := (hbel.cell (p := ⟨b, o + j * 4 + 3, none⟩) hbB).trans q3
        clear hcells q0 q1 q2 q3
        have hxA := (h1.2.2.2 l[j] (List.getElem_mem hjl)).below hbel
        have Hsn := Lib.hid (opsBytes_snoc l j hjl)
        have Hok := Lib.hid (okOps_snoc l j hjl)
        obtain ⟨x, hxe⟩ : ∃ x, l[j] = x := ⟨_, rfl⟩
        rw [hxe] at r0 r1 r2 r3 hxA Hsn Hok
        obtain ⟨hxw, hxB⟩ := hxA
        have hbx : x.bytes.length ≤ 256 := OpD.bytes_len hxw.1
        have HBX : Hid (x.bytes.length ≤ 256) := hbx
        clear hxe hbx
        by_cases hlay : x.lay = true
        · have hL := hlay
          rw [hlay] at r0
          have HL := Lib.hid hL
          clear hL hlay
          go_wp2_with fail
          refine (lay_any _ _ _ _ _ _ _ hw (by omega) _ _ _ _ hxw (fun k e hp hF => absurd hF (hw.wf (by have := hxB k e hp; omega)))).mono ?_
          rintro e w3 ⟨rfl, A3, c3, hw3, hm3, hh3⟩
          have hM3 := hw.step hM hm3
          have ho3 := ho.mod hm3 hsep
          have hsep3 : ∀ k, blkOf A2 = some k → ¬ WF g A3 k := fun k e hF => hsep k e (hh3.wf k (ho.lt k e).2 hF)
          have hbel3 : Below w.heap.size w1 w3 := hM3.below hs1 (fun _ h => by omega)
          have hb3 : Below w.heap.size wr w3 := hm3.below (by omega) (fun k hk hF => absurd hF (hw.wf hk))
          have r0 := (hb3.cell (p := ⟨b, o + j * 4, none⟩) hbB).trans r0
          have r1 := (hb3.cell (p := ⟨b, o + j * 4 + 1, none⟩) hbB).trans r1
          have r2 := (hb3.cell (p := ⟨b, o + j * 4 + 2, none⟩) hbB).trans r2
          have r3 := (hb3.cell (p := ⟨b, o + j * 4 + 3, none⟩) hbB).trans r3
          have eB : x.bytes = layBytes x.m x.xs := by simp [OpD.bytes, HL.out]
          have HE : Hid (opsBytes (l.take (j + 1)) = opsBytes (l.take j) ++ layBytes x.m x.xs) := by rw [← eB]; exact Hsn.out
          clear hm3 hh3 hbel hbel3 hb3 eB hM hw ho hsep hxw hxB
          by_cases hm : x.m ≤ 255
          · have hok : x.ok = true := by simp [OpD.ok, HL.out, hm]
            have HO : Hid (okOps (l.take (j + 1)) = okOps (l.take j) ++ [x]) := by have := Hok.out; rw [if_pos hok] at this; exact this
            have e1 : layErr x.m = 0 := by simp [layErr, hm]
            rw [e1]
            have hcl : x.cells = [.bool true, .int .i64 x.n, .int .i64 x.width, .slice x.A x.m x.d] := by simp [OpD.cells, HL.out]
            have hsrc : SrcN (w3.alloc (.cells #[.bool true, .int .i64 x.n, .int .i64 x.width, .slice x.A x.m x.d] 30)) (some ⟨w3.heap.size, 0, none⟩) 1 4 x.cells := by
              rw [hcl]
              exact SrcN.lit w3 [.bool true, .int .i64 x.n, .int .i64 x.width, .slice x.A x.m x.d] 30 (by simp [Value.oneCell'])
            have ho4 : OwN (w3.alloc (.cells #[.bool true, .int .i64 x.n, .int .i64 x.width, .slice x.A x.m x.d] 30)) _ _ _ _ _ _ _ := ho3.alloc _
            have hml : (okOps (l.take j)).length + 1 ≤ maxLen := by unfold maxLen; omega
            have hbs : ((okOps (l.take j)).length + 1) * 48 ≤ 140737488355328 := by omega
            have hs3 := hM3.size
            have hbase : w.heap.size ≤ (w3.alloc (.cells #[.bool true, .int .i64 x.n, .int .i64 x.width, .slice x.A x.m x.d] 30)).heap.size := by simp; omega
            clear e1 hm hok hcl
            go_wp2_with (at_builtin; refine wpList_appN (.tmp 60) (.tmp 65) opElem rfl rfl rfl rfl ho4 hsrc hbs hml hbase ?_)
            intro A5 c5 w5 ho5 hg5 hat5
            have hM5 : Mod (fun k => w.heap.size ≤ k) w1 w5 := (hM3.alloc _).grown hg5 (fun k e _ => (ho3.lt k e).1)
            have hw5 : Wr w5 w.heap.size g A3 _ c3 _ := (hw3.alloc _).mod ((Mod.refl (fun k => blkOf A2 = some k) _).grown hg5 (fun k e _ => e)) (fun e => hsep3 g e (.inl rfl)) (fun k e e2 => hsep3 k e2 (.inr e))
            have hsep5 : ∀ k, blkOf A5 = some k → ¬ WF g A3 k := fun k e hF => by
              rcases hat5 with e5 | e5
              · exact hsep3 k (e5.symm.trans e) hF
              · rw [e5] at e; injection e with e
                rcases hF with hF | hF
                · have := hw3.lt; omega
                · have := (hw3.2.2.lt _ hF).2; omega
            clear hat5 hg5 ho4 ho3 hw3 hsrc hsep3 r0 r1 r2 r3
            go_wp2
            go_roundw
            case rel =>
              refine ⟨j + 1, A3, A5, c3, c5, by omega, by go_num, ?_, ?_, ?_, hsep5, hM5⟩
              · rw [HO.out, List.length_append]; rfl
              · rw [HE.out, List.length_append]; exact hw5
              · rw [HO.out, List.length_append, opsCells, List.flatMap_append, List.flatMap_cons, List.flatMap_nil, List.append_nil]; exact ho5
            case measure => simp [intOf]; omega
          · have hok : x.ok = false := by simp [OpD.ok, HL.out, hm]
            have HO : Hid (okOps (l.take (j + 1)) = okOps (l.take j)) := by show _ = _; have := Hok.out; rw [hok] at this; simpa using this
            have e1 : layErr x.m = 2 := by simp [layErr, hm]
            rw [e1]
            clear e1 hm hok r0 r1 r2 r3
            go_wp2
            go_roundw
            case rel =>
              refine ⟨j + 1, A3, A2, c3, c2, by omega, by go_num, ?_, ?_, ?_, hsep3, hM3⟩
              · rw [HO.out]
              · rw [HE.out, List.length_append]; exact hw3
              · rw [HO.out]; exact ho3
            case measure => simp [intOf]; omega
        · 
          have hL : x.lay = false := by simpa using hlay
          rw [hL] at r0
          have HL := Lib.hid hL
          clear hL hlay
          go_wp2_with fail
          go_still_tail 11, (by kernel_rfl)
          change wpList _ _ _ _ _ wr.drew
          have hwd : Wr wr.drew w.heap.size g A1 (opsBytes (l.take j)).length c1 (opsBytes (l.take j)) := hw
          have hMd : Mod (fun k => w.heap.size ≤ k) w1 wr.drew := hM.drew
          have hod : OwN wr.drew w.heap.size 30 4 A2 (okOps (l.take j)).length c2 (opsCells (okOps (l.take j))) := ho
          have hbeld : Below w.heap.size w1 wr.drew := hbel.drew
          have s0 : wr.drew.cell? ⟨b, o + j * 4, none⟩ = some (.bool false) := r0
          have s1 : wr.drew.cell? ⟨b, o + j * 4 + 1, none⟩ = some (.int .i64 x.n) := r1
          have s2 : wr.drew.cell? ⟨b, o + j * 4 + 2, none⟩ = some (.int .i64 x.width) := r2
          have s3 : wr.drew.cell? ⟨b, o + j * 4 + 3, none⟩ = some (.slice x.A x.m x.d) := r3
          have hMsd : w1.heap.size ≤ wr.drew.heap.size := hMs
          clear hw hM ho hbel r0 r1 r2 r3 hxw hMs
          generalize wr.drew = wd at *
          go_wp2_with fail
          refine (put_any _ _ _ _ _ _ _ hwd (by omega) _ _).mono ?_
          rintro e w3 ⟨rfl, A3, c3, hw3, hm3, hh3⟩
          have hM3 := hwd.step hMd hm3
          have ho3 := hod.mod hm3 hsep
          have hsep3 : ∀ k, blkOf A2 = some k → ¬ WF g A3 k := fun k e hF => hsep k e (hh3.wf k (hod.lt k e).2 hF)
          have hb3 : Below w.heap.size wd w3 := hm3.below (by omega) (fun k hk hF => absurd hF (hwd.wf hk))
          have r0 := (hb3.cell (p := ⟨b, o + j * 4, none⟩) hbB).trans s0
          have r1 := (hb3.cell (p := ⟨b, o + j * 4 + 1, none⟩) hbB).trans s1
          have r2 := (hb3.cell (p := ⟨b, o + j * 4 + 2, none⟩) hbB).trans s2
          have r3 := (hb3.cell (p := ⟨b, o + j * 4 + 3, none⟩) hbB).trans s3
          have eB : x.bytes = putBytes x.n x.width := by simp [OpD.bytes, HL.out]
          have HE : Hid (opsBytes (l.take (j + 1)) = opsBytes (l.take j) ++ putBytes x.n x.width) := by rw [← eB]; exact Hsn.out
          clear hm3 hh3 hbeld hb3 eB hMd hwd hod hsep hxB s0 s1 s2 s3
          by_cases hm : putB x.n x.width = true
          · have hok : x.ok = true := by simp [OpD.ok, HL.out, hm]
            have HO : Hid (okOps (l.take (j + 1)) = okOps (l.take j) ++ [x]) := by have := Hok.out; rw [if_pos hok] at this; exact this
            have e1 : putErr x.n x.width = 0 := by simp [putErr, hm]
            rw [e1]
            have hcl : x.cells = [.bool false, .int .i64 x.n, .int .i64 x.width, .slice x.A x.m x.d] := by simp [OpD.cells, HL.out]
            have hsrc : SrcN (w3.alloc (.cells #[.bool false, .int .i64 x.n, .int .i64 x.width, .slice x.A x.m x.d] 30)) (some ⟨w3.heap.size, 0, none⟩) 1 4 x.cells := by
              rw [hcl]
              exact SrcN.lit w3 [.bool false, .int .i64 x.n, .int .i64 x.width, .slice x.A x.m x.d] 30 (by simp [Value.oneCell'])
            have ho4 : OwN (w3.alloc (.cells #[.bool false, .int .i64 x.n, .int .i64 x.width, .slice x.A x.m x.d] 30)) _ _ _ _ _ _ _ := ho3.alloc _
            have hml : (okOps (l.take j)).length + 1 ≤ maxLen := by unfold maxLen; omega
            have hbs : ((okOps (l.take j)).length + 1) * 48 ≤ 140737488355328 := by omega
            have hs3 := hM3.size
            have hbase : w.heap.size ≤ (w3.alloc (.cells #[.bool false, .int .i64 x.n, .int .i64 x.width, .slice x.A x.m x.d] 30)).heap.size := by simp; omega
            clear e1 hm hok hcl
            go_wp2_with (at_builtin; refine wpList_appN (.tmp 60) (.tmp 65) opElem rfl rfl rfl rfl ho4 hsrc hbs hml hbase ?_)
            intro A5 c5 w5 ho5 hg5 hat5
            have hM5 : Mod (fun k => w.heap.size ≤ k) w1 w5 := (hM3.alloc _).grown hg5 (fun k e _ => (ho3.lt k e).1)
            have hw5 : Wr w5 w.heap.size g A3 _ c3 _ := (hw3.alloc _).mod ((Mod.refl (fun k => blkOf A2 = some k) _).grown hg5 (fun k e _ => e)) (fun e => hsep3 g e (.inl rfl)) (fun k e e2 => hsep3 k e2 (.inr e))
            have hsep5 : ∀ k, blkOf A5 = some k → ¬ WF g A3 k := fun k e hF => by
              rcases hat5 with e5 | e5
              · exact hsep3 k (e5.symm.trans e) hF
              · rw [e5] at e; injection e with e
                rcases hF with hF | hF
                · have := hw3.lt; omega
                · have := (hw3.2.2.lt _ hF).2; omega
            clear hat5 hg5 ho4 ho3 hw3 hsrc hsep3 r0 r1 r2 r3
            go_wp2
            go_roundw
            case rel =>
              refine ⟨j + 1, A3, A5, c3, c5, by omega, by go_num, ?_, ?_, ?_, hsep5, hM5⟩
              · rw [HO.out, List.length_append]; rfl
              · rw [HE.out, List.length_append]; exact hw5
              · rw [HO.out, List.length_append, opsCells, List.flatMap_append, List.flatMap_cons, List.flatMap_nil, List.append_nil]; exact ho5
            case measure => simp [intOf]; omega
          · have hok : x.ok = false := by simp [OpD.ok, HL.out, hm]
            have HO : Hid (okOps (l.take (j + 1)) = okOps (l.take j)) := by show _ = _; have := Hok.out; rw [hok] at this; simpa using this
            have e1 : putErr x.n x.width = 1 := by simp [putErr, hm]
            rw [e1]
            clear e1 hm hok r0 r1 r2 r3
            go_wp2
            go_roundw
            case rel =>
              refine ⟨j + 1, A3, A2, c3, c2, by omega, by go_num, ?_, ?_, ?_, hsep3, hM3⟩
              · rw [HO.out]
              · rw [HE.out, List.length_append]; exact hw3
              · rw [HO.out]; exact ho3
            case measure => simp [intOf]; omega
      · obtain rfl : j = n := by omega
        have ht : l.take j = l := List.take_of_length_le (by rw [h1.1]; omega)
        rw [ht] at hw ho hbl hol ⊢
        clear ht
        have Hob := Lib.hid (opsBytes_ok l)
        have hall : ∀ x ∈ okOps l, x.At wr wr.heap.size ∧ x.ok = true := fun x hx => by
          obtain ⟨hx1, hx2⟩ := List.mem_filter.1 hx
          have hb := (h1.2.2.2 x hx1).below (hM.below hs1 (fun _ h => by omega))
          exact ⟨⟨hb.1, fun k e hp => by have := hb.2 k e hp; omega⟩, hx2⟩
        have hops : OpsAt wr wr.heap.size A2 (okOps l).length c2 (okOps l) := ho.ops (Nat.le_refl _) (fun x hx => (hall x hx).1)
        have hokx : ∀ x ∈ okOps l, x.ok = true := fun x hx => (hall x hx).2
        rename World => w3
        clear hall ho hsep hj hlt hw0 hM2 h1
        go_wp2_with fail
        refine (bytes_ok _ _ _ _ _ _ _ hw (by omega)).mono ?_
        rintro e w4 ⟨rfl, hf4⟩
        have hm4 := hf4.2.2
        have hsl4 := hf4.sl rfl
        have hops4 := hops.mod (Nat.le_refl _) hm4 (fun _ _ => id)
        have hM4 : Mod (fun k => w.heap.size ≤ k) w1 w4 := hM.trans hm4 (fun _ _ h => h.elim)
        have hs4 := hm4.size
        clear hf4 hm4 hw hops hM
        go_wp2_with fail
        refine (newReader_ok _ _ _ _ _ hsl4 (by omega)).mono ?_
        rintro e w5 ⟨rfl, hr5, hz5, hm5⟩
        have hops5 := hops4.mod hs4 hm5 (fun _ _ => id)
        have hM5 : Mod (fun k => w.heap.size ≤ k) w1 w5 := hM4.trans hm5 (fun _ _ h => h.elim)
        have hs5 := hm5.size
        have hrg : w3.heap.size ≤ w4.heap.size + 1 := by omega
        have hrw : w.heap.size ≤ w4.heap.size + 1 := by omega
        rw [← Hob.out] at hr5 hbl
        generalize okOps l = dn at *
        obtain ⟨N, hN⟩ : ∃ N, dn.length = N := ⟨_, rfl⟩
        rw [hN] at hops5 hol ⊢
        have HN := Lib.hid hN
        clear hN
        generalize w4.heap.size + 1 = r at *
        clear hz5 hm5 hops4 hM4 hsl4
        go_wp2
        go_loopw [10] (fun i wr => ∃ (j : Nat) (B : Option Addr) (m d : Nat), j ≤ N ∧ i = .int .i64 j ∧ Rd wr r B m d (opsBytes (dn.drop j)) ∧ d ≤ maxLen ∧ OpsAt wr w3.heap.size A2 N c2 dn ∧
          w3.heap.size ≤ wr.heap.size ∧ Mod (fun k => w.heap.size ≤ k) w1 wr) (fun i _ => N - (intOf i).toNat)
        case atStart => exact ⟨0, _, _, _, by omega, rfl, hr5, by unfold maxLen; omega, hops5, by omega, hM5⟩
        case round =>
          obtain ⟨j, B, m, d, hj, rfl, hr, hd, hops, hsz, hM⟩ := hrel
          by_cases hlt : j < N
          · obtain ⟨b, o, rfl, hbB, hcells⟩ := hops.2.2.1 (by omega)
            have hlt' : j < dn.length := by rw [HN.out]; exact hlt
            obtain ⟨q0, q1, q2, q3⟩ := hcells j dn[j] (List.getElem?_eq_getElem hlt')
            have hxA := hops.2.2.2 dn[j] (List.getElem_mem hlt')
            have hxo := hokx dn[j] (List.getElem_mem hlt')
            have hdr : dn.drop j = dn[j] :: dn.drop (j + 1) := List.drop_eq_getElem_cons hlt'
            have hob : opsBytes (dn.drop j) = dn[j].bytes ++ opsBytes (dn.drop (j + 1)) := by rw [hdr, opsBytes, List.flatMap_cons]; rfl
            rw [hob] at hr
            obtain ⟨x, hxe⟩ : ∃ x, dn[j] = x := ⟨_, rfl⟩
            rw [hxe] at q0 q1 q2 q3 hxA hxo hr
            clear hcells hdr hob hxe hlt'
            obtain ⟨hxw, hxB⟩ := hxA
            obtain ⟨rest, hrest⟩ : ∃ rest, opsBytes (dn.drop (j + 1)) = rest := ⟨_, rfl⟩
            rw [hrest] at hr
            have Hrest := Lib.hid hrest
            clear hrest
            have hML := hr.2.1.len
            by_cases hlay : x.lay = true
            · have hm255 : x.m ≤ 255 := by simpa [OpD.ok, hlay] using hxo
              have eB : x.bytes = UInt8.ofNat x.m :: x.xs := by simp [OpD.bytes, layBytes, hlay, hm255]
              rw [eB] at hr hML
              rw [hlay] at q0
              have hxl := hxw.len
              have hx0 : ((UInt8.ofNat x.m :: x.xs ++ rest).getD 0 0).toNat = x.m := by
                show (UInt8.ofNat x.m).toNat = x.m
                rw [UInt8.toNat_ofNat']
                exact Nat.mod_eq_of_lt (by omega)
              have hd0 : ((UInt8.ofNat x.m :: x.xs ++ rest).drop 1).take x.m = x.xs := by simp [← hxl]
              have hd1 : (UInt8.ofNat x.m :: x.xs ++ rest).drop (1 + x.m) = rest := by simp [← hxl, Nat.add_comm]
              have hmm : 1 + x.m ≤ m := by simp at hML; omega
              have Hx0 := Lib.hid hx0
              have Hd0 := Lib.hid hd0
              have Hd1 := Lib.hid hd1
              have Hxl := Lib.hid hxl
              clear hx0 hd0 hd1 hxl hML eB hlay hxo
              go_wp2_with fail
              refine (take_ok _ _ _ _ _ _ hr hd (by omega) x.m Hx0.out hmm).mono ?_
              rintro e w7 ⟨rfl, w6, hf6, B', hr7, _, hm7, hz7⟩
              rw [Hd0.out] at hf6
              rw [Hd1.out] at hr7
              have hm6 := hf6.2.2
              have hsl6 := hf6.sl Hxl.out
              have hrlt := hr.lt
              have hops7 := (hops.mod hsz hm6 (fun _ _ => id)).mod (by have := hm6.size; omega) hm7 (fun k hk e => by omega)
              have hsl7 : Sl w7 (some ⟨wr.heap.size, 0, none⟩) x.m x.m x.xs := hsl6.mod hm7 (fun k e _ e2 => by simp [blkOf] at e; omega)
              have hM7 : Mod (fun k => w.heap.size ≤ k) w1 w7 := (hM.trans hm6 (fun _ _ h => h.elim)).trans hm7 (fun k _ e => by omega)
              have hs7 : w3.heap.size ≤ w7.heap.size := by have := hm6.size; have := hm7.size; omega
              have hb7 : Below w3.heap.size wr w7 := ((Mod.mono hm6 (G := fun k => k = r) (fun _ _ h => h.elim)).trans hm7 (fun _ _ h => h)).below hsz (fun k hk e => by omega)
              have q3 := (hb7.cell (p := ⟨b, o + j * 4 + 3, none⟩) hbB).trans q3
              have hx7 : Sl w7 x.A x.m x.d x.xs := (OpD.At.below (B := w3.heap.size) ⟨hxw, hxB⟩ hb7).1
              clear hf6 hm6 hm7 hz7 hsl6 hops hM hr q0 q1 q2 hb7
              go_wp2_with fail
              refine (same_ok _ _ _ _ _ _ _ _ _ hsl7 hx7 (by omega) (by omega)).mono ?_
              rintro e w8 ⟨rfl, q, rfl⟩
              rw [eqB_self]
              have hM8 : Mod (fun k => w.heap.size ≤ k) w1 (w7.drewN q) := hM7.drewN q
              have hops8 : OpsAt (w7.drewN q) w3.heap.size (some ⟨b, o, none⟩) N c2 dn := hops7
              have hr8 : Rd (w7.drewN q) r B' (m - (1 + x.m)) (d - (1 + x.m)) rest := hr7
              have hs8 : w3.heap.size ≤ (w7.drewN q).heap.size := hs7
              clear hM7 hops7 hr7 hs7 hsl7 hx7 q3
              generalize w7.drewN q = w9 at *
              go_wp2
              go_roundw
              case rel => exact ⟨j + 1, B', _, _, by omega, by go_num, by rw [Hrest.out]; exact hr8, by omega, hops8, hs8, hM8⟩
              case measure => simp [intOf]; omega
            · have hlay : x.lay = false := by simpa using hlay
              have hpb : putB x.n x.width = true := by simpa [OpD.ok, hlay] using hxo
              have eB : x.bytes = le x.width.toNat x.n.toNat := by simp [OpD.bytes, putBytes, hlay, hpb]
              obtain ⟨hk, hn0, hn1⟩ := putB_yes hpb
              rw [eB] at hr hML
              rw [hlay] at q0
              have hk3 := widthOk_cases hk
              have hmm : x.width ≤ m := by rw [List.length_append, le_length] at hML; omega
              have hlt' : x.n.toNat < 256 ^ x.width.toNat := by unfold pw at hn1; omega
              have hu : ((unle ((le x.width.toNat x.n.toNat ++ rest).take x.width.toNat) : Nat) : Int) = x.n := by
                rw [List.take_left' (le_length _ _), unle_le _ _ hlt']; omega
              have hd1 : (le x.width.toNat x.n.toNat ++ rest).drop x.width.toNat = rest := List.drop_left' (le_length _ _)
              have Hu := Lib.hid hu
              have Hd1 := Lib.hid hd1
              clear hu hd1 hML eB hlay hxo hlt' hn1
              go_wp2_with fail
              refine (get_ok _ _ _ _ _ _ hr hd _ hk hmm).mono ?_
              rintro e w7 ⟨rfl, B', hr7, _, hm7, hz7⟩
              rw [Hu.out]
              rw [Hd1.out] at hr7
              have hops7 := hops.mod hsz hm7 (fun k hk e => by omega)
              have hM7 : Mod (fun k => w.heap.size ≤ k) w1 w7 := hM.trans hm7 (fun k _ e => by omega)
              have hs7 : w3.heap.size ≤ w7.heap.size := by have := hm7.size; omega
              have hb7 : Below w3.heap.size wr w7 := hm7.below hsz (fun k hk e => by omega)
              have q1 := (hb7.cell (p := ⟨b, o + j * 4 + 1, none⟩) hbB).trans q1
              clear hm7 hz7 hops hM hr q0 q2 q3 hb7 hk3 hk hpb
              go_wp2
              go_roundw
              case rel => exact ⟨j + 1, B', _, _, by omega, by go_num, by rw [Hrest.out]; exact hr7, by omega, hops7, hs7, hM7⟩
              case measure => simp [intOf]; omega
          · obtain rfl : j = N := by omega
            have h0 : opsBytes (dn.drop j) = [] := by rw [← HN.out]; simp [opsBytes]
            rw [h0] at hr
            have hm0 := hr.2.1.len
            simp at hm0
            subst hm0
            clear h0
            go_wp2_with (go_at_call 22; refine (left_ok _ _ _ _ _ _ hr).mono ?_; rintro e w' ⟨rfl, rfl⟩)
            go_ret
            exact ⟨rfl, (hM1.trans hM (fun _ _ h => h)).below (Nat.le_refl _) (fun _ h => by omega)⟩
end Go.Proofs.Ytllpiegdjaafnaa
