/-
  rec.Decode, a part of its ways.
-/
import Derived.Test.YtnbamljaiahmdaaGreatQDec
namespace Go.Proofs.YtnbamljaiahmdaaGreat
open Go Go.RowKit Go.Shelf

set_option linter.unusedVariables false in
set_option maxRecDepth 100000 in
set_option maxHeartbeats 4000000 in
theorem decode_more (w : World) (A : Option Addr) (n c : Nat) (b : UInt8) (ys : List UInt8) (fl : List Fld) (hfl : fieldsOf b.toNat = some fl) (r : Rc) (b2 : UInt8) (rest2 : List UInt8) (hs : fl.foldl decStep (.got ⟨b.toNat, fun _ => 0, Vl.none, Vl.none⟩ ys) = .got r (b2 :: rest2)) (h : Sl w A n c (b :: ys)) (hn : n ≤ 1000000) :
    Calls Tryz.prog 91 #[.slice A n c] w fun e w' => DecAns w w' e (decode (b :: ys)) ∧ Mod (fun _ => False) w w' := by
  obtain ⟨w1, hw1⟩ : ∃ w1, w.alloc (.cells #[.int .i64 0, .int .i64 0, .int .i64 0, .int .i64 0, .int .i64 0, .int .i64 0, .int .i64 0, .int .i64 0, .int .i64 0, .int .i64 0, .bool false, .slice none 0 0, .bool false, .slice none 0 0] 47) = w1 := ⟨_, rfl⟩
  have hm1 : Mod (fun _ => False) w w1 := by rw [← hw1]; exact (Mod.refl _ w).alloc _
  have hz1 : RcD.zero.In w1 w.heap.size := by rw [← hw1]; exact RcD.In.new w RcD.zero
  have hs1 : w1.heap.size = w.heap.size + 1 := by rw [← hw1, World.size_alloc]
  have Hnr := Lib.hid (newReader_ok w1 A n c (b :: ys) (h.mod hm1 (fun _ _ _ => id)) (by omega))
  have Hm1 := Lib.hid hm1
  have Hz1 := Lib.hid hz1
  have Hs1 := Lib.hid hs1
  clear hm1 hz1 hs1 h
  go_enter Tryz.func91, Tryz.ntmps91
  go_wp2_with fail
  refine Hnr.out.mono ?_
  rintro e w2 ⟨rfl, hrd2, hs2, hm2⟩
  obtain ⟨w3, hw3⟩ : ∃ w3, w2.alloc (.cells #[.pointer (some ⟨w1.heap.size + 1, 0, none⟩)] 140) = w3 := ⟨_, rfl⟩
  have hm3 : Mod (fun _ => False) w2 w3 := by rw [← hw3]; exact (Mod.refl _ w2).alloc _
  have hrd3 : Rd w3 (w1.heap.size + 1) (some ⟨w1.heap.size, 0, none⟩) n n (b :: ys) := hrd2.mod hm3 id (fun _ _ _ => id)
  have hib3 : Bx w3 w2.heap.size 140 (.pointer (some ⟨w1.heap.size + 1, 0, none⟩)) := by rw [← hw3]; exact Bx.new w2 _ _
  have hs3 : w3.heap.size = w2.heap.size + 1 := by rw [← hw3, World.size_alloc]
  have hm13 := hm2.trans hm3 (fun _ _ h => h)
  have Hold3 := Lib.hid (Hm1.out.trans hm13 (fun _ _ h => h))
  have H13 := Lib.hid hm13
  have HZ1 := Lib.hid Hz1.out
  have HM1 := Lib.hid Hm1.out
  have Hz3 := Lib.hid (Hz1.out.keep hm13)
  have Hrd3 := Lib.hid hrd3
  have Hib3 := Lib.hid hib3
  have Hsz : Hid (w1.heap.size = w.heap.size + 1 ∧ w2.heap.size = w.heap.size + 3 ∧ w3.heap.size = w.heap.size + 4) := by have := Hs1.out; exact ⟨this, by omega, by omega⟩
  have ci := hib3.cell
  clear hrd2 hs2 hm2 hm3 hib3 hs3 hm13 Hnr Hm1 Hz1 Hs1 hw1 hrd3
  have Hg := Lib.hid (get1_some Hrd3.out (by unfold maxLen; omega))
  go_wp2_with fail
  clear hw3
  refine Hg.out.mono ?_
  rintro e w4 ⟨rfl, A4, hrd4, hA4, hm4, hs4⟩
  clear Hg ci
  obtain ⟨w5, hw5⟩ : ∃ w5, (w4.alloc (.cells #[.int .i64 0] 25)).alloc (.cells #[.int .i64 b.toNat, .int .i64 0, .int .i64 0, .int .i64 0, .int .i64 0, .int .i64 0, .int .i64 0, .int .i64 0, .int .i64 0, .int .i64 0, .bool false, .slice none 0 0, .bool false, .slice none 0 0] 47) = w5 := ⟨_, rfl⟩
  have hm5 : Mod (fun _ => False) w4 w5 := by rw [← hw5]; exact ((Mod.refl _ w4).alloc _).alloc _
  have hr5 : (⟨b.toNat, fun _ => 0, VlD.none, VlD.none⟩ : RcD).In w5 (w4.heap.size + 1) := by
    rw [← hw5]
    have := RcD.In.new (w4.alloc (.cells #[.int .i64 0] 25)) ⟨b.toNat, fun _ => 0, VlD.none, VlD.none⟩
    rw [World.size_alloc] at this
    exact this
  have he5 : Bx w5 w4.heap.size 25 (.int .i64 0) := by rw [← hw5]; exact (Bx.new w4 _ _).keep ((Mod.refl _ _).alloc _)
  have hsz := Hsz.out
  have hz5 := (Hz3.out.mod hm4 (by omega)).keep hm5
  have hi5 := (Hib3.out.mod hm4 (by omega)).keep hm5
  have hold4 : Mod (fun _ => False) w w4 := Hold3.out.trans hm4 (fun k hk e => by omega)
  have hold5 := hold4.trans hm5 (fun _ _ h => h)
  have H15 : Hid (Mod (fun _ => False) w1 w5) := (H13.out.trans hm4 (fun k hk e => by omega)).trans hm5 (fun _ _ h => h)
  have hrd5 : Rd w5 (w1.heap.size + 1) A4 (n - 1) (n - 1) ys := hrd4.mod hm5 id (fun _ _ _ => id)
  have Hw5 := Lib.hid hw5
  have hsz5 : w5.heap.size = w4.heap.size + 2 := by rw [← hw5, World.size_alloc, World.size_alloc]
  have hs4' : w4.heap.size = w.heap.size + 4 := by omega
  have Hz5 := Lib.hid hz5
  have Hold5 := Lib.hid hold5
  have He5 := Lib.hid he5
  have Hr5 := Lib.hid hr5
  have Hi5 := Lib.hid hi5
  have Hrd5 := Lib.hid hrd5
  have HA4 : Hid (blkOf A4 = some w1.heap.size) := hA4
  have Hsz5 : Hid (w1.heap.size = w.heap.size + 1 ∧ w2.heap.size = w.heap.size + 3 ∧ w4.heap.size = w.heap.size + 4 ∧ w5.heap.size = w.heap.size + 6) := ⟨by omega, by omega, by omega, by omega⟩
  clear hm5 hr5 he5 hi5 hold4 hold5 hrd5 hw5 hrd4 hA4 hm4 hs4 hsz hsz5 hs4' Hrd3 Hib3 Hz3 Hold3 Hsz
  have hsz := Hsz5.out
  obtain ⟨L, hL1, hL2, hL3, hL4, hL5, hL6⟩ : ∃ L : DL, L.base = w1.heap.size ∧ L.rb = w1.heap.size ∧ L.rg = w1.heap.size + 1 ∧ L.ib = w2.heap.size ∧ L.eb = w4.heap.size ∧ L.g = w4.heap.size + 1 :=
    ⟨⟨w1.heap.size, w1.heap.size + 1, w2.heap.size, w4.heap.size, w4.heap.size + 1, w1.heap.size, by omega, by omega, by omega, by omega, by omega⟩, rfl, rfl, rfl, rfl, rfl, rfl⟩
  have hgood := fields_good hfl
  have h0 : DS L w1 ((fl.take 0).foldl decStep (.got ⟨b.toNat, fun _ => 0, Vl.none, Vl.none⟩ ys)) w5 := by
    refine ⟨by rw [hL4, hL3]; exact Hi5.out, by rw [hL5]; exact He5.out, ⟨_, by rw [hL6]; exact Hr5.out, VlD.none_own _ _, VlD.none_own _ _, ?_⟩, ?_, ?_, H15.out, hL1, by rw [hL2]; have := H15.out.size; omega⟩
    · intro r xs e
      injection e with e1 e2
    · intro r xs e
      injection e with e1 e2
      subst e2
      exact ⟨A4, _, _, by rw [hL3]; exact Hrd5.out, by unfold maxLen; omega, by rw [hL2]; exact HA4.out⟩
    · intro e he
      cases he
  have hs : Steps L.g 100 101 #[.pointer (some ⟨L.eb, 0, none⟩), .pointer (some ⟨L.ib, 0, none⟩)] #[.pointer (some ⟨L.eb, 0, none⟩), .pointer (some ⟨L.ib, 0, none⟩)]
      (fun j W => DS L w1 ((fl.take j).foldl decStep (.got ⟨b.toNat, fun _ => 0, Vl.none, Vl.none⟩ ys)) W) fl := by
    have suc : ∀ (j : Nat) (f : Fld), fl[j]? = some f → (fl.take (j + 1)).foldl decStep (.got ⟨b.toNat, fun _ => 0, Vl.none, Vl.none⟩ ys) = decStep ((fl.take j).foldl decStep (.got ⟨b.toNat, fun _ => 0, Vl.none, Vl.none⟩ ys)) f := by
      intro j f hf
      obtain ⟨hj, e⟩ := List.getElem?_eq_some_iff.1 hf
      rw [List.take_succ_eq_append_getElem hj, List.foldl_append, e]
      rfl
    refine ⟨enters_of Tryz.func100 (by kernel_rfl) rfl, enters_of Tryz.func101 (by kernel_rfl) rfl, ?_, ?_, ?_⟩
    · rintro j i wd W hf hS
      obtain ⟨g1, g2, g3⟩ : 1 ≤ i ∧ i ≤ 9 ∧ (wd = 1 ∨ wd = 2 ∨ wd = 4) := hgood _ (List.mem_of_getElem? hf)
      rw [suc j _ hf]
      exact dec1_ok L w1 W _ hS i wd g1 g2 g3
    · rintro j W hf hS
      rw [suc j _ hf]
      exact dec2_o L w1 W _ hS
    · rintro j W hf hS
      rw [suc j _ hf]
      exact dec2_v L w1 W _ hS
  have hf := fields_ok w5 L.g 100 101 _ _ b.toNat (by rw [hL6]; exact Hr5.out.kind) _ fl hfl h0 hs
  rw [List.take_length, hL4, hL5, hL6] at hf
  have Hf := Lib.hid hf
  have HL : Hid (L.rg = w1.heap.size + 1 ∧ L.ib = w2.heap.size ∧ L.eb = w4.heap.size ∧ L.g = w4.heap.size + 1) := ⟨hL3, hL4, hL5, hL6⟩
  have Hfl := Lib.hid hfl
  clear hf hs h0 hgood hfl hL1 hL2 hL3 hL4 hL5 hL6 hz5 Hz5 Hold5 Hi5 He5 Hr5 Hrd5 H15 HA4 hsz
  go_wp2_with fail
  rw [Hw5.out]
  clear Hw5
  refine Hf.out.mono ?_
  rintro e w6 ⟨rfl, hds⟩
  clear Hf
  have hz6 := HZ1.out.keep hds.old
  have hold6 := HM1.out.trans hds.old (fun _ _ h => h)
  have heb := hds.ebox
  rw [HL.out.2.2.1] at heb
  have hne : w.heap.size < w4.heap.size := by have := Hsz5.out; omega
  rw [hs] at hds heb
  obtain ⟨A6, n6, c6, hrd6, hc6, _⟩ := hds.rd r _ rfl
  obtain ⟨y, hy, hyo, hyv, hyp⟩ := hds.rcd
  have hyp := hyp r _ rfl
  rw [HL.out.2.2.2] at hy
  rw [HL.out.1] at hrd6
  have hib := hds.ibox
  rw [HL.out.2.1, HL.out.1] at hib
  have ci := hib.cell
  have ce := heb.cell
  have fe := heb.fz
  dsimp only [Rdn.err] at ce
  have hl6 := hrd6.2.1.len
  have Hlf := Lib.hid (left_ok w6 (w1.heap.size + 1) A6 n6 c6 _ hrd6)
  have Hd : Hid (decode (b :: ys) = (7, Rc.zero)) := by show _ = _; simp only [decode, Hfl.out, hs]
  have hpos : 0 < n6 := by rw [← hl6]; simp
  have hn0 : (0 : Int) < (n6 : Int) := by omega
  obtain ⟨w7, hw7⟩ : ∃ w7, w6.setCell ⟨w4.heap.size, 0, none⟩ (.int .i64 7) = w7 := ⟨_, rfl⟩
  have hm7 : Mod (fun k => k = w4.heap.size) w6 w7 := by rw [← hw7]; exact (Mod.refl (fun k => k = w4.heap.size) w6).setCell (p := ⟨w4.heap.size, 0, none⟩) (fun _ => rfl) _
  have he7 : Bx w7 w4.heap.size 25 (.int .i64 7) := by rw [← hw7]; exact heb.set _
  have hz7 := hz6.mod hm7 (by omega)
  have ce7 := he7.cell
  have HzT := Lib.hid hz7
  have HoldT := Lib.hid (hold6.trans hm7 (fun k hk e => by omega))
  have p0 := hz7.kind
  have p1 := hz7.num (i := 1) (by omega) (by omega)
  have p2 := hz7.num (i := 2) (by omega) (by omega)
  have p3 := hz7.num (i := 3) (by omega) (by omega)
  have p4 := hz7.num (i := 4) (by omega) (by omega)
  have p5 := hz7.num (i := 5) (by omega) (by omega)
  have p6 := hz7.num (i := 6) (by omega) (by omega)
  have p7 := hz7.num (i := 7) (by omega) (by omega)
  have p8 := hz7.num (i := 8) (by omega) (by omega)
  have p9 := hz7.num (i := 9) (by omega) (by omega)
  have p10 := hz7.c10
  have p11 := hz7.c11
  have p12 := hz7.c12
  have p13 := hz7.c13
  have q0 := hz7.fz 0
  have q1 := hz7.fz 1
  have q2 := hz7.fz 2
  have q3 := hz7.fz 3
  have q4 := hz7.fz 4
  have q5 := hz7.fz 5
  have q6 := hz7.fz 6
  have q7 := hz7.fz 7
  have q8 := hz7.fz 8
  have q9 := hz7.fz 9
  have q10 := hz7.fz 10
  have q11 := hz7.fz 11
  have q12 := hz7.fz 12
  have q13 := hz7.fz 13
  clear hds heb hib hrd6 hy hyo hyv hyp hz6 hold6 hs hc6 hl6 hm7 he7 hz7 hpos
  go_wp2_with fail
  refine Hlf.out.mono ?_
  rintro e w6' ⟨rfl, rfl⟩
  clear Hlf
  go_wp2
  go_region
  change Exit.then _ _ _ _ (stRec w7 w.heap.size RcD.zero).drew
  obtain ⟨w8, hw8⟩ : ∃ w8, (stRec w7 w.heap.size RcD.zero).drew = w8 := ⟨_, rfl⟩
  have h7 : RcD.zero.In w8 w.heap.size := by rw [← hw8]; exact (stRec_in HzT.out RcD.zero).keep (Mod.refl _ _).drew
  have H7 : Hid (Mod (fun _ => False) w w8) := by rw [← hw8]; exact (HoldT.out.trans (stRec_mod w7 w.heap.size RcD.zero) (fun k hk e => by omega)).drew
  rw [hw8]
  have r0 := h7.kind
  have r1 := h7.num (i := 1) (by omega) (by omega)
  have r2 := h7.num (i := 2) (by omega) (by omega)
  have r3 := h7.num (i := 3) (by omega) (by omega)
  have r4 := h7.num (i := 4) (by omega) (by omega)
  have r5 := h7.num (i := 5) (by omega) (by omega)
  have r6 := h7.num (i := 6) (by omega) (by omega)
  have r7 := h7.num (i := 7) (by omega) (by omega)
  have r8 := h7.num (i := 8) (by omega) (by omega)
  have r9 := h7.num (i := 9) (by omega) (by omega)
  have r10 := h7.c10
  have r11 := h7.c11
  have r12 := h7.c12
  have r13 := h7.c13
  clear hw8 h7 p0 p1 p2 p3 p4 p5 p6 p7 p8 p9 p10 p11 p12 p13 q0 q1 q2 q3 q4 q5 q6 q7 q8 q9 q10 q11 q12 q13
  go_wp2
  refine bodyPost_ret (v := .tuple #[.agg RcD.zero.cells, .int .i64 7]) (by simp [results, Tryz.results91, go_sem, r0, r1, r2, r3, r4, r5, r6, r7, r8, r9, r10, r11, r12, r13]) rfl ?_
  exact ⟨⟨RcD.zero, by rw [Hd.out], by rw [Hd.out]; rfl, VlD.none_own _ _, VlD.none_own _ _⟩, H7.out⟩

end Go.Proofs.YtnbamljaiahmdaaGreat
