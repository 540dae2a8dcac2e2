/-
  The document's answer for layer 5: without, with, Put, Stamped.
-/
import Derived.Test.YtgeodpflaebbgaaRefs6
namespace Go.Proofs.Ytgeodpflaebbgaa
open Go Go.RowKit

theorem filter_step {p : Pr → Bool} {L : List Pr} {j : Nat} {z : Pr} (h : L[j]? = some z) : (L.take (j + 1)).filter p = (L.take j).filter p ++ (if p z then [z] else []) := by
  obtain ⟨hj, e⟩ := List.getElem?_eq_some_iff.1 h
  rw [List.take_succ_eq_append_getElem hj, e, List.filter_append]
  cases hp : p z <;> simp [hp]

/-- A row that is being laid: entries of our own. -/
structure Row (w : World) (A : Option Addr) (c : Nat) (O : List Pr) (W : World) : Prop where
  own : OwN W w.heap.size 49 2 A O.length c (prs O)
  old : Mod (fun _ => False) w W
theorem Row.keep {w : World} {A : Option Addr} {c : Nat} {O : List Pr} {W W' : World} (h : Row w A c O W) (hm : Mod (fun _ => False) W W') : Row w A c O W' := ⟨h.own.mod hm (fun _ _ => id), h.old.trans hm (fun _ _ h => h)⟩
theorem Row.from {w w0 : World} {A : Option Addr} {c : Nat} {O : List Pr} {W : World} (h : Row w0 A c O W) (hm : Mod (fun _ => False) w w0) : Row w A c O W := by
  refine ⟨⟨h.own.1, ?_⟩, hm.trans h.old (fun _ _ h => h)⟩
  rcases h.own.2 with hn | ⟨g, cap, cur, hv, hb, hgg, rest⟩
  · exact .inl hn
  · exact .inr ⟨g, cap, cur, hv, by have := hm.size; omega, hgg, rest⟩
theorem Row.nil (w : World) : Row w none 0 [] w := ⟨OwN.nil _ _ _ _, Mod.refl _ _⟩
/-- One more entry. -/
theorem Row.add {w W W1 : World} {A A' : Option Addr} {c c' : Nat} {O : List Pr} {z : Pr} (h : Row w A c O W)
    (hown : OwN W1 w.heap.size 49 2 A' (O.length + 1) c' (prs O ++ [.int .i64 z.1, .slice z.2.a z.2.n z.2.c])) (hg : (W.alloc (.cells #[.int .i64 z.1, .slice z.2.a z.2.n z.2.c] 49)).grownBy W1 (blkOf A)) : Row w A' c' (O ++ [z]) W1 := by
  refine ⟨?_, (h.old.alloc _).grown hg (fun k e hk => ?_)⟩
  · rw [prs_append, List.length_append, List.length_singleton]
    exact hown
  · have := (h.own.lt k e).1
    omega

set_option maxRecDepth 100000 in
set_option maxHeartbeats 2000000 in
theorem without_ok (w : World) (A : Option Addr) (n c : Nat) (L : List Pr) (hpl : Pl w A n c L) (hLs : Srt L) (hn : n ≤ 1000) (k : Int) :
    Calls Try.prog 30 #[.slice A n c, .int .i64 k] w fun e w' => ∃ A' c', e = .returned (.slice A' (mDel k L).length c') ∧ Row w A' c' (mDel k L) w' := by
  have hl := hpl.len
  have Hpl := Lib.hid hpl
  have Hf : Hid (L.filter (fun x => decide (x.1 ≠ k)) = mDel k L) := mDel_filter hLs
  clear hpl hLs
  go_enter Try.func30, Try.ntmps30
  go_wp2
  go_loopw [5, 6] (fun o i wr => ∃ (j : Nat) (A5 : Option Addr) (c5 : Nat), j ≤ n ∧ i = .int .i64 j ∧ o = .slice A5 ((L.take j).filter (fun x => decide (x.1 ≠ k))).length c5 ∧ Row w A5 c5 ((L.take j).filter (fun x => decide (x.1 ≠ k))) wr) (fun _ i _ => n - (intOf i).toNat)
  case atStart => exact ⟨0, none, 0, by omega, rfl, rfl, Row.nil w⟩
  case round =>
    obtain ⟨j, A5, c5, hj, rfl, rfl, hR⟩ := hrel
    have HR := Lib.hid hR
    by_cases hlt : j < n
    · obtain ⟨z, hz⟩ : ∃ z, L[j]? = some z := ⟨_, List.getElem?_eq_getElem (by omega)⟩
      obtain ⟨b, o, rfl, hcs⟩ := (Hpl.out.keep hR.old).2.2 (by omega)
      obtain ⟨c0, c1⟩ := hcs j z hz
      have Hst := Lib.hid (filter_step (p := fun x => decide (x.1 ≠ k)) hz)
      have hlen : ((L.take j).filter (fun x => decide (x.1 ≠ k))).length ≤ 1000 := by
        have h1 := List.length_filter_le (fun x : Pr => decide (x.1 ≠ k)) (L.take j)
        have h2 : (L.take j).length ≤ j := List.length_take_le _ _
        omega
      clear hcs hz hR
      generalize (L.take j).filter (fun x => decide (x.1 ≠ k)) = O at *
      by_cases hk : z.1 = k
      · have hkb : (z.1 != k) = false := by simpa using hk
        have Hn : Hid ((L.take (j + 1)).filter (fun x => decide (x.1 ≠ k)) = O) := by show _ = _; rw [Hst.out]; simp [hk]
        clear hk
        go_wp2
        go_roundw
        case rel => exact ⟨j + 1, A5, c5, by omega, by go_num, by rw [Hn.out], by rw [Hn.out]; exact HR.out⟩
        case measure => simp [intOf]; omega
      · have hkb : (z.1 != k) = true := by simpa using hk
        have Hn : Hid ((L.take (j + 1)).filter (fun x => decide (x.1 ≠ k)) = O ++ [z]) := by show _ = _; rw [Hst.out]; simp [hk]
        clear hk
        have H2a := Lib.hid (HR.out.own.alloc (.cells #[.int .i64 z.1, .slice z.2.a z.2.n z.2.c] 49))
        have Hsrc : Hid (SrcN (wr.alloc (.cells #[.int .i64 z.1, .slice z.2.a z.2.n z.2.c] 49)) (some ⟨wr.heap.size, 0, none⟩) 1 2 [.int .i64 z.1, .slice z.2.a z.2.n z.2.c]) := SrcN.lit wr [.int .i64 z.1, .slice z.2.a z.2.n z.2.c] 49 (by simp [Value.oneCell'])
        have Hlow := Lib.hid HR.out.old.size
        go_wp2_with (at_builtin; refine wpList_appN (.tmp 20) (.tmp 25) kvElem rfl rfl rfl rfl H2a.out Hsrc.out (by omega) (by unfold maxLen; omega) (by rw [World.size_alloc]; have := Hlow.out; omega) ?_; intro A6 c6 w6 h1 h2 h3; have Hadd := Lib.hid (HR.out.add h1 h2); clear h1 h2 h3)
        go_roundw
        case rel => exact ⟨j + 1, A6, c6, by omega, by go_num, by rw [Hn.out, List.length_append, List.length_singleton], by rw [Hn.out]; exact Hadd.out⟩
        case measure => simp [intOf]; omega
    · obtain rfl : j = n := by omega
      rw [List.take_of_length_le (by omega), Hf.out] at hR ⊢
      have Hout := Lib.hid hR
      clear hR HR
      go_wp2
      go_ret
      exact ⟨A5, c5, rfl, Hout.out⟩

theorem mSet_del {α : Type} {k : Int} {v : α} {l : List (Int × α)} (hs : Srt l) : mSet k v (mDel k l) = mSet k v l := by
  induction l with
  | nil => rfl
  | cons y l ih =>
    obtain ⟨h1, h2⟩ := List.pairwise_cons.1 hs
    simp only [mDel, mSet]
    by_cases e1 : y.1 < k
    · rw [if_pos e1, if_pos e1]
      simp only [mSet]
      rw [if_pos e1, ih h2]
    · rw [if_neg e1, if_neg e1]
      by_cases e2 : y.1 = k
      · rw [if_pos e2, if_pos e2]
        cases l with
        | nil => rfl
        | cons z l =>
          have := h1 z (List.mem_cons_self ..)
          simp only [mSet]
          rw [if_neg (by omega), if_neg (by omega)]
      · rw [if_neg e2, if_neg e2]
        simp only [mSet]
        rw [if_neg e1, if_neg e2]
theorem mDel_nokey {α : Type} {k : Int} {l : List (Int × α)} (hs : Srt l) : ∀ r ∈ mDel k l, r.1 ≠ k := by
  rw [← mDel_filter hs]
  intro r hr
  have := (List.mem_filter.1 hr).2
  simpa using this

set_option maxRecDepth 100000 in
set_option maxHeartbeats 4000000 in
theorem with_ok (w : World) (A : Option Addr) (n c : Nat) (L : List Pr) (hpl : Pl w A n c L) (hLs : Srt L) (hn : n ≤ 1000) (k : Int) (hno : ∀ z ∈ L, z.1 ≠ k) (B : Option Addr) (m d : Nat) :
    Calls Try.prog 31 #[.slice A n c, .agg #[.int .i64 k, .slice B m d]] w fun e w' => ∃ A' c', e = .returned (.slice A' (mSet k (⟨B, m, d⟩ : Sv) L).length c') ∧ Row w A' c' (mSet k (⟨B, m, d⟩ : Sv) L) w' := by
  have ha : Mod (fun _ => False) w (w.alloc (.cells #[.int .i64 k, .slice B m d] 49)) := (Mod.refl _ w).alloc _
  obtain ⟨w0, hw0⟩ : ∃ w0, w0 = w.alloc (.cells #[.int .i64 k, .slice B m d] 49) := ⟨_, rfl⟩
  rw [← hw0] at ha
  have hbx : w0.heap[w.heap.size]? = some (.cells #[.int .i64 k, .slice B m d] 49 (0, 0)) := by rw [hw0]; exact heap_alloc_new w _
  have Hbox : Hid (∀ W, Mod (fun _ => False) w0 W → W.cell? ⟨w.heap.size, 0, none⟩ = some (.int .i64 k) ∧ W.cell? ⟨w.heap.size, 1, none⟩ = some (.slice B m d)) := fun W hm => by
    have hb := (hm.block _ (Array.getElem?_eq_some_iff.1 hbx).1 id).trans hbx
    exact ⟨by rw [cell_of_row _ _ _ _ _ _ hb]; rfl, by rw [cell_of_row _ _ _ _ _ _ hb]; rfl⟩
  have hl := hpl.len
  have Hpl := Lib.hid (hpl.keep ha)
  have Hgo : Hid (setGo k (⟨B, m, d⟩ : Sv) false L = mSet k ⟨B, m, d⟩ L) := setGo_mSet hLs
  have Hno := Lib.hid hno
  have Ha := Lib.hid ha
  clear hpl hLs ha hbx hno
  go_enter Try.func31, Try.ntmps31
  go_wp2_with fail
  rw [← hw0]
  clear hw0
  go_loopw [5, 6, 7] (fun o dv i wr => ∃ (j : Nat) (A5 : Option Addr) (c5 : Nat) (O : List Pr) (dn : Bool), j ≤ n ∧ i = .int .i64 j ∧ o = .slice A5 O.length c5 ∧ dv = .bool dn ∧ Row w0 A5 c5 O wr ∧ O ++ setGo k ⟨B, m, d⟩ dn (L.drop j) = mSet k ⟨B, m, d⟩ L ∧ O.length ≤ j + dn.toNat) (fun _ _ i _ => n - (intOf i).toNat)
  case atStart => exact ⟨0, none, 0, [], false, by omega, rfl, rfl, rfl, Row.nil w0, Hgo.out, by simp⟩
  case round =>
    obtain ⟨j, A5, c5, O, dn, hj, rfl, rfl, rfl, hR, hO, hOl⟩ := hrel
    have HR := Lib.hid hR
    have HO := Lib.hid hO
    have hdn : dn.toNat ≤ 1 := Bool.toNat_le dn
    by_cases hlt : j < n
    · obtain ⟨z, hz⟩ : ∃ z, L[j]? = some z := ⟨_, List.getElem?_eq_getElem (by omega)⟩
      have Hpl' : Hid (∀ W, Mod (fun _ => False) w0 W → ∃ b o, A = some ⟨b, o, none⟩ ∧ W.cell? ⟨b, o + j * 2, none⟩ = some (.int .i64 z.1) ∧ W.cell? ⟨b, o + j * 2 + 1, none⟩ = some (.slice z.2.a z.2.n z.2.c)) := fun W hm => by
        obtain ⟨b, o, e, hcs⟩ := (Hpl.out.keep hm).2.2 (by omega)
        exact ⟨b, o, e, hcs j z hz⟩
      have hdrop : L.drop j = z :: L.drop (j + 1) := by
        obtain ⟨hj', e⟩ := List.getElem?_eq_some_iff.1 hz
        rw [List.drop_eq_getElem_cons hj', e]
      have hzk : z.1 ≠ k := Hno.out z (List.mem_of_getElem? hz)
      obtain ⟨b, o, rfl, c0, c1⟩ := Hpl'.out wr hR.old
      obtain ⟨x0, x1⟩ := Hbox.out wr hR.old
      have hstep : ∀ (dn' : Bool) (O' : List Pr), dn' = (dn || decide (k < z.1)) → O' = O ++ ((if dn = false ∧ k < z.1 then [(k, (⟨B, m, d⟩ : Sv))] else []) ++ [z]) → O' ++ setGo k ⟨B, m, d⟩ dn' (L.drop (j + 1)) = mSet k ⟨B, m, d⟩ L := by
        intro dn' O' e1 e2
        rw [← HO.out, hdrop, e1, e2]
        simp only [setGo]
        rw [if_neg hzk]
        simp
      have Hstep := Lib.hid hstep
      clear hz hdrop hzk hstep hO hR
      have appZ : ∀ (W : World) (A' : Option Addr) (c' : Nat) (O' : List Pr) (y : Pr), Row w0 A' c' O' W → OwN (W.alloc (.cells #[.int .i64 y.1, .slice y.2.a y.2.n y.2.c] 49)) w0.heap.size 49 2 A' O'.length c' (prs O') ∧ SrcN (W.alloc (.cells #[.int .i64 y.1, .slice y.2.a y.2.n y.2.c] 49)) (some ⟨W.heap.size, 0, none⟩) 1 2 [.int .i64 y.1, .slice y.2.a y.2.n y.2.c] ∧ w0.heap.size ≤ (W.alloc (.cells #[.int .i64 y.1, .slice y.2.a y.2.n y.2.c] 49)).heap.size := fun W A' c' O' y hr =>
        ⟨hr.own.alloc _, SrcN.lit W [.int .i64 y.1, .slice y.2.a y.2.n y.2.c] 49 (by simp [Value.oneCell']), by rw [World.size_alloc]; have := hr.old.size; omega⟩
      have Happ := Lib.hid appZ
      clear appZ
      cases dn with
      | true =>
        go_wp2
        go_quiet (fail)
        have HR2 := Lib.hid (HR.out.keep ((Mod.refl (fun _ => False) wr).drewN nq))
        obtain ⟨_, _, e', c0', c1'⟩ := Hpl'.out _ HR2.out.old
        injection e' with e'
        injection e' with e1 e2
        subst e1 e2
        clear c0 c1 x0 x1
        generalize wr.drewN nq = wq at *
        have HZ := Lib.hid (Happ.out wq A5 c5 O z HR2.out)
        go_wp2_with (at_builtin; refine wpList_appN (.tmp 30) (.tmp 35) kvElem rfl rfl rfl rfl HZ.out.1 HZ.out.2.1 (by omega) (by unfold maxLen; omega) HZ.out.2.2 ?_; intro A6 c6 w6 h1 h2 h3; have Hadd := Lib.hid (HR2.out.add h1 h2); clear h1 h2 h3)
        go_roundw
        case rel => exact ⟨j + 1, A6, c6, O ++ [z], true, by omega, by go_num, by rw [List.length_append, List.length_singleton], rfl, Hadd.out, Hstep.out true _ (by simp) (by simp), by rw [List.length_append, List.length_singleton]; simp only [Bool.toNat_true] at hOl ⊢; omega⟩
        case measure => simp [intOf]; omega
      | false =>
        by_cases hk : k < z.1
        · have hkb : decide (k < z.1) = true := by simpa using hk
          go_wp2
          go_quiet (fail)
          have HR2 := Lib.hid (HR.out.keep ((Mod.refl (fun _ => False) wr).drewN nq))
          obtain ⟨_, _, e', c0', c1'⟩ := Hpl'.out _ HR2.out.old
          injection e' with e'
          injection e' with e1 e2
          subst e1 e2
          obtain ⟨x0', x1'⟩ := Hbox.out _ HR2.out.old
          clear c0 c1 x0 x1
          generalize wr.drewN nq = wq at *
          have HZ := Lib.hid (Happ.out wq A5 c5 O (k, ⟨B, m, d⟩) HR2.out)
          go_wp2_with (first
            | (at_builtin; refine wpList_appN (.tmp 26) (.tmp 28) kvElem rfl rfl rfl rfl HZ.out.1 HZ.out.2.1 (by omega) (by unfold maxLen; omega) HZ.out.2.2 ?_
               intro A6 c6 w6 h1 h2 h3
               have Hadd := Lib.hid (HR2.out.add (z := (k, ⟨B, m, d⟩)) h1 h2)
               obtain ⟨_, _, e6, d0, d1⟩ := Hpl'.out w6 Hadd.out.old
               injection e6 with e6
               injection e6 with e61 e62
               subst e61 e62
               have hz6 := Happ.out w6 A6 c6 (O ++ [(k, ⟨B, m, d⟩)]) z Hadd.out
               rw [List.length_append, List.length_singleton] at hz6
               have HZ6 := Lib.hid hz6
               clear h1 h2 h3 c0' c1' x0' x1' hz6)
            | (at_builtin; refine wpList_appN (.tmp 30) (.tmp 35) kvElem rfl rfl rfl rfl HZ6.out.1 HZ6.out.2.1 (by omega) (by unfold maxLen; omega) HZ6.out.2.2 ?_
               intro A7 c7 w7 h1 h2 h3
               have hadd7 := Hadd.out.add (z := z) (A' := A7) (c' := c7) (W1 := w7) (by rw [List.length_append, List.length_singleton]; exact h1) h2
               have Hadd7 := Lib.hid hadd7
               clear h1 h2 h3 hadd7))
          go_roundw
          case rel => exact ⟨j + 1, A7, c7, O ++ [(k, ⟨B, m, d⟩)] ++ [z], true, by omega, by go_num, by rw [List.length_append, List.length_append, List.length_singleton, List.length_singleton], rfl, Hadd7.out, Hstep.out true _ (by simp [hk]) (by simp [hk]), by rw [List.length_append, List.length_append, List.length_singleton, List.length_singleton]; simp only [Bool.toNat_true, Bool.toNat_false] at hOl ⊢; omega⟩
          case measure => simp [intOf]; omega
        · have hkb : decide (k < z.1) = false := by simpa using hk
          go_wp2
          go_quiet (fail)
          have HR2 := Lib.hid (HR.out.keep ((Mod.refl (fun _ => False) wr).drewN nq))
          obtain ⟨_, _, e', c0', c1'⟩ := Hpl'.out _ HR2.out.old
          injection e' with e'
          injection e' with e1 e2
          subst e1 e2
          clear c0 c1 x0 x1
          generalize wr.drewN nq = wq at *
          have HZ := Lib.hid (Happ.out wq A5 c5 O z HR2.out)
          go_wp2_with (at_builtin; refine wpList_appN (.tmp 30) (.tmp 35) kvElem rfl rfl rfl rfl HZ.out.1 HZ.out.2.1 (by omega) (by unfold maxLen; omega) HZ.out.2.2 ?_; intro A6 c6 w6 h1 h2 h3; have Hadd := Lib.hid (HR2.out.add h1 h2); clear h1 h2 h3)
          go_roundw
          case rel => exact ⟨j + 1, A6, c6, O ++ [z], false, by omega, by go_num, by rw [List.length_append, List.length_singleton], rfl, Hadd.out, Hstep.out false _ (by simp [hk]) (by simp [hk]), by rw [List.length_append, List.length_singleton]; simp only [Bool.toNat_false] at hOl ⊢; omega⟩
          case measure => simp [intOf]; omega
    · obtain rfl : j = n := by omega
      rw [List.drop_of_length_le (by omega)] at hO
      simp only [setGo] at hO
      obtain ⟨x0, x1⟩ := Hbox.out wr hR.old
      cases dn with
      | true =>
        simp only [if_true, List.append_nil] at hO
        rw [hO] at hR ⊢
        have Hout := Lib.hid (hR.from Ha.out)
        clear hR HR HO x0 x1 hO hOl
        go_wp2
        go_ret
        exact ⟨A5, c5, rfl, Hout.out⟩
      | false =>
        simp only [Bool.false_eq_true, if_false] at hO
        have hown1 := hR.own.alloc (.cells #[.int .i64 k, .slice B m d] 49)
        have hsrc1 : SrcN (wr.alloc (.cells #[.int .i64 k, .slice B m d] 49)) (some ⟨wr.heap.size, 0, none⟩) 1 2 [.int .i64 k, .slice B m d] := SrcN.lit wr [.int .i64 k, .slice B m d] 49 (by simp [Value.oneCell'])
        have hb1 : w0.heap.size ≤ (wr.alloc (.cells #[.int .i64 k, .slice B m d] 49)).heap.size := by rw [World.size_alloc]; have := hR.old.size; omega
        have Hown1 := Lib.hid hown1
        have Hsrc1 := Lib.hid hsrc1
        have Hb1 := Lib.hid hb1
        have HO2 : Hid (mSet k (⟨B, m, d⟩ : Sv) L = O ++ [(k, ⟨B, m, d⟩)]) := hO.symm
        clear hown1 hsrc1 hb1 hR hO HO
        go_wp2_with (at_builtin; refine wpList_appN (.tmp 39) (.tmp 41) kvElem rfl rfl rfl rfl Hown1.out Hsrc1.out (by omega) (by unfold maxLen; omega) Hb1.out ?_; intro A6 c6 w6 h1 h2 h3; have Hadd := Lib.hid (HR.out.add (z := (k, ⟨B, m, d⟩)) h1 h2); clear h1 h2 h3)
        go_ret
        rw [HO2.out, List.length_append, List.length_singleton]
        exact ⟨A6, c6, rfl, Hadd.out.from Ha.out⟩
end Go.Proofs.Ytgeodpflaebbgaa
