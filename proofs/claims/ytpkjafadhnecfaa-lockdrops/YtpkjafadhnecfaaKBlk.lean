/-
  Package lock: Blockers.
-/
import Derived.Test.YtpkjafadhnecfaaKSort
import Derived.Test.YtpkjafadhnecfaaKFind
namespace Go.Proofs.Ytpkjafadhnecfaa
open Go Go.RowKit

/-- What Blockers answers: a row of the call's own. -/
def BkAns (w w' : World) (bs : List Int) (e : Ending) : Prop :=
  ∃ A c, e = .returned (.slice A bs.length c) ∧ OwI w' w.heap.size A bs.length c bs ∧ Mod (fun _ => False) w w'
/-- What lies ahead of a round. -/
structure Blr (w wr : World) (zs : List Int) (A : Option Addr) (n c : Nat) : Prop where
  own : OwI wr w.heap.size A n c zs
  old : Mod (fun _ => False) w wr
def tks (fs : List Tr) (j : Nat) : List Int := (fs.take j).map Tr.a
theorem tks_len {fs : List Tr} {j : Nat} (h : j ≤ fs.length) : (tks fs j).length = j := by simp [tks]; omega
theorem tks_succ {fs : List Tr} {j : Nat} (h : j < fs.length) : tks fs (j + 1) = tks fs j ++ [(atS fs j).a] := by
  unfold tks
  rw [← List.take_append_getElem h, List.map_append, ← atS_at h]; rfl
theorem OwI.lt {w : World} {base : Nat} {A : Option Addr} {n c : Nat} {zs : List Int} (h : OwI w base A n c zs) : ∀ k, blkOf A = some k → base ≤ k ∧ k < w.heap.size := OwV.lt h
theorem Blr.past {w a b : World} {zs zs' : List Int} {A : Option Addr} {c n n' : Nat} (h : Blr w a zs A n c) (h2 : OwI b w.heap.size A n' c zs') (hm : Mod (fun k => blkOf A = some k) a b) : Blr w b zs' A n' c :=
  ⟨h2, ((h.old.mono (G := fun k => w.heap.size ≤ k) (fun _ _ h => h.elim)).trans hm (fun i _ e => (h.own.lt i e).1)).mono (fun k hk e => by omega)⟩

set_option maxRecDepth 100000 in
set_option maxHeartbeats 3200000 in
theorem blockers_ok (w : World) (A0 : Option Addr) (n c0 : Nat) (l : List Tr) (h : Tl w A0 n c0 l) (hn : n ≤ 1000) (tx res mode : Int) :
    Calls Try.prog 12 #[.slice A0 n c0, .int .i64 tx, .int .i64 res, .int .i64 mode] w fun e w' => BkAns w w' (blks l tx res mode) e := by
  obtain ⟨w1, hw1⟩ : ∃ w1, ((w.alloc (.cells #[.int .i64 tx] 3)).alloc (.cells #[.int .i64 res] 3)).alloc (.cells #[.int .i64 mode] 3) = w1 := ⟨_, rfl⟩
  have hm1 : Mod (fun _ => False) w w1 := by rw [← hw1]; exact (((Mod.refl _ w).alloc _).alloc _).alloc _
  have z1 : (w.alloc (.cells #[.int .i64 tx] 3)).heap.size = w.heap.size + 1 := World.size_alloc _ _
  have z2 : ((w.alloc (.cells #[.int .i64 tx] 3)).alloc (.cells #[.int .i64 res] 3)).heap.size = w.heap.size + 1 + 1 := by rw [World.size_alloc, z1]
  have b1 : IB w1 w.heap.size tx := by rw [← hw1]; exact ((IB.new w tx 3).keep ((Mod.refl _ _).alloc _)).keep ((Mod.refl _ _).alloc _)
  have b2 : IB w1 (w.heap.size + 1) res := by
    rw [← hw1]
    have := (IB.new (w.alloc (.cells #[.int .i64 tx] 3)) res 3).keep ((Mod.refl _ _).alloc (.cells #[.int .i64 mode] 3))
    rw [z1] at this
    exact this
  have b3 : IB w1 (w.heap.size + 1 + 1) mode := by
    rw [← hw1]
    have := IB.new ((w.alloc (.cells #[.int .i64 tx] 3)).alloc (.cells #[.int .i64 res] 3)) mode 3
    rw [z2] at this
    exact this
  have HF := Lib.hid (find_Blockers w1 A0 n c0 l (h.keep hm1) hn w.heap.size (w.heap.size + 1) (w.heap.size + 1 + 1) (blF tx res mode) (fun W hW s => block1_ok W s tx res mode _ _ _ (b1.keep hW) (b2.keep hW) (b3.keep hW)))
  have HM1 := Lib.hid hm1
  have Hlen : Hid ((l.filter (blF tx res mode)).length ≤ n) := by
    show _ ≤ _
    have := List.length_filter_le (blF tx res mode) l
    have := h.len
    omega
  have Hv : Hid (blks l tx res mode = Lib.compact (srt (tks (l.filter (blF tx res mode)) (l.filter (blF tx res mode)).length))) := by
    show _ = _
    unfold blks txs tks
    rw [List.take_length]
  obtain ⟨xs, hxs⟩ : ∃ xs, blks l tx res mode = xs := ⟨_, rfl⟩
  rw [hxs]
  have Hxs := Lib.hid (Hv.out.symm.trans hxs)
  clear hm1 b1 b2 b3 z1 z2 h Hv hxs
  generalize l.filter (blF tx res mode) = fs at *
  unfold FdAns at HF
  go_enter Try.func12, Try.ntmps12
  go_wp2_with fail
  refine HF.out.mono ?_
  rintro e w2 ⟨F, cF, rfl, hF, hm2⟩
  have HFl := Lib.hid hF.tl
  have HM2 := Lib.hid (HM1.out.trans hm2 (fun _ _ h => h))
  have HR : Hid (Blr w2 w2 (tks fs 0) none 0 0) := ⟨OwV.nil _ _ _, Mod.refl _ _⟩
  have hL := Hlen.out
  clear hw1 HF HM1 hF hm2
  go_wp2
  go_loopw [9, 16] (fun s i wr => ∃ (j : Nat) (A : Option Addr) (c : Nat), j ≤ fs.length ∧ i = .int .i64 j ∧ s = .slice A j c ∧ Blr w2 wr (tks fs j) A j c) (fun _ i _ => fs.length - (intOf i).toNat)
  case atStart => exact ⟨0, none, 0, Nat.zero_le _, rfl, rfl, HR.out⟩
  case round =>
    obtain ⟨j, A, c, hj, rfl, rfl, hr⟩ := hrel
    clear HR
    have Hr := Lib.hid hr
    clear hr
    by_cases hlt : j < fs.length
    · obtain ⟨b, o, hS, hc⟩ := (HFl.out.keep Hr.out.old).cells (by omega)
      rw [hS]
      obtain ⟨s0, s1, s2⟩ := hc j hlt
      have Hs := Lib.hid (tks_succ hlt)
      generalize hT : atS fs j = s at *
      clear hT hc hS
      have hown : OwI (wr.alloc (.cells #[.int .i64 s.a, .int .i64 s.b, .int .i64 s.c] 37)) w2.heap.size A j c (tks fs j) := Hr.out.own.keep ((Mod.refl _ _).alloc _)
      have Hown := Lib.hid (OwV.alloc hown (.cells #[.int .i64 s.a] 3))
      have hsrc := Src.one (wr.alloc (.cells #[.int .i64 s.a, .int .i64 s.b, .int .i64 s.c] 37)) (.int .i64 s.a) 3 rfl
      rw [World.size_alloc] at hsrc
      have Hsrc := Lib.hid hsrc
      clear hsrc
      have Hbase : Hid (w2.heap.size ≤ ((wr.alloc (.cells #[.int .i64 s.a, .int .i64 s.b, .int .i64 s.c] 37)).alloc (.cells #[.int .i64 s.a] 3)).heap.size) := by
        show _ ≤ _
        rw [World.size_alloc, World.size_alloc]
        have := Hr.out.old.size
        omega
      have Hlt := Lib.hid hown.lt
      clear hown
      go_wp2_with (at_builtin; refine wpList_app (.tmp 20) (.tmp 23) intElem rfl rfl rfl rfl Hown.out Hsrc.out (by omega) (by unfold maxLen; omega) Hbase.out ?_; intro A' c' w3 h1 h2 h3; have H1 := Lib.hid h1; have H2 := Lib.hid h2; clear h1 h2 h3)
      have Hr4 : Hid (Blr w2 w3 (tks fs (j + 1)) A' (j + 1) c') := by
        refine ⟨?_, ?_⟩
        · rw [Hs.out]
          have h1 := H1.out
          show OwV w3 _ _ A' _ c' (ivs _)
          rw [ivs, List.map_append]
          exact h1
        · exact ((Hr.out.old.alloc (.cells #[.int .i64 s.a, .int .i64 s.b, .int .i64 s.c] 37)).alloc (.cells #[.int .i64 s.a] 3)).grown H2.out (fun k e hk => by have := (Hlt.out k e).1; omega)
      clear H1 H2 s0 s1 s2
      go_roundw
      case rel => exact ⟨j + 1, A', c', by omega, by go_num, rfl, Hr4.out⟩
      case measure => simp [intOf]; omega
    · obtain rfl : j = fs.length := by omega
      have Hsort := Lib.hid (sort_ok wr w2.heap.size A fs.length c _ Hr.out.own (by omega))
      have Hx2 := Hxs
      generalize tks fs fs.length = zs at *
      go_wp2_with fail
      refine Hsort.out.mono ?_
      rintro e w4 ⟨rfl, ho4, hm4⟩
      have Hr4 : Hid (Blr w2 w4 (srt zs) A fs.length c) := Hr.out.past ho4 hm4
      have Hcomp := Lib.hid (compact_ok w4 w2.heap.size A fs.length c _ ho4 (by omega))
      clear ho4 hm4 Hsort
      rw [Hx2.out] at Hcomp
      go_wp2_with fail
      refine Hcomp.out.mono ?_
      rintro e w5 ⟨rfl, ho5, hm5⟩
      have Hr5 := Lib.hid (Hr4.out.past ho5 hm5)
      clear ho5 hm5 Hcomp
      go_wp2
      go_ret
      exact ⟨A, c, rfl, OwV.rebase Hr5.out.own (fun k hk => by have := (Hr5.out.own.lt k hk).1; have := HM2.out.size; omega), HM2.out.trans Hr5.out.old (fun _ _ h => h)⟩
end Go.Proofs.Ytpkjafadhnecfaa
