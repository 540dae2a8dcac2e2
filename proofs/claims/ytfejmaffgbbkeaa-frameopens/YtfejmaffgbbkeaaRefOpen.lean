/-
  The contracts of bobbinref02.Open and Part.
-/
import Derived.Test.YtfejmaffgbbkeaaAny2
import Derived.Test.YtfejmaffgbbkeaaRefGet
namespace Go.Proofs.Ytfejmaffgbbkeaa
open Go Go.RowKit

theorem unle_inj : ∀ (xs ys : List UInt8), xs.length = ys.length → unle xs = unle ys → xs = ys
  | [], [], _, _ => rfl
  | [], _ :: _, h, _ => by simp at h
  | _ :: _, [], h, _ => by simp at h
  | x :: xs, y :: ys, h, e => by
    have hx := x.toNat_lt
    have hy := y.toNat_lt
    simp only [unle] at e
    have e1 : x = y := UInt8.toNat_inj.1 (by omega)
    have e2 := unle_inj xs ys (by simpa using h) (by omega)
    rw [e1, e2]

/-- A part of a slice. -/
theorem Sl.sub {w : World} {b o n c : Nat} {xs : List UInt8} (h : Sl w (some ⟨b, o, none⟩) n c xs) (k m : Nat) (hk : k + m ≤ n) : Sl w (some ⟨b, o + k, none⟩) m (c - k) ((xs.drop k).take m) := by
  have hc := h.cap
  refine ⟨by simp [h.len]; omega, by omega, fun hp => ⟨b, o + k, rfl, fun j hj => ?_⟩⟩
  obtain ⟨b', o', e, hcell⟩ := h.2.2 (by omega)
  injection e with e
  injection e with e1 e2
  subst e1; subst e2
  rw [Nat.add_assoc, hcell (k + j) (by omega)]
  simp [hj]

set_option maxRecDepth 100000 in
set_option maxHeartbeats 1600000 in
theorem refOpen_any (w : World) (A : Option Addr) (n c : Nat) (xs : List UInt8) (h : Sl w A n c xs) (hc : c ≤ maxLen) :
    Calls Try.prog 15 #[.slice A n c] w fun e w' => ∃ A' k c', e = .returned (.tuple #[.slice A' k c', .int .i64 (openStamp n xs), .int .i64 (openErr n xs)]) ∧ k ≤ 256 ∧ Gives w w' A' k c' (openBytes n xs) := by
  by_cases h1 : n = 256
  · subst h1
    obtain ⟨b, o, rfl, hb⟩ := h.lt (by omega)
    have hcap := h.cap
    have hcap' : (256 : Int) ≤ c := by omega
    have hc4 : ¬ c = 4 := by omega
    have hc252 : ¬ c = 252 := by omega
    have Hc := Lib.hid hc
    have HL := Lib.hid h.len
    have Hu : ∀ l : List UInt8, l.length = 4 → unle l < 4294967296 := fun l hl => by have := unle_lt l; rw [hl] at this; exact this
    have HA : Hid ((unle (xs.take 4) : Int) = unle ((xs.drop 252).take 4) ↔ xs.take 4 = xs.drop 252) := by
      show _ ↔ _
      rw [drop252 HL.out]
      constructor
      · intro e
        exact unle_inj _ _ (by simp [HL.out]) (by omega)
      · intro e
        rw [e]
    have hga := Lib.hid (refGet_ok4 w _ 256 c xs h hc (by omega))
    have hs2 := Lib.hid (h.sub 252 4 (by omega))
    have hs3 := Lib.hid (h.sub 4 248 (by omega))
    clear hc
    go_enter Try.func15, Try.ntmps15
    go_wp2_with fail
    refine hga.out.mono ?_
    rintro e w1 ⟨A1, q1, rfl, _, rfl⟩
    clear hga
    generalize hua : unle (xs.take 4) = ua at *
    have Hua := Lib.hid hua
    clear hua
    go_wp2_with fail
    have hmx : c - 252 ≤ maxLen := by have := Hc.out; omega
    refine (refGet_ok4 _ _ 4 (c - 252) _ (Sl.drewN hs2.out q1) hmx (by omega)).mono ?_
    rintro e w2 ⟨A2, q2, rfl, _, rfl⟩
    rw [List.take_take, Nat.min_self]
    generalize hub : unle ((xs.drop 252).take 4) = ub at *
    have Hub := Lib.hid hub
    clear hub hs2 hmx
    rw [World.drewN_drewN]
    have hs4 := Lib.hid (Sl.drewN hs3.out (q1 + q2))
    have hM4 := (Mod.refl (fun _ => False) w).drewN (q1 + q2)
    generalize w.drewN (q1 + q2) = w4 at *
    clear hs3
    by_cases heq : xs.take 4 = xs.drop 252
    · have hbb : openB 256 xs = true := by simp [openB, heq]
      have hab : ub = ua := by have := HA.out.2 heq; omega
      subst hab
      have HE : Hid (openStamp 256 xs = (ub : Int) ∧ openErr 256 xs = 0 ∧ openBytes 256 xs = (xs.drop 4).take 248) := by
        refine ⟨?_, ?_, ?_⟩
        · rw [openStamp, hbb, ← Hua.out]; rfl
        · rw [openErr, hbb]; rfl
        · rw [openBytes, hbb]; rfl
      clear hbb heq HA
      have hsrc := hs4.out.src
      have hown0 := OwV.nil w4 w4.heap.size 5
      have hml : 0 + 248 ≤ maxLen := by unfold maxLen; omega
      go_wp2_with (at_builtin; refine wpList_app (.const (.slice none 0 0)) (.tmp 31) byteElem rfl rfl rfl rfl hown0 hsrc (by omega) hml (Nat.le_refl _) ?_)
      intro A5 c5 w5 hown5 hg5 _
      have hM5 : Mod (fun _ => False) w w5 := hM4.grown hg5 (fun k e _ => by simp [blkOf] at e)
      have hsl5 : Sl w5 A5 248 c5 ((xs.drop 4).take 248) := by
        have := OwV.sl (xs := (xs.drop 4).take 248) (by simpa using hown5)
        simpa using this
      have H5 := Lib.hid hsl5
      clear hown5 hg5 hsrc hown0 hsl5
      go_wp2
      go_ret3
      refine ⟨A5, 248, c5, ?_, by omega, ?_, hM5⟩
      · rw [HE.out.1, HE.out.2.1]; rfl
      · rw [HE.out.2.2]; exact H5.out
    · have hbb : openB 256 xs = false := by simp [openB, heq]
      have hne : ((ua : Int) != (ub : Int)) = true := by
        rw [bne_iff_ne]
        exact fun e => heq (HA.out.1 e)
      have HE : Hid (openStamp 256 xs = 0 ∧ openErr 256 xs = 20 ∧ openBytes 256 xs = []) := by
        refine ⟨?_, ?_, ?_⟩
        · rw [openStamp, hbb]; rfl
        · rw [openErr, hbb]; rfl
        · rw [openBytes, hbb]; rfl
      clear hbb heq HA
      go_wp2_with fail
      go_ret3
      refine ⟨none, 0, 0, ?_, by omega, ?_, hM4⟩
      · rw [HE.out.1, HE.out.2.1]; rfl
      · rw [HE.out.2.2]; exact Sl.none_ _ _ _
  · have hb : openB n xs = false := by simp [openB, h1]
    have hne : ((n : Int) != 256) = true := by rw [bne_iff_ne]; omega
    rw [openStamp, openErr, openBytes, hb, if_neg h1]
    clear h1 hb
    go_enter Try.func15, Try.ntmps15
    go_wp2_with fail
    go_ret3
    exact ⟨none, 0, 0, rfl, by omega, Sl.none_ _ _ _, Mod.refl _ _⟩

theorem partOf_at (xs ys : List UInt8) (k j : Nat) (hy : ys.length = 256) (hj : j < 256) : (partOf xs ys k).getD j 0 = if j < k then ys.getD j 0 else xs.getD j 0 := by
  unfold partOf
  by_cases h : j < k
  · rw [if_pos h, List.getD_eq_getElem?_getD, List.getElem?_append_left (by rw [List.length_take]; omega), List.getElem?_take, if_pos h, List.getD_eq_getElem?_getD]
  · rw [if_neg h, List.getD_eq_getElem?_getD]
    by_cases hk : k ≤ 256
    · rw [List.getElem?_append_right (by rw [List.length_take]; omega), List.length_take, Nat.min_eq_left (by omega), List.getElem?_drop, show k + (j - k) = j by omega, List.getD_eq_getElem?_getD]
    · omega

theorem take_getD (l : List UInt8) (j : Nat) (h : j < l.length) : l.take (j + 1) = l.take j ++ [l.getD j 0] := by
  rw [List.take_succ_eq_append_getElem h]
  simp [h]

set_option maxRecDepth 100000 in
set_option maxHeartbeats 1600000 in
theorem refPart_ok (w : World) (A B : Option Addr) (c d : Nat) (xs ys : List UInt8) (hx : Sl w A 256 c xs) (hy : Sl w B 256 d ys) (k : Nat) (hk : k ≤ 256) :
    Calls Try.prog 17 #[.slice A 256 c, .slice B 256 d, .int .i64 k] w fun e w' => ∃ A' c', e = .returned (.tuple #[.slice A' 256 c', .int .i64 0]) ∧ Gives w w' A' 256 c' (partOf xs ys k) := by
  have hk' : ¬ (256 : Int) < k := by omega
  have hk0 : decide ((k : Int) < 0) = false := by simp
  obtain ⟨bA, oA, rfl, hbA⟩ := hx.lt (by omega)
  obtain ⟨bB, oB, rfl, hbB⟩ := hy.lt (by omega)
  have Hyl := Lib.hid hy.len
  have Hpl := Lib.hid (partOf_len xs ys k hx.len hy.len hk)
  obtain ⟨_, _, e1, hcx⟩ := hx.2.2 (by omega)
  injection e1 with e1; injection e1 with e1 e2; subst e1; subst e2
  obtain ⟨_, _, e1, hcy⟩ := hy.2.2 (by omega)
  injection e1 with e1; injection e1 with e1 e2; subst e1; subst e2
  have Hcx := Lib.hid hcx
  have Hcy := Lib.hid hcy
  clear hcx hcy hx hy
  obtain ⟨R, hR⟩ : ∃ R, R = partOf xs ys k := ⟨_, rfl⟩
  have HR := Lib.hid hR
  rw [← hR]
  rw [← hR] at Hpl
  clear hR
  go_enter Try.func17, Try.ntmps17
  go_wp2
  go_loopw [8, 9] (fun out i wr => ∃ (j : Nat) (A' : Option Addr) (c' : Nat), j ≤ 256 ∧ i = .int .i64 j ∧ out = .slice A' j c' ∧ OwV wr w.heap.size 5 A' j c' ((R.take j).map bv) ∧ Mod (fun _ => False) w wr) (fun _ i _ => 256 - (intOf i).toNat)
  case atStart => exact ⟨0, none, 0, by omega, rfl, rfl, OwV.nil _ _ _, Mod.refl _ _⟩
  case round =>
    obtain ⟨j, A', c', hj, rfl, rfl, hown, hmod⟩ := hrel
    by_cases hlt : j < 256
    · have hat := partOf_at xs ys k j Hyl.out hlt
      rw [← HR.out] at hat
      have htk := take_getD R j (by rw [Hpl.out]; exact hlt)
      have hml : j + 1 ≤ maxLen := by unfold maxLen; omega
      have hsz := hmod.size
      have fin : ∀ (z : UInt8) (w2 : World) (A2 : Option Addr) (c2 : Nat), z = R.getD j 0 → OwV w2 w.heap.size 5 A2 (j + 1) c2 ((R.take j).map bv ++ [bv z]) → OwV w2 w.heap.size 5 A2 (j + 1) c2 ((R.take (j + 1)).map bv) := by
        intro z w2 A2 c2 hz ho
        rw [htk, List.map_append, List.map_cons, List.map_nil, ← hz]
        exact ho
      have Hfin := Lib.hid fin
      clear fin htk
      by_cases hjk : j < k
      · rw [if_pos hjk] at hat
        have hcy : wr.cell? ⟨bB, oB + j, none⟩ = some (bv (ys.getD j 0)) := (World.cell?_of_block (hmod.block bB hbB id)).trans (Hcy.out j hlt)
        have Hat := Lib.hid hat
        generalize ys.getD j 0 = z at *
        clear hat
        have hjk' : (j : Int) < k := by omega
        have hlt' : (j : Int) < 256 := by omega
        have hown1 : OwV (wr.alloc (.cells #[bv z] 5)) w.heap.size 5 A' j c' ((R.take j).map bv) := hown.alloc _
        have hsrc1 := Src.one wr (bv z) 5 rfl
        have hbase : w.heap.size ≤ (wr.alloc (.cells #[bv z] 5)).heap.size := by simp; omega
        go_wp2_with (at_builtin; refine wpList_app (.tmp 33) (.tmp 38) byteElem rfl rfl rfl rfl hown1 hsrc1 (by omega) hml hbase ?_)
        intro A4 c4 w4 hown4 hg4 _
        have hm4 : Mod (fun _ => False) w w4 := (hmod.alloc (.cells #[bv z] 5)).grown hg4 (fun k e hk => by have := (hown.lt k e).1; omega)
        have H4 := Lib.hid (Hfin.out z w4 A4 c4 Hat.out.symm (by rw [List.map_take]; exact hown4))
        clear hown1 hsrc1 hown hg4 hown4 hcy
        go_wp2
        go_roundw
        case rel => exact ⟨j + 1, A4, c4, by omega, by go_num, rfl, H4.out, hm4⟩
        case measure => simp [intOf]; omega
      · rw [if_neg hjk] at hat
        have hcx : wr.cell? ⟨bA, oA + j, none⟩ = some (bv (xs.getD j 0)) := (World.cell?_of_block (hmod.block bA hbA id)).trans (Hcx.out j hlt)
        have Hat := Lib.hid hat
        generalize xs.getD j 0 = z at *
        clear hat
        have hjk' : ¬ (j : Int) < k := by omega
        have hlt' : (j : Int) < 256 := by omega
        have hown1 : OwV (wr.alloc (.cells #[bv z] 5)) w.heap.size 5 A' j c' ((R.take j).map bv) := hown.alloc _
        have hsrc1 := Src.one wr (bv z) 5 rfl
        have hbase : w.heap.size ≤ (wr.alloc (.cells #[bv z] 5)).heap.size := by simp; omega
        go_wp2_with (at_builtin; refine wpList_app (.tmp 40) (.tmp 45) byteElem rfl rfl rfl rfl hown1 hsrc1 (by omega) hml hbase ?_)
        intro A4 c4 w4 hown4 hg4 _
        have hm4 : Mod (fun _ => False) w w4 := (hmod.alloc (.cells #[bv z] 5)).grown hg4 (fun k e hk => by have := (hown.lt k e).1; omega)
        have H4 := Lib.hid (Hfin.out z w4 A4 c4 Hat.out.symm (by rw [List.map_take]; exact hown4))
        clear hown1 hsrc1 hown hg4 hown4 hcx
        go_wp2
        go_roundw
        case rel => exact ⟨j + 1, A4, c4, by omega, by go_num, rfl, H4.out, hm4⟩
        case measure => simp [intOf]; omega
    · obtain rfl : j = 256 := by omega
      rw [List.take_of_length_le (by rw [Hpl.out]; omega)] at hown
      have H5 := Lib.hid hown.sl
      clear hown
      go_wp2
      go_ret2
      exact ⟨A', c', rfl, H5.out, hmod⟩

set_option maxRecDepth 100000 in
set_option maxHeartbeats 800000 in
theorem refPart_no (w : World) (A B : Option Addr) (n c m d : Nat) (k : Int) (h : partB n m k = false) :
    Calls Try.prog 17 #[.slice A n c, .slice B m d, .int .i64 k] w fun e w' => e = .returned (.tuple #[.slice none 0 0, .int .i64 1]) ∧ w = w' := by
  by_cases h1 : n = 256
  · by_cases h2 : m = 256
    · by_cases h3 : k < 0
      · subst h1; subst h2
        have hd : decide (k < 0) = true := by simpa using h3
        clear h h3
        go_enter Try.func17, Try.ntmps17
        go_wp2_with fail
        go_ret2
        exact ⟨rfl, rfl⟩
      · have h4 : 256 < k := by
          simp [partB, h1, h2] at h
          omega
        subst h1; subst h2
        have hd : decide (k < 0) = false := by simpa using h3
        have hd2 : decide (256 < k) = true := by simpa using h4
        clear h h3 h4
        go_enter Try.func17, Try.ntmps17
        go_wp2_with fail
        go_ret2
        exact ⟨rfl, rfl⟩
    · subst h1
      have hne : ((m : Int) != 256) = true := by rw [bne_iff_ne]; omega
      clear h h2
      go_enter Try.func17, Try.ntmps17
      go_wp2_with fail
      go_ret2
      exact ⟨rfl, rfl⟩
  · have hne : ((n : Int) != 256) = true := by rw [bne_iff_ne]; omega
    clear h h1
    go_enter Try.func17, Try.ntmps17
    go_wp2_with fail
    go_ret2
    exact ⟨rfl, rfl⟩

theorem refPart_any (w : World) (A B : Option Addr) (n c m d : Nat) (k : Int) (xs ys : List UInt8) (hx : Sl w A n c xs) (hy : Sl w B m d ys) :
    Calls Try.prog 17 #[.slice A n c, .slice B m d, .int .i64 k] w fun e w' => ∃ A' l c', e = .returned (.tuple #[.slice A' l c', .int .i64 (partErr n m k)]) ∧ l ≤ 256 ∧ Gives w w' A' l c' (partBytes n m k xs ys) := by
  by_cases hb : partB n m k = true
  · obtain ⟨rfl, rfl, h0, h1⟩ := partB_yes hb
    obtain ⟨j, rfl⟩ := Int.eq_ofNat_of_zero_le h0
    refine (refPart_ok w A B c d xs ys hx hy j (by omega)).mono ?_
    rintro e w' ⟨A', c', rfl, hs⟩
    refine ⟨_, 256, c', by rw [partErr, hb]; rfl, by omega, ?_⟩
    rw [partBytes, hb]
    exact hs
  · have hb' : partB n m k = false := by simpa using hb
    refine (refPart_no w A B n c m d k hb').mono ?_
    rintro e w' ⟨rfl, rfl⟩
    refine ⟨none, 0, 0, by rw [partErr, hb']; rfl, by omega, ?_, Mod.refl _ _⟩
    rw [partBytes, hb']
    exact Sl.none_ _ _ _
end Go.Proofs.Ytfejmaffgbbkeaa
