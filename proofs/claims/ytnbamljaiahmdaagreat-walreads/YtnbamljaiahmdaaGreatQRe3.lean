/-
  bobbinref06.Encode.
-/
import Derived.Test.YtnbamljaiahmdaaGreatQRe2
import Derived.Test.YtnbamljaiahmdaaGreatQDecE
namespace Go.Proofs.YtnbamljaiahmdaaGreat
open Go Go.RowKit

/-- A field's letter. -/
def letterF : Fld → UInt8
  | .num i _ => letter i
  | .old => 79
  | .new => 78
/-- A field as the document lists it. -/
def Fld.std : Fld → Prop
  | .num i wd => 1 ≤ i ∧ i ≤ 9 ∧ wd = width i
  | _ => True
theorem letters_size {k : Int} {fl : List Fld} (h : fieldsOf k = some fl) : (⟨lettersOf k⟩ : ByteArray).size = fl.length := by
  have hk := fields_kind' h
  rcases hk with rfl | rfl | rfl | rfl | rfl | rfl | rfl | rfl | rfl | rfl | rfl
  all_goals (injection h with h; subst h; rfl)
theorem list_at {L : Array UInt8} {fl : List Fld} (h : L.toList = fl.map letterF) (hs : ∀ f ∈ fl, f.std) (j : Nat) (hj : j < (⟨L⟩ : ByteArray).size) :
    ∃ f, fl[j]? = some f ∧ (⟨L⟩ : ByteArray)[j]'hj = letterF f ∧ f.std := by
  have h1 : L.toList[j]? = some ((⟨L⟩ : ByteArray)[j]'hj) := by
    rw [Array.getElem?_toList]
    exact Array.getElem?_eq_getElem hj
  rw [h, List.getElem?_map] at h1
  cases hf : fl[j]? with
  | none => rw [hf] at h1; cases h1
  | some f =>
    rw [hf] at h1
    injection h1 with h1
    exact ⟨f, rfl, h1.symm, hs f (List.mem_of_getElem? hf)⟩
def Fld.stdB : Fld → Bool
  | .num i wd => decide (1 ≤ i) && decide (i ≤ 9) && decide (wd = width i)
  | _ => true
theorem stdB_std {l : List Fld} (h : l.all Fld.stdB = true) : ∀ f ∈ l, f.std := by
  intro f hf
  have := List.all_eq_true.1 h f hf
  cases f with
  | num i wd => simpa [Fld.stdB, Fld.std, and_assoc] using this
  | old => trivial
  | new => trivial
theorem letters_at {k : Int} {fl : List Fld} (h : fieldsOf k = some fl) (j : Nat) (hj : j < (⟨lettersOf k⟩ : ByteArray).size) :
    ∃ f, fl[j]? = some f ∧ (⟨lettersOf k⟩ : ByteArray)[j]'hj = letterF f ∧ f.std := by
  refine list_at ?_ ?_ j hj
  · have hk := fields_kind' h
    clear hj
    rcases hk with rfl | rfl | rfl | rfl | rfl | rfl | rfl | rfl | rfl | rfl | rfl
    all_goals (injection h with h; subst h; rfl)
  · have hk := fields_kind' h
    clear hj
    rcases hk with rfl | rfl | rfl | rfl | rfl | rfl | rfl | rfl | rfl | rfl | rfl
    all_goals (injection h with h; subst h; exact stdB_std rfl)
theorem letter_not {i : Nat} (h1 : 1 ≤ i) (h9 : i ≤ 9) : ((((letter i).toNat : Nat) : Int) == 79) = false ∧ ((((letter i).toNat : Nat) : Int) == 78) = false := by
  match i, h1, h9 with
  | 1, _, _ | 2, _, _ | 3, _, _ | 4, _, _ | 5, _, _ | 6, _, _ | 7, _, _ | 8, _, _ | 9, _, _ => exact ⟨rfl, rfl⟩

set_option maxRecDepth 100000 in
set_option maxHeartbeats 1000000 in
theorem rencode_no (w : World) (x : RcD) (h : mayB x = false) :
    Calls Tryz.prog 84 #[x.val] w fun e w' => e = .returned (.tuple #[.slice none 0 0, .int .i64 1]) ∧ Mod (fun _ => False) w w' := by
  have Hm := Lib.hid (rmay_ok (w.alloc (.cells x.cells 47)) x)
  rw [h] at Hm
  have Ha : Hid (Mod (fun _ => False) w (w.alloc (.cells x.cells 47))) := (Mod.refl _ w).alloc _
  clear h
  go_enter Tryz.func84, Tryz.ntmps84
  go_wp2_with fail
  refine Hm.out.mono ?_
  rintro e w1 ⟨rfl, h1⟩
  have H1 := Lib.hid (Ha.out.trans h1 (fun _ _ h => h))
  clear h1 Hm
  go_wp2
  go_ret2
  exact ⟨rfl, H1.out⟩

set_option maxRecDepth 100000 in
set_option maxHeartbeats 4000000 in
theorem rencode_yes (w : World) (x : RcD) (hx : x.At w) (h : mayB x = true) :
    Calls Tryz.prog 84 #[x.val] w fun e w' => ∃ A c, e = .returned (.tuple #[.slice A (encB x).length c, .int .i64 0]) ∧ OwV w' w.heap.size 5 A (encB x).length c ((encB x).map bv) ∧ Mod (fun _ => False) w w' := by
  have Hm := Lib.hid (rmay_ok (w.alloc (.cells x.cells 47)) x)
  rw [h] at Hm
  have Ha : Hid (Mod (fun _ => False) w (w.alloc (.cells x.cells 47))) := (Mod.refl _ w).alloc _
  have HI : Hid (x.In (w.alloc (.cells x.cells 47)) w.heap.size) := RcD.In.new w x
  obtain ⟨fl, hfl, hok, _⟩ := mayB_kind h
  have hkind := fields_kind hfl
  have HE : Hid (encB x = encJ fl x fl.length) := by
    show _ = _
    unfold encB encJ
    rw [hfl, List.take_length]
    rfl
  have Hlen := Lib.hid (encJ_len hx (fields_good hfl) hok (fields_len hfl))
  have Hx := Lib.hid hx
  have Hok := Lib.hid hok
  have hk0 : 0 ≤ x.k := by omega
  have hk1 : x.k ≤ 11 := by omega
  have Hkb : Hid (x.k = ((UInt8.ofNat x.k.toNat).toNat : Nat)) := (kind_byte hfl).symm
  have Hfs := Lib.hid (fun W => rfields_ok W x.k)
  have Hsz := Lib.hid (letters_size hfl)
  have Hat := Lib.hid (letters_at hfl)
  have Hfl6 := Lib.hid (fields_len hfl)
  clear h hx hok hfl hkind
  generalize (⟨lettersOf x.k⟩ : ByteArray) = s at *
  have hs6 : (s.size : Int) ≤ 6 := by have := Hsz.out; have := Hfl6.out; omega
  go_enter Tryz.func84, Tryz.ntmps84
  go_wp2_with fail
  refine Hm.out.mono ?_
  rintro e w1 ⟨rfl, h1⟩
  have H1 := Lib.hid (Ha.out.trans h1 (fun _ _ h => h))
  have HI1 := Lib.hid (HI.out.keep h1)
  have hlt1 := HI1.out.lt
  clear h1 Hm HI Ha
  have ck := HI1.out.kind
  obtain ⟨w2, hw2⟩ : ∃ w2, w1.alloc (.cells #[.int .u8 x.k] 5) = w2 := ⟨_, rfl⟩
  have ck2 : w2.cell? ⟨w.heap.size, 0, none⟩ = some (.int .i64 x.k) := by rw [← hw2]; exact (HI1.out.keep ((Mod.refl _ w1).alloc _)).kind
  have HI2 : Hid (x.In w2 w.heap.size) := by rw [← hw2]; exact HI1.out.keep ((Mod.refl _ w1).alloc _)
  have H2 : Hid (Mod (fun _ => False) w w2) := by rw [← hw2]; exact H1.out.alloc _
  have HO2 : Hid (OwV w2 w1.heap.size 5 (some ⟨w1.heap.size, 0, none⟩) 1 1 ((encJ fl x 0).map bv)) := by
    have he : (encJ fl x 0).map bv = [.int .u8 x.k] := by
      show [bv (UInt8.ofNat x.k.toNat)] = _
      unfold bv
      rw [← Hkb.out]
    rw [he, ← hw2]
    exact OwV.of_block (cur := [.int .u8 x.k]) (Nat.le_refl _) (heap_alloc_new w1 _) (by show 1 ≤ maxLen; unfold maxLen; omega)
  have Hsz1 : Hid (w.heap.size ≤ w1.heap.size) := H1.out.size
  have Hsz2 : Hid (w1.heap.size ≤ w2.heap.size) := by show _ ≤ _; rw [← hw2, World.size_alloc]; omega
  clear HI1 H1
  go_wp2_with fail
  refine (Hfs.out _).mono ?_
  rintro e w3 ⟨rfl, rfl⟩
  clear hw2 ck ck2 Hfs
  go_wp2
  go_loopw [5, 7] (fun out i wr => ∃ (j n c : Nat) (A : Option Addr), j ≤ s.size ∧ i = .int .i64 j ∧ out = .slice A n c ∧ OwV wr w1.heap.size 5 A n c ((encJ fl x j).map bv) ∧ x.In wr w.heap.size ∧ w1.heap.size ≤ wr.heap.size ∧ Mod (fun _ => False) w wr) (fun _ i _ => 6 - (intOf i).toNat)
  case atStart => exact ⟨0, 1, 1, _, by omega, rfl, rfl, HO2.out, HI2.out, Hsz2.out, H2.out⟩
  case round =>
    obtain ⟨j, n, c, A, hj, rfl, rfl, hO, hX, hsz, hm⟩ := hrel
    have HO := Lib.hid hO
    have HX := Lib.hid hX
    have HM := Lib.hid hm
    have Hszr := Lib.hid hsz
    have hn200 : (n : Int) ≤ 200 := by have h1 := hO.len; have h2 := Hlen.out j; rw [List.length_map] at h1; omega
    clear hO hX hm hsz HO2 HI2 Hsz2 H2
    by_cases hlt : j < s.size
    · obtain ⟨f, hf, hsf, hstd⟩ := Hat.out j hlt
      have Hnx := Lib.hid (encJ_succ (x := x) hf)
      have Hokf := Lib.hid (Hok.out f (List.mem_of_getElem? hf))
      clear hf
      cases f with
      | num i wd =>
        obtain ⟨h1, h9, rfl⟩ := hstd
        replace hsf : s[j]'hlt = letter i := hsf
        have hb79 : ((((s[j]'hlt).toNat : Nat) : Int) == 79) = false := by rw [hsf]; exact (letter_not h1 h9).1
        have hb78 : ((((s[j]'hlt).toNat : Nat) : Int) == 78) = false := by rw [hsf]; exact (letter_not h1 h9).2
        have Hn : Hid (∀ (hp : j < s.size) (W : World), Calls Tryz.prog 50 #[x.val, .int .u8 ((s[j]'hp).toNat : Nat)] W fun e w' => e = .returned (.tuple #[.int .i64 (x.f i), .int .i64 (width i : Nat)]) ∧ Mod (fun _ => False) W w') := fun hp W => by
          rw [hsf]; exact rnumber_ok W x i h1 h9
        obtain ⟨hw1, hw4⟩ := width_ok i
        have hbd := (okN_pw _ _).1 (show okN (x.f i) (width i) = true from Hokf.out)
        have Hput := Lib.hid (fun W => refPut_ok W (x.f i) (width i : Nat) hw1 hbd.1 hbd.2)
        have Hnx2 : Hid (encJ fl x (j + 1) = encJ fl x j ++ le (width i) (x.f i).toNat) := Hnx.out
        clear hsf Hnx Hokf hw1 hbd h1 h9
        generalize x.f i = z at *
        generalize width i = wd at *
        go_wp2
        go_region_held3 (fun w' => w'.cell? ⟨w.heap.size, 0, none⟩ = some (.int .i64 x.k) ∧ w'.cell? ⟨w.heap.size, 1, none⟩ = some (.int .i64 (x.f 1)) ∧ w'.cell? ⟨w.heap.size, 2, none⟩ = some (.int .i64 (x.f 2)) ∧ w'.cell? ⟨w.heap.size, 3, none⟩ = some (.int .i64 (x.f 3)) ∧ w'.cell? ⟨w.heap.size, 4, none⟩ = some (.int .i64 (x.f 4)) ∧ w'.cell? ⟨w.heap.size, 5, none⟩ = some (.int .i64 (x.f 5)) ∧ w'.cell? ⟨w.heap.size, 6, none⟩ = some (.int .i64 (x.f 6)) ∧ w'.cell? ⟨w.heap.size, 7, none⟩ = some (.int .i64 (x.f 7)) ∧ w'.cell? ⟨w.heap.size, 8, none⟩ = some (.int .i64 (x.f 8)) ∧ w'.cell? ⟨w.heap.size, 9, none⟩ = some (.int .i64 (x.f 9)) ∧ w'.cell? ⟨w.heap.size, 10, none⟩ = some (.bool x.o.is) ∧ w'.cell? ⟨w.heap.size, 11, none⟩ = some (.slice x.o.B x.o.m x.o.d) ∧ w'.cell? ⟨w.heap.size, 12, none⟩ = some (.bool x.v.is) ∧ w'.cell? ⟨w.heap.size, 13, none⟩ = some (.slice x.v.B x.v.m x.v.d)) (first | exact HX.out.all | exact ((HX.out.keep (Mod.refl _ wr).drew).keep hm4).all) ((go_at_call 50; refine (Hn.out hlt _).mono ?_; rintro e w4 ⟨rfl, hm4⟩))
        have hm5 : Mod (fun _ => False) wr w4 := (Mod.refl _ wr).drew.trans hm4 (fun _ _ h => h)
        clear hm4
        go_wp2_with fail
        refine (Hput.out _).mono ?_
        rintro e w5 ⟨B5, c5, rfl, hB5, hm6⟩
        have hm56 := hm5.trans hm6 (fun _ _ h => h)
        have HX5 := Lib.hid (HX.out.keep hm56)
        have HM5 := Lib.hid (HM.out.trans hm56 (fun _ _ h => h))
        have hown := HO.out.mod hm56 (fun _ _ => id)
        have hsrc := hB5.sl.src
        have Hsz5 : Hid (w1.heap.size ≤ w5.heap.size) := Nat.le_trans Hszr.out hm56.size
        simp only [Int.toNat_natCast] at hsrc ⊢
        have hml : n + wd ≤ maxLen := by unfold maxLen; omega
        clear hm5 hm6 hm56 Hput Hn hB5 HX HM HO
        go_wp2_with (at_builtin; refine wpList_app (.tmp 75) (.tmp 76) byteElem rfl rfl rfl rfl hown hsrc (by omega) hml Hsz5.out ?_)
        intro A' c' w' hown' hgr hat
        have Hm7 : Hid (Mod (fun _ => False) w w') := HM5.out.grown hgr (fun k e hk => by have := (hown.lt k e).1; have := Hsz1.out; omega)
        have HX7 : Hid (x.In w' w.heap.size) := (hgr.block _ (HX5.out.lt) (fun e => by have := (hown.lt _ e.symm).1; omega)).trans HX5.out
        have Hsz7 : Hid (w1.heap.size ≤ w'.heap.size) := Nat.le_trans Hsz5.out hgr.size
        have HO7 : Hid (OwV w' w1.heap.size 5 A' (n + wd) c' ((encJ fl x (j + 1)).map bv)) := by show OwV _ _ _ _ _ _ _; rw [Hnx2.out, List.map_append]; exact hown'
        clear hown hgr hat hsrc hown' HX5 HM5 Hsz5
        go_wp2
        go_roundw
        case rel => exact ⟨j + 1, n + wd, c', A', by omega, by go_num, rfl, HO7.out, HX7.out, Hsz7.out, Hm7.out⟩
        case measure => simp [intOf]; omega
      | old =>
        replace hsf : s[j]'hlt = 79 := hsf
        have hb79 : ((((s[j]'hlt).toNat : Nat) : Int) == 79) = true := by rw [hsf]; rfl
        have hb78 : ((((s[j]'hlt).toNat : Nat) : Int) == 78) = false := by rw [hsf]; rfl
        have Hval : Hid (∀ (hp : j < s.size) (W : World), Calls Tryz.prog 94 #[x.val, .int .u8 ((s[j]'hp).toNat : Nat)] W fun e w' => e = .returned (.agg #[.bool x.o.is, .slice x.o.B x.o.m x.o.d]) ∧ Mod (fun _ => False) W w') := fun hp W => by
          rw [hsf]; exact rvalue_o W x
        have Hnx2 : Hid (encJ fl x (j + 1) = encJ fl x j ++ encV x.o) := Hnx.out
        have Hokv : Hid (okV x.o = true) := Hokf.out
        clear hsf Hnx Hokf hstd
        have Hea : Hid (∀ (T : Prop) (w7 : World), Mod (fun _ => False) (wr.drew.alloc (.cells #[.bool false, .slice none 0 0] 45)) w7 → (w7.cell? ⟨wr.heap.size, 0, none⟩ = some (.bool false) → w7.cell? ⟨wr.heap.size, 1, none⟩ = some (.slice none 0 0) → w7.frozen? ⟨wr.heap.size, 0, none⟩ = false → w7.frozen? ⟨wr.heap.size, 1, none⟩ = false → T) → T) := fun T w7 hm h =>
          h (by rw [cell_of_row _ _ _ _ _ _ (early_box hm)]; rfl) (by rw [cell_of_row _ _ _ _ _ _ (early_box hm)]; rfl) (frozen_of_block (early_box hm) 0) (frozen_of_block (early_box hm) 1)
        have HS0 : Hid (∀ W : World, Mod (fun _ => False) wr W → x.In W w.heap.size) := fun W hm => HX.out.keep hm
        go_upto_region 10 with fail
        go_cut [8] from 24 to 77 (fun p wx => ∃ bx, p = .pointer (some ⟨bx, 0, none⟩) ∧ In2 wr wx bx x.o)
        case first =>
          go_region_held3 (fun w' => w'.cell? ⟨w.heap.size, 0, none⟩ = some (.int .i64 x.k) ∧ w'.cell? ⟨w.heap.size, 1, none⟩ = some (.int .i64 (x.f 1)) ∧ w'.cell? ⟨w.heap.size, 2, none⟩ = some (.int .i64 (x.f 2)) ∧ w'.cell? ⟨w.heap.size, 3, none⟩ = some (.int .i64 (x.f 3)) ∧ w'.cell? ⟨w.heap.size, 4, none⟩ = some (.int .i64 (x.f 4)) ∧ w'.cell? ⟨w.heap.size, 5, none⟩ = some (.int .i64 (x.f 5)) ∧ w'.cell? ⟨w.heap.size, 6, none⟩ = some (.int .i64 (x.f 6)) ∧ w'.cell? ⟨w.heap.size, 7, none⟩ = some (.int .i64 (x.f 7)) ∧ w'.cell? ⟨w.heap.size, 8, none⟩ = some (.int .i64 (x.f 8)) ∧ w'.cell? ⟨w.heap.size, 9, none⟩ = some (.int .i64 (x.f 9)) ∧ w'.cell? ⟨w.heap.size, 10, none⟩ = some (.bool x.o.is) ∧ w'.cell? ⟨w.heap.size, 11, none⟩ = some (.slice x.o.B x.o.m x.o.d) ∧ w'.cell? ⟨w.heap.size, 12, none⟩ = some (.bool x.v.is) ∧ w'.cell? ⟨w.heap.size, 13, none⟩ = some (.slice x.v.B x.v.m x.v.d)) (first | exact (HS0.out _ (Mod.refl _ wr).drew).all | exact (HS0.out _ ((Mod.refl _ wr).drew.alloc _)).all | exact (HS0.out _ ((Mod.refl _ wr).drew.trans hm4 (fun _ _ h => h))).all | exact (HS0.out _ (((Mod.refl _ wr).drew.trans hm4 (fun _ _ h => h)).alloc _)).all | exact (HS0.out _ (((Mod.refl _ wr).drew.alloc _).trans hm4 (fun _ _ h => h))).all | exact (HS0.out _ (In2.early hm4 x.o).mod).all) ((go_at_call 94; refine (Hval.out hlt _).mono ?_; rintro e w4 ⟨rfl, hm4⟩; first | (refine Hea.out _ _ hm4 ?_; intro y0 y1 y2 y3) | skip))
          all_goals
            go_wp2_with fail
            go_meet
            first
              | exact ⟨_, rfl, In2.late ((Mod.refl _ wr).drew.trans hm4 (fun _ _ h => h)) x.o⟩
              | exact ⟨_, rfl, In2.early hm4 x.o⟩
        case rest =>
          obtain ⟨bx, rfl, hin⟩ := hcut
          clear Hea HS0 Hval
          generalize wc = W8 at *
          have c0 := hin.c0
          have c1 := hin.c1
          have HX8 := Lib.hid (HX.out.keep hin.mod)
          have HM8 := Lib.hid (HM.out.trans hin.mod (fun _ _ h => h))
          have HO8 := Lib.hid (HO.out.mod hin.mod (fun _ _ => id))
          have Hsz8 : Hid (w1.heap.size ≤ W8.heap.size) := Nat.le_trans Hszr.out hin.mod.size
          have Hfar : Hid (∀ k, blkOf A = some k → k ≠ bx) := fun k e h => by have := (HO.out.lt k e).2; have := hin.lo; omega
          have Hbox := Lib.hid hin.box
          have HV8 : Hid (Sl W8 x.o.B x.o.m x.o.d x.o.vs) := Hx.out.1.keep HM8.out
          clear hin HX HM HO
          by_cases his' : x.o.is = false
          · have his := his'
            clear his'
            have Hev : Hid (encV x.o = [255]) := by show _ = _; unfold encV; rw [his]; rfl
            rw [his] at c0
            have hown := HO8.out.alloc (.cells #[.int .u8 255] 5)
            have hsrc := Src.one W8 (.int .u8 255) 5 rfl
            have hml : n + 1 ≤ maxLen := by unfold maxLen; omega
            have hsz9 : w1.heap.size ≤ (W8.alloc (.cells #[.int .u8 255] 5)).heap.size := by rw [World.size_alloc]; have := Hsz8.out; omega
            clear his
            go_wp2_with (at_builtin; refine wpList_app (.tmp 58) (.tmp 59) byteElem rfl rfl rfl rfl hown hsrc (by omega) hml hsz9 ?_)
            intro A' c' w' hown' hgr hat
            have Hm7 : Hid (Mod (fun _ => False) w w') := (HM8.out.alloc _).grown hgr (fun k e hk => by have := (hown.lt k e).1; have := Hsz1.out; omega)
            have hx8 := HX8.out.keep ((Mod.refl (fun _ => False) W8).alloc (.cells #[.int .u8 255] 5))
            have HX7 : Hid (x.In w' w.heap.size) := (hgr.block _ hx8.lt (fun e => by have := (hown.lt _ e.symm).1; omega)).trans hx8
            have Hsz7 : Hid (w1.heap.size ≤ w'.heap.size) := Nat.le_trans hsz9 hgr.size
            have HO7 : Hid (OwV w' w1.heap.size 5 A' (n + 1) c' ((encJ fl x (j + 1)).map bv)) := by show OwV _ _ _ _ _ _ _; rw [Hnx2.out, Hev.out, List.map_append]; exact hown'
            clear hown hgr hat hsrc hown' HX8 HM8 Hsz8 hsz9 hx8 c0 c1
            go_wp2
            go_roundw
            case rel => exact ⟨j + 1, n + 1, c', A', by omega, by go_num, rfl, HO7.out, HX7.out, Hsz7.out, Hm7.out⟩
            case measure => simp [intOf]; omega
          · have his : x.o.is = true := by simpa using his'
            clear his'
            have hm32 : (x.o.m : Int) ≤ 32 := by
              have := Hokv.out
              unfold okV noneV at this
              rw [his] at this
              simpa using this
            have Hev : Hid (encV x.o = UInt8.ofNat x.o.m :: x.o.vs) := by show _ = _; unfold encV; rw [his, if_pos rfl, HV8.out.len]
            have Hlb : Hid ((x.o.m : Int) = (((UInt8.ofNat x.o.m).toNat : Nat) : Int)) := by show _ = _; rw [UInt8.toNat_ofNat', Nat.mod_eq_of_lt (by omega)]
            rw [his] at c0
            have hown := HO8.out.alloc (.cells #[.int .u8 (x.o.m : Int)] 5)
            have hsrc := Src.one W8 (.int .u8 (x.o.m : Int)) 5 rfl
            have hml : n + 1 ≤ maxLen := by unfold maxLen; omega
            have hsz9 : w1.heap.size ≤ (W8.alloc (.cells #[.int .u8 (x.o.m : Int)] 5)).heap.size := by rw [World.size_alloc]; have := Hsz8.out; omega
            clear his
            go_wp2_with (at_builtin; refine wpList_app (.tmp 47) (.tmp 52) byteElem rfl rfl rfl rfl hown hsrc (by omega) hml hsz9 ?_)
            intro A' c' w' hown' hgr hat
            have Hm7 : Hid (Mod (fun _ => False) w w') := (HM8.out.alloc _).grown hgr (fun k e hk => by have := (hown.lt k e).1; have := Hsz1.out; omega)
            have hx8 := HX8.out.keep ((Mod.refl (fun _ => False) W8).alloc (.cells #[.int .u8 (x.o.m : Int)] 5))
            have HX7 : Hid (x.In w' w.heap.size) := (hgr.block _ hx8.lt (fun e => by have := (hown.lt _ e.symm).1; omega)).trans hx8
            have Hsz7 : Hid (w1.heap.size ≤ w'.heap.size) := Nat.le_trans hsz9 hgr.size
            have hbx : w'.heap[bx]? = some (.cells #[.bool x.o.is, .slice x.o.B x.o.m x.o.d] 45 (0, 0)) := by
              have hb := Hbox.out
              have hl := (Array.getElem?_eq_some_iff.1 hb).1
              exact (hgr.block bx (by rw [World.size_alloc]; omega) (fun e => Hfar.out bx e.symm rfl)).trans ((Below.heap_alloc W8 _ bx hl).trans hb)
            have c1' : w'.cell? ⟨bx, 1, none⟩ = some (.slice x.o.B x.o.m x.o.d) := by rw [cell_of_row _ _ _ _ _ _ hbx]; rfl
            have HV7 : Hid (Sl w' x.o.B x.o.m x.o.d x.o.vs) := Hx.out.1.keep Hm7.out
            have hsrc2 := HV7.out.src
            have hml2 : n + 1 + x.o.m ≤ maxLen := by unfold maxLen; omega
            clear hown hgr hat hsrc HX8 HM8 Hsz8 hsz9 hx8 c0 c1 hbx
            go_wp2_with (at_builtin; refine wpList_app (.tmp 54) (.tmp 56) byteElem rfl rfl rfl rfl hown' hsrc2 (by omega) hml2 Hsz7.out ?_)
            intro A2 c2 w9 hown2 hgr2 hat2
            have Hm9 : Hid (Mod (fun _ => False) w w9) := Hm7.out.grown hgr2 (fun k e hk => by have := (hown'.lt k e).1; have := Hsz1.out; omega)
            have HX9 : Hid (x.In w9 w.heap.size) := (hgr2.block _ HX7.out.lt (fun e => by have := (hown'.lt _ e.symm).1; omega)).trans HX7.out
            have Hsz9 : Hid (w1.heap.size ≤ w9.heap.size) := Nat.le_trans Hsz7.out hgr2.size
            have HO9 : Hid (OwV w9 w1.heap.size 5 A2 (n + 1 + x.o.m) c2 ((encJ fl x (j + 1)).map bv)) := by
              show OwV _ _ _ _ _ _ _
              rw [Hnx2.out, Hev.out, List.map_append, List.map_cons]
              rw [Hlb.out] at hown2
              exact hown2
            clear hown' hown2 hgr2 hat2 hsrc2 HX7 Hm7 Hsz7 c1'
            go_wp2
            go_roundw
            case rel => exact ⟨j + 1, n + 1 + x.o.m, c2, A2, by omega, by go_num, rfl, HO9.out, HX9.out, Hsz9.out, Hm9.out⟩
            case measure => simp [intOf]; omega
      | new =>
        replace hsf : s[j]'hlt = 78 := hsf
        have hb79 : ((((s[j]'hlt).toNat : Nat) : Int) == 79) = false := by rw [hsf]; rfl
        have hb78 : ((((s[j]'hlt).toNat : Nat) : Int) == 78) = true := by rw [hsf]; rfl
        have Hval : Hid (∀ (hp : j < s.size) (W : World), Calls Tryz.prog 94 #[x.val, .int .u8 ((s[j]'hp).toNat : Nat)] W fun e w' => e = .returned (.agg #[.bool x.v.is, .slice x.v.B x.v.m x.v.d]) ∧ Mod (fun _ => False) W w') := fun hp W => by
          rw [hsf]; exact rvalue_v W x
        have Hnx2 : Hid (encJ fl x (j + 1) = encJ fl x j ++ encV x.v) := Hnx.out
        have Hokv : Hid (okV x.v = true) := Hokf.out
        clear hsf Hnx Hokf hstd
        have Hea : Hid (∀ (T : Prop) (w7 : World), Mod (fun _ => False) (wr.drew.alloc (.cells #[.bool false, .slice none 0 0] 45)) w7 → (w7.cell? ⟨wr.heap.size, 0, none⟩ = some (.bool false) → w7.cell? ⟨wr.heap.size, 1, none⟩ = some (.slice none 0 0) → w7.frozen? ⟨wr.heap.size, 0, none⟩ = false → w7.frozen? ⟨wr.heap.size, 1, none⟩ = false → T) → T) := fun T w7 hm h =>
          h (by rw [cell_of_row _ _ _ _ _ _ (early_box hm)]; rfl) (by rw [cell_of_row _ _ _ _ _ _ (early_box hm)]; rfl) (frozen_of_block (early_box hm) 0) (frozen_of_block (early_box hm) 1)
        have HS0 : Hid (∀ W : World, Mod (fun _ => False) wr W → x.In W w.heap.size) := fun W hm => HX.out.keep hm
        go_upto_region 10 with fail
        go_cut [8] from 24 to 77 (fun p wx => ∃ bx, p = .pointer (some ⟨bx, 0, none⟩) ∧ In2 wr wx bx x.v)
        case first =>
          go_region_held3 (fun w' => w'.cell? ⟨w.heap.size, 0, none⟩ = some (.int .i64 x.k) ∧ w'.cell? ⟨w.heap.size, 1, none⟩ = some (.int .i64 (x.f 1)) ∧ w'.cell? ⟨w.heap.size, 2, none⟩ = some (.int .i64 (x.f 2)) ∧ w'.cell? ⟨w.heap.size, 3, none⟩ = some (.int .i64 (x.f 3)) ∧ w'.cell? ⟨w.heap.size, 4, none⟩ = some (.int .i64 (x.f 4)) ∧ w'.cell? ⟨w.heap.size, 5, none⟩ = some (.int .i64 (x.f 5)) ∧ w'.cell? ⟨w.heap.size, 6, none⟩ = some (.int .i64 (x.f 6)) ∧ w'.cell? ⟨w.heap.size, 7, none⟩ = some (.int .i64 (x.f 7)) ∧ w'.cell? ⟨w.heap.size, 8, none⟩ = some (.int .i64 (x.f 8)) ∧ w'.cell? ⟨w.heap.size, 9, none⟩ = some (.int .i64 (x.f 9)) ∧ w'.cell? ⟨w.heap.size, 10, none⟩ = some (.bool x.o.is) ∧ w'.cell? ⟨w.heap.size, 11, none⟩ = some (.slice x.o.B x.o.m x.o.d) ∧ w'.cell? ⟨w.heap.size, 12, none⟩ = some (.bool x.v.is) ∧ w'.cell? ⟨w.heap.size, 13, none⟩ = some (.slice x.v.B x.v.m x.v.d)) (first | exact (HS0.out _ (Mod.refl _ wr).drew).all | exact (HS0.out _ ((Mod.refl _ wr).drew.alloc _)).all | exact (HS0.out _ ((Mod.refl _ wr).drew.trans hm4 (fun _ _ h => h))).all | exact (HS0.out _ (((Mod.refl _ wr).drew.trans hm4 (fun _ _ h => h)).alloc _)).all | exact (HS0.out _ (((Mod.refl _ wr).drew.alloc _).trans hm4 (fun _ _ h => h))).all | exact (HS0.out _ (In2.early hm4 x.v).mod).all) ((go_at_call 94; refine (Hval.out hlt _).mono ?_; rintro e w4 ⟨rfl, hm4⟩; first | (refine Hea.out _ _ hm4 ?_; intro y0 y1 y2 y3) | skip))
          all_goals
            go_wp2_with fail
            go_meet
            first
              | exact ⟨_, rfl, In2.late ((Mod.refl _ wr).drew.trans hm4 (fun _ _ h => h)) x.v⟩
              | exact ⟨_, rfl, In2.early hm4 x.v⟩
        case rest =>
          obtain ⟨bx, rfl, hin⟩ := hcut
          clear Hea HS0 Hval
          generalize wc = W8 at *
          have c0 := hin.c0
          have c1 := hin.c1
          have HX8 := Lib.hid (HX.out.keep hin.mod)
          have HM8 := Lib.hid (HM.out.trans hin.mod (fun _ _ h => h))
          have HO8 := Lib.hid (HO.out.mod hin.mod (fun _ _ => id))
          have Hsz8 : Hid (w1.heap.size ≤ W8.heap.size) := Nat.le_trans Hszr.out hin.mod.size
          have Hfar : Hid (∀ k, blkOf A = some k → k ≠ bx) := fun k e h => by have := (HO.out.lt k e).2; have := hin.lo; omega
          have Hbox := Lib.hid hin.box
          have HV8 : Hid (Sl W8 x.v.B x.v.m x.v.d x.v.vs) := Hx.out.2.keep HM8.out
          clear hin HX HM HO
          by_cases his' : x.v.is = false
          · have his := his'
            clear his'
            have Hev : Hid (encV x.v = [255]) := by show _ = _; unfold encV; rw [his]; rfl
            rw [his] at c0
            have hown := HO8.out.alloc (.cells #[.int .u8 255] 5)
            have hsrc := Src.one W8 (.int .u8 255) 5 rfl
            have hml : n + 1 ≤ maxLen := by unfold maxLen; omega
            have hsz9 : w1.heap.size ≤ (W8.alloc (.cells #[.int .u8 255] 5)).heap.size := by rw [World.size_alloc]; have := Hsz8.out; omega
            clear his
            go_wp2_with (at_builtin; refine wpList_app (.tmp 58) (.tmp 59) byteElem rfl rfl rfl rfl hown hsrc (by omega) hml hsz9 ?_)
            intro A' c' w' hown' hgr hat
            have Hm7 : Hid (Mod (fun _ => False) w w') := (HM8.out.alloc _).grown hgr (fun k e hk => by have := (hown.lt k e).1; have := Hsz1.out; omega)
            have hx8 := HX8.out.keep ((Mod.refl (fun _ => False) W8).alloc (.cells #[.int .u8 255] 5))
            have HX7 : Hid (x.In w' w.heap.size) := (hgr.block _ hx8.lt (fun e => by have := (hown.lt _ e.symm).1; omega)).trans hx8
            have Hsz7 : Hid (w1.heap.size ≤ w'.heap.size) := Nat.le_trans hsz9 hgr.size
            have HO7 : Hid (OwV w' w1.heap.size 5 A' (n + 1) c' ((encJ fl x (j + 1)).map bv)) := by show OwV _ _ _ _ _ _ _; rw [Hnx2.out, Hev.out, List.map_append]; exact hown'
            clear hown hgr hat hsrc hown' HX8 HM8 Hsz8 hsz9 hx8 c0 c1
            go_wp2
            go_roundw
            case rel => exact ⟨j + 1, n + 1, c', A', by omega, by go_num, rfl, HO7.out, HX7.out, Hsz7.out, Hm7.out⟩
            case measure => simp [intOf]; omega
          · have his : x.v.is = true := by simpa using his'
            clear his'
            have hm32 : (x.v.m : Int) ≤ 32 := by
              have := Hokv.out
              unfold okV noneV at this
              rw [his] at this
              simpa using this
            have Hev : Hid (encV x.v = UInt8.ofNat x.v.m :: x.v.vs) := by show _ = _; unfold encV; rw [his, if_pos rfl, HV8.out.len]
            have Hlb : Hid ((x.v.m : Int) = (((UInt8.ofNat x.v.m).toNat : Nat) : Int)) := by show _ = _; rw [UInt8.toNat_ofNat', Nat.mod_eq_of_lt (by omega)]
            rw [his] at c0
            have hown := HO8.out.alloc (.cells #[.int .u8 (x.v.m : Int)] 5)
            have hsrc := Src.one W8 (.int .u8 (x.v.m : Int)) 5 rfl
            have hml : n + 1 ≤ maxLen := by unfold maxLen; omega
            have hsz9 : w1.heap.size ≤ (W8.alloc (.cells #[.int .u8 (x.v.m : Int)] 5)).heap.size := by rw [World.size_alloc]; have := Hsz8.out; omega
            clear his
            go_wp2_with (at_builtin; refine wpList_app (.tmp 47) (.tmp 52) byteElem rfl rfl rfl rfl hown hsrc (by omega) hml hsz9 ?_)
            intro A' c' w' hown' hgr hat
            have Hm7 : Hid (Mod (fun _ => False) w w') := (HM8.out.alloc _).grown hgr (fun k e hk => by have := (hown.lt k e).1; have := Hsz1.out; omega)
            have hx8 := HX8.out.keep ((Mod.refl (fun _ => False) W8).alloc (.cells #[.int .u8 (x.v.m : Int)] 5))
            have HX7 : Hid (x.In w' w.heap.size) := (hgr.block _ hx8.lt (fun e => by have := (hown.lt _ e.symm).1; omega)).trans hx8
            have Hsz7 : Hid (w1.heap.size ≤ w'.heap.size) := Nat.le_trans hsz9 hgr.size
            have hbx : w'.heap[bx]? = some (.cells #[.bool x.v.is, .slice x.v.B x.v.m x.v.d] 45 (0, 0)) := by
              have hb := Hbox.out
              have hl := (Array.getElem?_eq_some_iff.1 hb).1
              exact (hgr.block bx (by rw [World.size_alloc]; omega) (fun e => Hfar.out bx e.symm rfl)).trans ((Below.heap_alloc W8 _ bx hl).trans hb)
            have c1' : w'.cell? ⟨bx, 1, none⟩ = some (.slice x.v.B x.v.m x.v.d) := by rw [cell_of_row _ _ _ _ _ _ hbx]; rfl
            have HV7 : Hid (Sl w' x.v.B x.v.m x.v.d x.v.vs) := Hx.out.2.keep Hm7.out
            have hsrc2 := HV7.out.src
            have hml2 : n + 1 + x.v.m ≤ maxLen := by unfold maxLen; omega
            clear hown hgr hat hsrc HX8 HM8 Hsz8 hsz9 hx8 c0 c1 hbx
            go_wp2_with (at_builtin; refine wpList_app (.tmp 54) (.tmp 56) byteElem rfl rfl rfl rfl hown' hsrc2 (by omega) hml2 Hsz7.out ?_)
            intro A2 c2 w9 hown2 hgr2 hat2
            have Hm9 : Hid (Mod (fun _ => False) w w9) := Hm7.out.grown hgr2 (fun k e hk => by have := (hown'.lt k e).1; have := Hsz1.out; omega)
            have HX9 : Hid (x.In w9 w.heap.size) := (hgr2.block _ HX7.out.lt (fun e => by have := (hown'.lt _ e.symm).1; omega)).trans HX7.out
            have Hsz9 : Hid (w1.heap.size ≤ w9.heap.size) := Nat.le_trans Hsz7.out hgr2.size
            have HO9 : Hid (OwV w9 w1.heap.size 5 A2 (n + 1 + x.v.m) c2 ((encJ fl x (j + 1)).map bv)) := by
              show OwV _ _ _ _ _ _ _
              rw [Hnx2.out, Hev.out, List.map_append, List.map_cons]
              rw [Hlb.out] at hown2
              exact hown2
            clear hown' hown2 hgr2 hat2 hsrc2 HX7 Hm7 Hsz7 c1'
            go_wp2
            go_roundw
            case rel => exact ⟨j + 1, n + 1 + x.v.m, c2, A2, by omega, by go_num, rfl, HO9.out, HX9.out, Hsz9.out, Hm9.out⟩
            case measure => simp [intOf]; omega
    · have Hj : Hid (j = fl.length) := by show _ = _; rw [← Hsz.out]; omega
      have Hl : Hid (n = (encB x).length) := by show _ = _; rw [HE.out, ← Hj.out]; have := HO.out.len; rw [List.length_map] at this; exact this.symm
      have HR : Hid (OwV wr w.heap.size 5 A n c ((encB x).map bv)) := by show OwV _ _ _ _ _ _ _; rw [HE.out, ← Hj.out]; exact HO.out.rebase (fun k e => Nat.le_trans Hsz1.out (HO.out.lt k e).1)
      go_wp2
      go_ret2
      refine ⟨A, c, by rw [← Hl.out]; rfl, ?_, HM.out⟩
      rw [← Hl.out]
      exact HR.out
end Go.Proofs.YtnbamljaiahmdaaGreat
