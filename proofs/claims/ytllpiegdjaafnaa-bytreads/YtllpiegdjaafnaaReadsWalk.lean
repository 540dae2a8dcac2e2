/-
  What a call of the statement BytReads does: it answers true, and turns nothing that was there.
-/
import Derived.Test.YtllpiegdjaafnaaRef2
namespace Go.Proofs.Ytllpiegdjaafnaa
open Go Go.RowKit

/-- Does a Take find its bytes? -/
def takeB (xs : List UInt8) : Bool := decide (1 + (xs.getD 0 0).toNat ≤ xs.length)

set_option maxRecDepth 100000 in
set_option maxHeartbeats 1600000 in
theorem reads_walk (A : Option Addr) (n c : Nat) (xs : List UInt8) (B : Option Addr) (m d : Nat) (zs : List Int) (w : World) (h : Sl w A n c xs) (hn : n ≤ 140737488355328)
    (hzl : zs.length = m) (hz : 0 < m → ∃ b o, B = some ⟨b, o, none⟩ ∧ ∀ j, j < m → w.cell? ⟨b, o + j, none⟩ = some (.int .i64 (zs.getD j 0))) :
    Calls Try.prog 4 #[.slice A n c, .slice B m d] w fun e w' => e = .returned (.bool true) ∧ Below w.heap.size w w' := by
  have Hzl := Lib.hid hzl
  have Hz := Lib.hid hz
  clear hzl hz
  go_enter Try.func4, Try.ntmps4
  go_wp2_with fail
  refine (awake_ok _).mono ?_
  rintro e w1 ⟨rfl, hm1⟩
  have h1 : Sl w1 A n c xs := h.mod hm1 (fun _ _ _ => id)
  have hM1 : Mod (fun k => w.heap.size ≤ k) w w1 := hm1.mono (fun _ _ h => h.elim)
  have hs1 := hM1.size
  clear hm1
  go_wp2_with fail
  refine (newReader_ok _ _ _ _ _ h1 hn).mono ?_
  rintro e w2 ⟨rfl, hr2, hz2, hm2⟩
  have h2 : Sl w2 A n c xs := h1.mod hm2 (fun _ _ _ => id)
  have hM2 : Mod (fun k => w.heap.size ≤ k) w w2 := hM1.trans hm2 (fun _ _ h => h.elim)
  have hMs := hM2.size
  have hg1 : w.heap.size ≤ w1.heap.size + 1 := by omega
  have hg2 : w1.heap.size + 1 < w2.heap.size := by omega
  clear hm2 hM1 h1 hz2
  by_cases hbig : 2000 < n
  · have hb' : (2000 : Int) < n := by omega
    go_wp2
    go_ret
    exact ⟨rfl, hM2.below (Nat.le_refl _) (fun _ h => by omega)⟩
  by_cases hbig2 : 100 < m
  · have hb' : ¬ (2000 : Int) < n := by omega
    have hb2' : (100 : Int) < m := by omega
    go_wp2
    go_ret
    exact ⟨rfl, hM2.below (Nat.le_refl _) (fun _ h => by omega)⟩
  have hb' : ¬ (2000 : Int) < n := by omega
  have hb2' : ¬ (100 : Int) < m := by omega
  have hsrc := h2.src
  have hnil := OwV.nil w2 w2.heap.size 5
  have hml : 0 + n ≤ maxLen := by unfold maxLen; omega
  go_wp2_with (at_builtin; refine wpList_app (.const (.slice none 0 0)) (.tmp 44) byteElem rfl rfl rfl rfl hnil hsrc (by omega) hml (Nat.le_refl _) ?_)
  intro Al cl w3 hol hgl _
  have hol : OwV w3 w2.heap.size 5 Al n cl (xs.map bv) := by simpa using hol
  have hm3 : Mod (fun _ => False) w2 w3 := (Mod.refl _ w2).grown hgl (fun k e _ => by simp [blkOf] at e)
  have hr3 := hr2.mod hm3 id (fun _ _ _ => id)
  have hM3 : Mod (fun k => w.heap.size ≤ k) w w3 := hM2.trans hm3 (fun _ _ h => h.elim)
  have hlcap : cl ≤ maxLen := by
    rcases hol.2 with ⟨hv, _⟩ | ⟨g, cap, cur, hv, _, _, _, hcm, _⟩
    · injection hv with _ _ e; omega
    · injection hv with _ _ e; omega
  have hsl3 := hol.sl
  have hAl : ∀ k, blkOf Al = some k → w2.heap.size ≤ k := fun k e => (hol.lt k e).1
  try rw [Nat.zero_add]
  have hcm : n ≤ maxLen := by unfold maxLen; omega
  generalize w1.heap.size + 1 = g at *
  clear hsrc hnil hgl hol hm3 hr2 h2 hM2 hbig hbig2
  go_wp2
  go_loopw [7, 8] (fun left i wr => ∃ (j p q1 q2 : Nat) (L R : Option Addr) (ys : List UInt8), j ≤ m ∧ i = .int .i64 j ∧ left = .slice L p q1 ∧ Sl wr L p q1 ys ∧ (∀ k, blkOf L = some k → w2.heap.size ≤ k) ∧ Rd wr g R p q2 ys ∧ p ≤ 2000 ∧ q1 ≤ maxLen ∧ q2 ≤ maxLen ∧ Mod (fun k => w.heap.size ≤ k) w wr) (fun _ i _ => m - (intOf i).toNat)
  case atStart => exact ⟨0, n, cl, n, Al, _, xs, by omega, rfl, rfl, hsl3, hAl, hr3, by omega, hlcap, hcm, hM3⟩
  case round =>
    obtain ⟨j, p, q1, q2, L, R, ys, hj, rfl, rfl, hsl, hL, hr, hp, hq1, hq2, hM⟩ := hrel
    have hMs' := hM.size
    by_cases hlt : j < m
    · obtain ⟨b, o, rfl, hcell⟩ := Hz.out (by omega)
      have hcj : wr.cell? ⟨b, o + j, none⟩ = some (.int .i64 (zs.getD j 0)) := by
        have hb : b < w.heap.size := World.block_lt_of_cell? w _ (hcell j hlt)
        exact ((hM.below (Nat.le_refl _) (fun _ h => by omega)).cell (p := ⟨b, o + j, none⟩) hb).trans (hcell j hlt)
      have hbw : b < w.heap.size := World.block_lt_of_cell? w _ (hcell j hlt)
      generalize zs.getD j 0 = z at *
      clear hcell
      by_cases hz0 : z = 0
      · subst hz0
        have hpl := hr.2.1.len
        by_cases ht : takeB ys = false
        · have hsh : p < 1 + (ys.getD 0 0).toNat := by
            simp only [takeB, decide_eq_false_iff_not] at ht; omega
          have Hsh := Lib.hid hsh
          clear ht hsh hpl
          go_wp2_with fail
          refine (take_short _ _ _ _ _ _ hr Hsh.out).mono ?_
          rintro e w' ⟨rfl, rfl⟩
          go_wp2_with fail
          refine (refTake_short _ _ _ _ _ hsl Hsh.out).mono ?_
          rintro e w' ⟨rfl, rfl⟩
          go_wp2_with fail
          refine (same_ok _ _ _ _ _ _ _ _ _ (Sl.none_ _ _ _) (Sl.none_ _ _ _) (by omega) (by omega)).mono ?_
          rintro e w5 ⟨rfl, q, rfl⟩
          rw [eqB_self]
          have hM5 : Mod (fun k => w.heap.size ≤ k) w (wr.drewN q) := hM.drewN q
          have hr5 : Rd (wr.drewN q) g R p q2 ys := hr
          have hsl5 : Sl (wr.drewN q) L p q1 ys := hsl
          clear hM hr hsl hcj
          generalize wr.drewN q = w6 at *
          go_wp2_with fail
          refine (left_ok _ _ _ _ _ _ hr5).mono ?_
          rintro e w' ⟨rfl, rfl⟩
          go_wp2
          go_roundw
          case rel => exact ⟨j + 1, p, q1, q2, L, R, ys, by omega, by go_num, rfl, hsl5, hL, hr5, hp, hq1, hq2, hM5⟩
          case measure => simp [intOf]; omega
        · have hok : 1 + (ys.getD 0 0).toNat ≤ p := by
            simp only [takeB, decide_eq_false_iff_not, Decidable.not_not] at ht; omega
          obtain ⟨x, hx⟩ : ∃ x : Nat, (ys.getD 0 0).toNat = x := ⟨_, rfl⟩
          rw [hx] at hok
          have Hx := Lib.hid hx
          have hlx : ((ys.drop 1).take x).length = x := by simp; omega
          have Hlx := Lib.hid hlx
          have hrg := hr.lt
          clear ht hx hpl hlx
          go_wp2_with fail
          refine (take_ok _ _ _ _ _ _ hr hq2 (by omega) x Hx.out hok).mono ?_
          rintro e w5 ⟨rfl, w4, hf4, R', hr5, _, hm5, _⟩
          have hm4 := hf4.2.2
          have hx4 := hf4.sl Hlx.out
          have hx5 : Sl w5 (some ⟨wr.heap.size, 0, none⟩) x x ((ys.drop 1).take x) := hx4.mod hm5 (fun k e _ e2 => by simp [blkOf] at e; omega)
          have hsl5 : Sl w5 L p q1 ys := (hsl.mod hm4 (fun _ _ _ => id)).mod hm5 (fun k e _ e2 => by have := hL k e; omega)
          have hM5 : Mod (fun k => w.heap.size ≤ k) w w5 := (hM.trans hm4 (fun _ _ h => h.elim)).trans hm5 (fun k _ e => by omega)
          clear hf4 hm4 hx4 hm5 hr hsl hM hcj
          go_wp2_with fail
          refine (refTake_ok _ _ _ _ _ hsl5 hq1 (by omega) x Hx.out hok).mono ?_
          rintro e w6 ⟨Ay, cy, L', rfl, ⟨hy6, hm6⟩, ⟨htl, hbl⟩⟩
          have hx6 := hx5.mod hm6 (fun _ _ _ => id)
          have hsl6 := htl.mod hm6 (fun _ _ _ => id)
          have hr6 := hr5.mod hm6 id (fun _ _ _ => id)
          have hM6 : Mod (fun k => w.heap.size ≤ k) w w6 := hM5.trans hm6 (fun _ _ h => h.elim)
          have hysl := hy6.sl
          have hL6 : ∀ k, blkOf L' = some k → w2.heap.size ≤ k := fun k e => hL k (hbl ▸ e)
          clear hx5 hsl5 hr5 hM5 htl hbl hy6 hm6
          go_wp2_with fail
          refine (same_ok _ _ _ _ _ _ _ _ _ hx6 hysl (by omega) (by omega)).mono ?_
          rintro e w7 ⟨rfl, q, rfl⟩
          rw [eqB_self]
          have hM7 : Mod (fun k => w.heap.size ≤ k) w (w6.drewN q) := hM6.drewN q
          have hr7 : Rd (w6.drewN q) g R' (p - (1 + x)) (q2 - (1 + x)) (ys.drop (1 + x)) := hr6
          have hsl7 : Sl (w6.drewN q) L' (p - (1 + x)) (q1 - (1 + x)) (ys.drop (1 + x)) := hsl6
          clear hM6 hr6 hsl6 hx6 hysl
          generalize w6.drewN q = w8 at *
          go_wp2_with fail
          refine (left_ok _ _ _ _ _ _ hr7).mono ?_
          rintro e w' ⟨rfl, rfl⟩
          go_wp2
          go_roundw
          case rel => exact ⟨j + 1, _, _, _, L', R', _, by omega, by go_num, rfl, hsl7, hL6, hr7, by omega, by omega, by omega, hM7⟩
          case measure => simp [intOf]; omega
      · have hz0' : (z == 0) = false := by simpa using hz0
        clear hz0
        by_cases hk : widthOk z = false
        · have Hk := Lib.hid hk
          clear hk
          go_wp2_with fail
          refine (get_arg _ _ _ Hk.out).mono ?_
          rintro e w' ⟨rfl, rfl⟩
          go_wp2_with fail
          refine (refGet_arg _ _ _ _ _ Hk.out).mono ?_
          rintro e w' ⟨rfl, rfl⟩
          go_wp2_with fail
          refine (left_ok _ _ _ _ _ _ hr).mono ?_
          rintro e w' ⟨rfl, rfl⟩
          go_wp2
          go_roundw
          case rel => exact ⟨j + 1, p, q1, q2, L, R, ys, by omega, by go_num, rfl, hsl, hL, hr, hp, hq1, hq2, hM⟩
          case measure => simp [intOf]; omega
        · have hk' : widthOk z = true := by simpa using hk
          have Hk := Lib.hid hk'
          have hzb : 1 ≤ z ∧ z ≤ 4 := by rcases widthOk_cases hk' with rfl | rfl | rfl <;> omega
          obtain ⟨hzb0, hzb1⟩ := hzb
          clear hk hk'
          by_cases hsh : (p : Int) < z
          · go_wp2_with fail
            refine (get_short _ _ _ _ _ _ hr _ Hk.out hsh).mono ?_
            rintro e w' ⟨rfl, rfl⟩
            go_wp2_with fail
            refine (refGet_short _ _ _ _ _ Hk.out hsh).mono ?_
            rintro e w' ⟨rfl, rfl⟩
            go_wp2_with fail
            refine (left_ok _ _ _ _ _ _ hr).mono ?_
            rintro e w' ⟨rfl, rfl⟩
            go_wp2
            go_roundw
            case rel => exact ⟨j + 1, p, q1, q2, L, R, ys, by omega, by go_num, rfl, hsl, hL, hr, hp, hq1, hq2, hM⟩
            case measure => simp [intOf]; omega
          · have hzp : z ≤ p := by omega
            go_wp2_with fail
            refine (get_ok _ _ _ _ _ _ hr hq2 _ Hk.out hzp).mono ?_
            rintro e w5 ⟨rfl, R', hr5, _, hm5, _⟩
            have hsl5 : Sl w5 L p q1 ys := hsl.mod hm5 (fun k e _ e2 => by have := hL k e; omega)
            have hM5 : Mod (fun k => w.heap.size ≤ k) w w5 := hM.trans hm5 (fun k _ e => by omega)
            have hcj5 : w5.cell? ⟨b, o + j, none⟩ = some (.int .i64 z) := (World.cell?_of_block (hm5.block b (by omega) (by omega))).trans hcj
            clear hm5 hr hsl hM hcj
            obtain ⟨u, hu⟩ : ∃ u : Int, (unle (ys.take z.toNat) : Int) = u := ⟨_, rfl⟩
            rw [hu]
            have Hu := Lib.hid hu
            clear hu
            go_wp2_with fail
            refine (refGet_ok _ _ _ _ _ hsl5 hq1 _ Hk.out hzp).mono ?_
            rintro e w6 ⟨L', q, rfl, ⟨htl, hbl⟩, rfl⟩
            rw [Hu.out]
            have hM7 : Mod (fun k => w.heap.size ≤ k) w (w5.drewN q) := hM5.drewN q
            have hr7 : Rd (w5.drewN q) g R' (p - z.toNat) (q2 - z.toNat) (ys.drop z.toNat) := hr5
            have hsl7 : Sl (w5.drewN q) L' (p - z.toNat) (q1 - z.toNat) (ys.drop z.toNat) := htl
            have hL6 : ∀ k, blkOf L' = some k → w2.heap.size ≤ k := fun k e => hL k (hbl ▸ e)
            clear hM5 hr5 htl hsl5 hcj5 hbl
            generalize w5.drewN q = w8 at *
            go_wp2_with fail
            refine (left_ok _ _ _ _ _ _ hr7).mono ?_
            rintro e w' ⟨rfl, rfl⟩
            go_wp2
            go_roundw
            case rel => exact ⟨j + 1, _, _, _, L', R', _, by omega, by go_num, rfl, hsl7, hL6, hr7, by omega, by omega, by omega, hM7⟩
            case measure => simp [intOf]; omega
    · go_wp2
      go_ret
      exact ⟨rfl, hM.below (Nat.le_refl _) (fun _ h => by omega)⟩
end Go.Proofs.Ytllpiegdjaafnaa
