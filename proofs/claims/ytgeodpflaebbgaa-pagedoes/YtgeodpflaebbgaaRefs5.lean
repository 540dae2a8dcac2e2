/-
  The document's answer for layer 5: Same, Used, Vals, Get.
-/
import Derived.Test.YtgeodpflaebbgaaLive5
import Derived.Test.YtgeodpflaebbgaaSame5
namespace Go.Proofs.Ytgeodpflaebbgaa
open Go Go.RowKit

/-- A slice of records, wherever it lies. -/
def Kv (w : World) (A : Option Addr) (n c : Nat) (rs : List Rec) : Prop := ∃ L, Pl w A n c L ∧ Vals w (fun _ => True) L rs
theorem Vals.nth {w : World} {Q : Nat → Prop} : ∀ {L : List Pr} {rs : List Rec} (_ : Vals w Q L rs) (j : Nat) (r : Rec), rs[j]? = some r → ∃ z, L[j]? = some z ∧ z.1 = r.1 ∧ Sl w z.2.a z.2.n z.2.c r.2 ∧ ∀ k, blkOf z.2.a = some k → 0 < z.2.n → Q k
  | [], [], _, j, r, h => by simp at h
  | e :: L, s :: rs, hv, j, r, h => by
    cases j with
    | zero => simp at h; subst h; exact ⟨e, rfl, hv.1⟩
    | succ j => exact Vals.nth hv.2 j r (by simpa using h)
section
variable {w w' : World} {A : Option Addr} {n c : Nat} {rs : List Rec}
theorem Kv.len (h : Kv w A n c rs) : rs.length = n := by obtain ⟨L, h1, h2⟩ := h; rw [← h2.len, h1.len]
theorem Kv.cap (h : Kv w A n c rs) : n ≤ c := by obtain ⟨L, h1, _⟩ := h; exact h1.cap
theorem Kv.keep (h : Kv w A n c rs) (hm : Mod (fun _ => False) w w') : Kv w' A n c rs := by obtain ⟨L, h1, h2⟩ := h; exact ⟨L, h1.keep hm, h2.keep hm⟩
theorem Kv.at_ (h : Kv w A n c rs) {j : Nat} {r : Rec} (hr : rs[j]? = some r) : ∃ b o, A = some ⟨b, o, none⟩ ∧ ∃ (B : Option Addr) (m d : Nat), w.cell? ⟨b, o + j * 2, none⟩ = some (.int .i64 r.1) ∧ w.cell? ⟨b, o + j * 2 + 1, none⟩ = some (.slice B m d) ∧ Sl w B m d r.2 := by
  have hl := h.len
  obtain ⟨L, h1, h2⟩ := h
  have hj := (List.getElem?_eq_some_iff.1 hr).1
  obtain ⟨z, hz, e, hs, _⟩ := h2.nth j r hr
  obtain ⟨b, o, rfl, hc⟩ := h1.2.2 (by omega)
  obtain ⟨c0, c1⟩ := hc j z hz
  exact ⟨b, o, rfl, z.2.a, z.2.n, z.2.c, by rw [← e]; exact c0, c1, hs⟩
theorem KvAt.kv {w0 : World} {L : List Pr} (h : KvAt w0 w A n c L rs) : Kv w A n c rs := ⟨L, h.own.pl, h.vals.mono (fun _ _ => trivial)⟩
end

theorem same_quiet {w : World} {A B : Option Addr} {n m c d : Nat} {xs ys : List UInt8} (h : Sl w A n c xs) (k : Sl w B m d ys) (hc : n ≤ 140737488355328) (hd : m ≤ 140737488355328) (q : Nat) :
    Calls Try.prog 28 #[.slice A n c, .slice B m d] (w.drewN q) fun e w' => e = .returned (.bool (eqB xs ys)) ∧ ∃ m, w' = w.drewN m := by
  refine (same_ok (w.drewN q) A B n m c d xs ys (Sl.drewN h q) (Sl.drewN k q) hc hd).mono ?_
  rintro e w' ⟨rfl, p, rfl⟩
  exact ⟨rfl, q + p, World.drewN_drewN _ _ _⟩

set_option maxRecDepth 100000 in
set_option maxHeartbeats 2000000 in
theorem ksame_ok (w : World) (A B : Option Addr) (n c d : Nat) (rs : List Rec) (h : Kv w A n c rs) (k : Kv w B n d rs) (hs : ∀ r ∈ rs, r.2.length ≤ 100) (hn : n ≤ 1000) :
    Calls Try.prog 25 #[.slice A n c, .slice B n d] w fun e w' => e = .returned (.bool true) ∧ Mod (fun _ => False) w w' := by
  have hl := h.len
  have H := Lib.hid h
  have K := Lib.hid k
  have Hs := Lib.hid hs
  clear h k hs
  go_enter Try.func25, Try.ntmps25
  go_wp2
  go_loopw [5] (fun i wr => ∃ (j : Nat), j ≤ n ∧ i = .int .i64 j ∧ Mod (fun _ => False) w wr) (fun i _ => n - (intOf i).toNat)
  case atStart => exact ⟨0, by omega, rfl, Mod.refl _ _⟩
  case round =>
    obtain ⟨j, hj, rfl, hm⟩ := hrel
    have Hm := Lib.hid hm
    by_cases hlt : j < n
    · obtain ⟨r, hr⟩ : ∃ r, rs[j]? = some r := ⟨_, List.getElem?_eq_getElem (by omega)⟩
      obtain ⟨b, o, rfl, A1, m1, d1, a0, a1, hs1⟩ := (H.out.keep hm).at_ hr
      obtain ⟨b', o', rfl, B1, m2, d2, b0, b1, hs2⟩ := (K.out.keep hm).at_ hr
      have hrl := Hs.out r (List.mem_of_getElem? hr)
      have Q := Lib.hid (same_quiet hs1 hs2 (by rw [← hs1.len]; omega) (by rw [← hs2.len]; omega))
      rw [eqB_self] at Q
      clear hm hs1 hs2 hr hrl
      go_wp2
      go_quiet ((go_at_call 28; exact Q.out _))
      have a0' : (wr.drewN nq).cell? ⟨b, o + j * 2, none⟩ = some (.int .i64 r.1) := a0
      have b0' : (wr.drewN nq).cell? ⟨b', o' + j * 2, none⟩ = some (.int .i64 r.1) := b0
      have Hm' := Lib.hid (Hm.out.drewN nq)
      clear a0 b0 a1 b1 Q
      generalize wr.drewN nq = wq at *
      go_wp2
      go_quiet (fail)
      have Hm2 := Lib.hid (Hm'.out.drewN nq)
      go_wp2
      go_roundw
      case rel => exact ⟨j + 1, by omega, by go_num, Hm2.out⟩
      case measure => simp [intOf]; omega
    · obtain rfl : j = n := by omega
      clear hm
      go_wp2
      go_ret
      exact ⟨rfl, Hm.out⟩

theorem usedL_take {rs : List Rec} {j : Nat} {r : Rec} (h : rs[j]? = some r) : usedL (rs.take (j + 1)) = usedL (rs.take j) + 4 + r.2.length := by
  obtain ⟨hj, e⟩ := List.getElem?_eq_some_iff.1 h
  rw [List.take_succ_eq_append_getElem hj, e, usedL_append]
  simp only [usedL]
  omega
theorem usedL_small {rs : List Rec} (h : ∀ r ∈ rs, r.2.length ≤ 100) : usedL rs ≤ rs.length * 104 := by
  induction rs with
  | nil => simp [usedL]
  | cons r rs ih =>
    have h1 := h r (List.mem_cons_self ..)
    have h2 := ih (fun s hs => h s (List.mem_cons_of_mem _ hs))
    simp only [usedL, List.length_cons]
    omega
set_option maxRecDepth 100000 in
set_option maxHeartbeats 1000000 in
theorem rused_ok (w : World) (A : Option Addr) (n c : Nat) (rs : List Rec) (h : Kv w A n c rs) (hs : ∀ r ∈ rs, r.2.length ≤ 100) (hn : n ≤ 1000) :
    Calls Try.prog 26 #[.slice A n c] w fun e w' => e = .returned (.int .i64 (usedL rs)) ∧ w' = w := by
  have hl := h.len
  have H := Lib.hid h
  have Hs := Lib.hid hs
  clear h hs
  go_enter Try.func26, Try.ntmps26
  go_wp2
  go_loopw [3, 4] (fun s i wr => ∃ (j : Nat), j ≤ n ∧ i = .int .i64 j ∧ s = .int .i64 (usedL (rs.take j)) ∧ wr = w) (fun _ i _ => n - (intOf i).toNat)
  case atStart => exact ⟨0, by omega, rfl, rfl, rfl⟩
  case round =>
    obtain ⟨j, hj, rfl, rfl, rfl⟩ := hrel
    by_cases hlt : j < n
    · obtain ⟨r, hr⟩ : ∃ r, rs[j]? = some r := ⟨_, List.getElem?_eq_getElem (by omega)⟩
      obtain ⟨b, o, rfl, A1, m1, d1, a0, a1, hs1⟩ := H.out.at_ hr
      have hu : (usedL (rs.take j) : Int) ≤ 104000 := by
        have h1 := usedL_small (rs := rs.take j) (fun r hr => Hs.out r (List.mem_of_mem_take hr))
        have h2 : (rs.take j).length ≤ j := List.length_take_le _ _
        have h3 : (rs.take j).length * 104 ≤ 1000 * 104 := Nat.mul_le_mul_right _ (by omega)
        omega
      have Hsn := Lib.hid (usedL_take hr)
      have hm1 : m1 ≤ 100 := by rw [← hs1.len]; exact Hs.out r (List.mem_of_getElem? hr)
      have Hm1 := Lib.hid hs1.len
      clear hs1 hr
      generalize usedL (rs.take j) = U at *
      go_wp2
      go_roundw
      case rel => exact ⟨j + 1, by omega, by go_num, by rw [Hsn.out, Hm1.out]; simp, trivial⟩
      case measure => simp [intOf]; omega
    · obtain rfl : j = n := by omega
      rw [List.take_of_length_le (by omega)]
      go_wp2
      go_ret
      exact ⟨rfl, rfl⟩

set_option maxRecDepth 100000 in
theorem vals_ok (w : World) (A B : Option Addr) (n m c d : Nat) (xs ys : List UInt8) (p q : Bool) (h : Sl w A n c xs) (k : Sl w B m d ys) (hc : n ≤ 140737488355328) (hd : m ≤ 140737488355328) :
    Calls Try.prog 27 #[.agg #[.bool p, .slice A n c], .agg #[.bool q, .slice B m d]] w fun e w' => e = .returned (.bool (eqB xs ys && (p == q))) ∧ Mod (fun _ => False) w w' := by
  have hm : Mod (fun _ => False) w ((w.alloc (.cells #[.bool p, .slice A n c] 34)).alloc (.cells #[.bool q, .slice B m d] 34)) := ((Mod.refl _ w).alloc _).alloc _
  have Hsame := Lib.hid (same_ok _ A B n m c d xs ys (h.mod hm (fun _ _ _ => id)) (k.mod hm (fun _ _ _ => id)) hc hd)
  have Hm := Lib.hid hm
  have hb1 : ((w.alloc (.cells #[.bool p, .slice A n c] 34)).alloc (.cells #[.bool q, .slice B m d] 34)).heap[w.heap.size]? = some (.cells #[.bool p, .slice A n c] 34 (0, 0)) :=
    (Below.heap_alloc _ _ _ (by rw [World.size_alloc]; omega)).trans (heap_alloc_new w _)
  have hb2 : ((w.alloc (.cells #[.bool p, .slice A n c] 34)).alloc (.cells #[.bool q, .slice B m d] 34)).heap[w.heap.size + 1]? = some (.cells #[.bool q, .slice B m d] 34 (0, 0)) := by
    have := heap_alloc_new (w.alloc (.cells #[.bool p, .slice A n c] 34)) (.cells #[.bool q, .slice B m d] 34)
    rw [World.size_alloc] at this
    exact this
  have Hb1 := Lib.hid hb1
  have Hb2 := Lib.hid hb2
  clear h k hm hb1 hb2
  go_enter Try.func27, Try.ntmps27
  go_wp2_with fail
  obtain ⟨w2, hw2⟩ : ∃ w2, w2 = (w.alloc (.cells #[.bool p, .slice A n c] 34)).alloc (.cells #[.bool q, .slice B m d] 34) := ⟨_, rfl⟩
  rw [← hw2] at Hsame Hm Hb1 Hb2 ⊢
  clear hw2
  refine Hsame.out.mono ?_
  rintro e w3 ⟨rfl, r, rfl⟩
  have p0 : (w2.drewN r).cell? ⟨w.heap.size, 0, none⟩ = some (.bool p) := by show w2.cell? _ = _; rw [cell_of_row _ _ _ _ _ _ Hb1.out]; rfl
  have q0 : (w2.drewN r).cell? ⟨w.heap.size + 1, 0, none⟩ = some (.bool q) := by show w2.cell? _ = _; rw [cell_of_row _ _ _ _ _ _ Hb2.out]; rfl
  have Hm3 := Lib.hid (Hm.out.drewN r)
  generalize w2.drewN r = w3 at *
  cases heq : eqB xs ys with
  | true =>
    have Heq := Lib.hid heq
    clear heq
    go_wp2
    go_ret
    exact ⟨by rw [Heq.out, Bool.true_and]; rfl, Hm3.out⟩
  | false =>
    have Heq := Lib.hid heq
    clear heq
    go_wp2
    go_ret
    exact ⟨by rw [Heq.out]; rfl, Hm3.out⟩
end Go.Proofs.Ytgeodpflaebbgaa
