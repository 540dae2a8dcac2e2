/-
  The laws: sizes, Same and Changes in the words of Kp.
-/
import Derived.Test.YtidcmolkolcliaaX16
import Derived.Test.YtidcmolkolcliaaX13
import Derived.Test.YtidcmolkolcliaaX12
import Derived.Test.YtidcmolkolcliaaX11
namespace Go.Proofs.Ytidcmolkolcliaa
open Go Go.RowKit

theorem TxD.At.kp0 {w : World} {x : TxD} (h : x.At w) : Kp w.heap.size w x := by
  refine ⟨h, fun k hk hp => .inl ?_⟩
  obtain ⟨b, o, hB, hlt⟩ := h.S.lt hp
  rw [hB] at hk
  obtain rfl : b = k := by simpa [blkOf] using hk
  exact hlt
def SmC (c : Cp) : Prop := c.o.2.length ≤ 1000 ∧ c.v.2.length ≤ 1000
def SmT (t : Tp) : Prop := t.L.length ≤ 1000 ∧ t.S.length ≤ 1000 ∧ ∀ c ∈ t.L, SmC c
theorem smC_of {c : Cp} (h : smallC c) : SmC c := by have := h.1; have := h.2; exact ⟨by omega, by omega⟩
theorem SmT.no : SmT noT := ⟨by decide, by decide, by simp [noT]⟩
theorem SmT.lt {t : Tp} (h : ltB t = true) : SmT t := by
  obtain ⟨h1, h2, _⟩ := ltB_iff.1 h
  exact ⟨by omega, by omega, fun c hc => smC_of ((ltB_small h).2 c hc)⟩
theorem SmT.may {t : Tp} (h : mayT t = true) : SmT t := by
  have h1 := may_len h
  refine ⟨by omega, by omega, fun c hc => ?_⟩
  have := may_small h c hc
  exact ⟨by omega, by omega⟩
theorem SmT.ite {p : Prop} [Decidable p] {t : Tp} (h : p → SmT t) : SmT (if p then t else noT) := by
  split
  · rename_i hp; exact h hp
  · exact SmT.no
/-- Whatever is noted, undone, saved without an error may be. -/
theorem noteE_may {t : Tp} {c : Cp} (h : noteE t c = 0) : mayT t = true ∧ folB t.L c = true ∧ t.L.length < 6 := by
  unfold noteE at h
  split at h
  · rename_i hb
    rw [Bool.and_eq_true] at hb
    have h6 := (may_len hb.1).1
    split at h
    · cases h
    · exact ⟨hb.1, hb.2, by omega⟩
  · cases h
theorem undoE_may {t : Tp} (h : undoE t = 0) : mayT t = true ∧ 0 < t.L.length := by
  unfold undoE at h
  split at h
  · rename_i hb
    split at h
    · cases h
    · exact ⟨hb, by omega⟩
  · cases h
theorem saveE_may {t : Tp} (h : saveE t = 0) : mayT t = true ∧ t.S.length < 4 := by
  unfold saveE at h
  split at h
  · rename_i hb
    have h6 := (may_len hb).2
    split at h
    · cases h
    · exact ⟨hb, by omega⟩
  · cases h
theorem SmT.note {t : Tp} {c : Cp} (h : noteE t c = 0) : SmT (noteT t c) := by
  obtain ⟨h1, h2, h3⟩ := noteE_may h
  have h4 := may_len h1
  refine ⟨by simp [noteT]; omega, by simp [noteT]; omega, fun d hd => ?_⟩
  rcases List.mem_append.1 hd with hd | hd
  · have := may_small h1 d hd
    exact ⟨by omega, by omega⟩
  · obtain rfl : d = c := by simpa using hd
    have := fol_small h2
    exact ⟨by omega, by omega⟩
theorem SmT.undo {t : Tp} (h : undoE t = 0) : SmT (undoT t) := by
  obtain ⟨h1, _⟩ := undoE_may h
  have h4 := may_len h1
  refine ⟨by simp [undoT]; omega, Nat.le_trans (List.length_filter_le _ _) (by omega), fun d hd => ?_⟩
  have := may_small h1 d (List.mem_of_mem_take hd)
  exact ⟨by omega, by omega⟩
theorem SmT.save {t : Tp} (h : saveE t = 0) : SmT (saveT t) := by
  obtain ⟨h1, _⟩ := saveE_may h
  have h4 := may_len h1
  refine ⟨by simp [saveT]; omega, by simp [saveT]; omega, fun d hd => ?_⟩
  have := may_small h1 d hd
  exact ⟨by omega, by omega⟩
theorem SmC.undo {t : Tp} (h : undoE t = 0) : SmC (undoC t) := by
  obtain ⟨h1, h2⟩ := undoE_may h
  have := may_small h1 _ (List.mem_of_getElem? (atC_at (L := t.L) (i := t.L.length - 1) (by omega)))
  exact ⟨Nat.le_trans this.1 (by omega), Nat.le_trans this.2 (by omega)⟩
theorem SmC.ite {p : Prop} [Decidable p] {c : Cp} (h : p → SmC c) : SmC (if p then c else noC) := by
  split
  · rename_i hp; exact h hp
  · exact ⟨by decide, by decide⟩
section
variable {b0 : Nat} {w : World} {x y : TxD}
theorem TxD.At.sm (h : x.At w) (hs : SmT x.p) : x.n ≤ 1000 ∧ x.m ≤ 1000 ∧ ∀ z ∈ x.L, z.o.m ≤ 1000 ∧ z.v.m ≤ 1000 := by
  obtain ⟨h1, h2, h3⟩ := hs
  rw [h.nL] at h1
  rw [h.nS] at h2
  refine ⟨h1, h2, fun z hz => ?_⟩
  have h4 := h3 z.p (List.mem_map_of_mem hz)
  have h5 := (h.L.ats z hz).o.len
  have h6 := (h.L.ats z hz).v.len
  have h7 : z.o.vs.length ≤ 1000 := h4.1
  have h8 : z.v.vs.length ≤ 1000 := h4.2
  omega
theorem ksame (hx : Kp b0 w x) (hy : Kp b0 w y) (hp : y.p = x.p) (hs : SmT x.p) :
    Calls Try.prog 20 #[.agg #[.int .i64 x.id, .int .i64 x.st, .int .i64 x.f, .int .i64 x.l, .slice x.A x.n x.c, .slice x.B x.m x.d], .agg #[.int .i64 y.id, .int .i64 y.st, .int .i64 y.f, .int .i64 y.l, .slice y.A y.n y.c, .slice y.B y.m y.d]] w fun e w' => e = .returned (.bool true) ∧ Mod (fun _ => False) w w' := by
  have h := hx.at_.sm hs
  exact rsame_ok w x y hx.at_ hy.at_ hp h.2.2 h.1 h.2.1
theorem kchanges {c d : ChD} (hx : c.At w) (hy : d.At w) (hp : d.p = c.p) (hs : SmC c.p) :
    Calls Try.prog 21 #[.agg #[.int .i64 c.lsn, .int .i64 c.page, .int .i64 c.key, .bool c.o.is, .slice c.o.B c.o.m c.o.d, .bool c.v.is, .slice c.v.B c.v.m c.v.d], .agg #[.int .i64 d.lsn, .int .i64 d.page, .int .i64 d.key, .bool d.o.is, .slice d.o.B d.o.m d.o.d, .bool d.v.is, .slice d.v.B d.v.m d.v.d]] w fun e w' => e = .returned (.bool true) ∧ Mod (fun _ => False) w w' := by
  have h5 := hx.o.len
  have h6 := hx.v.len
  have h7 : c.o.vs.length ≤ 1000 := hs.1
  have h8 : c.v.vs.length ≤ 1000 := hs.2
  exact rchanges_ok w c d hx hy hp (by omega) (by omega)
end
/-- The last change. -/
theorem last_of {w : World} {z : TxD} (h : z.At w) {L : List Cp} {c : Cp} (hp : z.p.L = L ++ [c]) : 0 < z.n ∧ ∃ u, z.L[z.n - 1]? = some u ∧ u.p = c := by
  have hl : pc z.L = L ++ [c] := hp
  have hn := h.nL
  rw [hp, List.length_append, List.length_singleton] at hn
  refine ⟨by omega, ?_⟩
  obtain ⟨u, hu⟩ : ∃ u, z.L[z.n - 1]? = some u := ⟨_, List.getElem?_eq_getElem (by rw [h.L.len]; omega)⟩
  refine ⟨u, hu, ?_⟩
  have h1 := pc_at hu
  rw [hl, show z.n - 1 = L.length by omega] at h1
  simp at h1
  exact h1.symm
end Go.Proofs.Ytidcmolkolcliaa
