/-
  Maps of counts: what their elements are; how many keys a map has at most.
-/
import Derived.Test.YtbdfolopnocjmaaGOf
namespace Go.Proofs.Ytbdfolopnocjmaa
open Go Go.RowKit

/-- A map of counts: no key where there is none. -/
def cnf (c : Int → Nat) : Int → Option Value := fun a => if c a = 0 then none else some (.int .i64 (c a))
theorem cnf_get (c : Int → Nat) (a : Int) : (cnf c a).getD (.int .i64 0) = .int .i64 (c a) := by
  unfold cnf
  split
  · rename_i h; rw [h]; rfl
  · rfl
theorem cnf_none {c : Int → Nat} {a : Int} : cnf c a = none ↔ c a = 0 := by
  unfold cnf
  split
  · rename_i h; simp [h]
  · rename_i h; simp [h]
theorem cnf_up (c : Int → Nat) (t : Int) : upd (cnf c) t (some (.int .i64 ((c t : Int) + 1))) = cnf (fun b => c b + if b = t then 1 else 0) := by
  funext b
  by_cases h : b = t
  · subst h
    rw [upd_same]
    unfold cnf
    rw [if_neg (by simp)]
    simp
  · rw [upd_other _ _ h]
    unfold cnf
    simp [h]
theorem cnf_down {c : Int → Nat} {t : Int} (h : 2 ≤ c t) : upd (cnf c) t (some (.int .i64 ((c t : Int) - 1))) = cnf (fun b => c b - if b = t then 1 else 0) := by
  funext b
  by_cases hb : b = t
  · subst hb
    rw [upd_same]
    unfold cnf
    simp only [if_true]
    rw [if_neg (by omega)]
    congr 2
    omega
  · rw [upd_other _ _ hb]
    unfold cnf
    simp [hb]
theorem cnf_out {c : Int → Nat} {t : Int} (h : c t = 1) (v : Value) : upd (upd (cnf c) t (some v)) t none = cnf (fun b => c b - if b = t then 1 else 0) := by
  funext b
  by_cases hb : b = t
  · subst hb
    rw [upd_same]
    unfold cnf
    simp [h]
  · rw [upd_other _ _ hb, upd_other _ _ hb]
    unfold cnf
    simp [hb]
theorem cnf_all {c d : Int → Nat} (h : ∀ a, c a = d a) : cnf c = cnf d := by rw [funext h]

/-- A map has no more entries than it may have keys. -/
theorem Mp.few {w : World} {b n : Nat} {f : Int → Option Value} (h : Mp w b n f) (K : List Int) (hK : ∀ a v, f a = some v → a ∈ K) : Mp w b K.length f := by
  obtain ⟨⟨D, hD, hs⟩, hi⟩ := h
  obtain ⟨es', he, hp, hk⟩ := hD.entries keyed
  have hD2 := hD
  obtain ⟨es, clock, hb, F, _, hDe⟩ := hD
  refine ⟨⟨D, ⟨es, clock, hb, F, ?_, hDe⟩, hs⟩, hi⟩
  have hlen : es.size = es'.length := by
    have h1 : Maps.size D = es.size := by rw [hDe]; simp [Maps.size, length_sorted]
    have h2 : Maps.size D = es'.length := by rw [he]; rfl
    omega
  rw [hlen]
  let g : Lit × DataW Value → Int := fun p => match p.1 with | .int _ a => a | _ => 0
  have hg : ∀ p ∈ es', ∃ a, p.1 = kL a ∧ a ∈ K := by
    intro p hp'
    have hh : Maps.has D p.1 = true := by rw [he]; exact List.any_eq_true.2 ⟨p, hp', WideAt.sameKey_self (hk p hp')⟩
    obtain ⟨a, ea, _⟩ := has_num hD2 hh
    refine ⟨a, ea, ?_⟩
    cases hf : f a with
    | none => rw [ea, (hs a).1 hf] at hh; cases hh
    | some v => exact hK a v hf
  have := nodup_len (es'.map g) K (List.pairwise_map.2 (hp.imp_of_mem (fun {p q} h1 h2 hne e => hne (by
    obtain ⟨a, ea, _⟩ := hg p h1
    obtain ⟨a', ea', _⟩ := hg q h2
    have e1 : g p = a := by simp only [g, ea]
    have e2 : g q = a' := by simp only [g, ea']
    rw [ea, ea', ← e1, ← e2, e])))) (fun x hx => by
    obtain ⟨p, hp', rfl⟩ := List.mem_map.1 hx
    obtain ⟨a, ea, ha⟩ := hg p hp'
    have e1 : g p = a := by simp only [g, ea]
    rw [e1]; exact ha)
  simpa using this
/-- Whom somebody waits for. -/
def tgts (l : List Wp) : List Int := (edg l).map Prod.snd
theorem tgts_len (l : List Wp) : (tgts l).length = (edg l).length := by simp [tgts]
theorem mem_tgts {l : List Wp} {b : Int} : b ∈ tgts l ↔ ∃ a, (a, b) ∈ edg l := by
  simp only [tgts, List.mem_map]
  constructor
  · rintro ⟨⟨a, c⟩, h, rfl⟩; exact ⟨a, h⟩
  · rintro ⟨a, h⟩; exact ⟨(a, b), h, rfl⟩
theorem cin_tgts {l : List Wp} {p : Int → Bool} {b : Int} (h : cin l p b ≠ 0) : b ∈ tgts l := by
  refine Classical.byContradiction fun hn => h (cin_zero.2 fun a ha => absurd (mem_tgts.2 ⟨a, ha⟩) hn)
theorem count_le_edg (l : List Wp) (x b : Int) (k : Nat) : ((adj l x).take k).count b ≤ (edg l).length :=
  Nat.le_trans (Nat.le_trans List.count_le_length (by rw [List.length_take]; omega)) (adj_len l x)
theorem count_take_succ {zs : List Int} {k : Nat} {t : Int} (h : zs[k]? = some t) (b : Int) : (zs.take (k + 1)).count b = (zs.take k).count b + if b = t then 1 else 0 := by
  rw [take_succ_at h, List.count_append]
  congr 1
  rw [List.count_singleton]
  by_cases e : b = t
  · simp [e]
  · simp [e, Ne.symm e]
end Go.Proofs.Ytbdfolopnocjmaa
