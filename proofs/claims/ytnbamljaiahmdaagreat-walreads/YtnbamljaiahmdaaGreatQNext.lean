/-
  bobbinlaw08.WalNext.
-/
import Derived.Test.YtnbamljaiahmdaaGreatQW3
namespace Go.Proofs.YtnbamljaiahmdaaGreat
open Go Go.RowKit Go.Shelf

def Lg.next (g : Lg) : Int := 256 * (g.nx + g.un)
def Lg.free (g : Lg) : Int := g.n - (g.nx - g.st) - g.un
structure Kin (g g' : Lg) : Prop where
  b : g'.b = g.b
  n : g'.n = g.n
  ep : g'.ep = g.ep
  fr : g'.fr = g.fr
  st : g'.st = g.st
theorem Lg.un_cons {g : Lg} {l : List RcD} {y : RcD} (h : g.l = l ++ [y]) : g.un = 1 := by unfold Lg.un; rw [if_neg (by rw [h]; simp)]
theorem Lg.un_nil {g : Lg} (h : g.l = []) : g.un = 0 := by unfold Lg.un; rw [if_pos h]
theorem Lg.un_some {g : Lg} (h : g.l ≠ []) : g.un = 1 := by unfold Lg.un; rw [if_neg h]
section
variable {g g' : Lg} {d d' : Dk} {r : RcD} {a er : Int}
theorem App.kin (h : App g d r a er g' d') : Kin g g' := by cases h <;> exact ⟨rfl, rfl, rfl, rfl, rfl⟩
theorem App.du (h : App g d r a er g' d') : g'.du = g.du := by cases h <;> rfl
/-- What an answer tells. -/
theorem App.tells (h : App g d r a er g' d') {N : Nat} (ok : g.Ok N) : (er ≠ 0 ∧ a = 0 ∧ g' = g ∧ d' = d) ∨ (er = 0 ∧ 256 * g'.du ≤ a ∧ a < g'.next ∧ g'.free ≤ g.free ∧ g.free - 1 ≤ g'.free) := by
  have h1 := ok.dn
  have h2 := (fits_may ok.fit).2
  have h3 := g.un_bd
  cases h with
  | arg _ => exact .inl ⟨by omega, rfl, rfl, rfl⟩
  | full _ _ => exact .inl ⟨by omega, rfl, rfl, rfl⟩
  | fit y _ _ _ _ =>
    right
    have hu : ({ g with l := g.l ++ [y] } : Lg).un = 1 := Lg.un_cons rfl
    unfold Lg.next Lg.free
    rw [hu]
    refine ⟨rfl, ?_, ?_, ?_, ?_⟩ <;> simp only <;> omega
  | next y _ hl _ _ _ =>
    right
    have hu : ({ g.wrote with l := [y] } : Lg).un = 1 := Lg.un_cons (l := []) rfl
    have hu' := Lg.un_some hl
    unfold Lg.next Lg.free
    rw [hu, hu']
    refine ⟨rfl, ?_, ?_, ?_, ?_⟩ <;> simp only [Lg.wrote] <;> omega
end
theorem Lg.forced_kin (g : Lg) : Kin g g.forced := by
  unfold Lg.forced Lg.push
  split <;> exact ⟨rfl, rfl, rfl, rfl, rfl⟩
theorem Lg.forced_l (g : Lg) : g.forced.l = [] := by
  unfold Lg.forced Lg.push
  split
  · rename_i h; exact h
  · rfl
theorem Lg.forced_nx (g : Lg) : g.forced.nx = g.nx + g.un ∧ g.forced.du = g.forced.nx := by
  refine ⟨?_, rfl⟩
  unfold Lg.forced Lg.push Lg.un
  split
  · show g.nx = g.nx + 0; omega
  · rfl
theorem Lg.forced_free (g : Lg) : g.forced.free = g.free ∧ g.forced.next = 256 * g.forced.nx := by
  unfold Lg.free Lg.next
  rw [Lg.un_nil g.forced_l, g.forced_nx.1, g.forced_kin.n, g.forced_kin.st]
  omega
theorem pend_le {w0 w : World} {p px : Nat} {g : Lg} {d : Dk} (h : Lgs w0 w p px g d) {k : Nat} (hs : g.st = 0) (hn : g.n ≤ k) : d.pend.length ≤ k := by
  have h1 := h.wait
  have h2 := h.ok.room
  have h3 := h.ok.d0
  omega

end Go.Proofs.YtnbamljaiahmdaaGreat
