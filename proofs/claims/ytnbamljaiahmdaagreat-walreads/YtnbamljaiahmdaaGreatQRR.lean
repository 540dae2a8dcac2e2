/-
  The document's log: May, Next, Free, Force.
  A region that draws its order, walked by a tree of orders, with what holds throughout (S): reads that yield the same wherever S holds are taken first.
-/
import Derived.Test.YtnbamljaiahmdaaGreatQNext
import Derived.Test.YtnbamljaiahmdaaGreatQSr
import Derived.Test.YtnbamljaiahmdaaGreatQD
namespace Go.Proofs.YtnbamljaiahmdaaGreat
open Go Go.RowKit Go.Shelf

set_option maxRecDepth 100000 in
theorem rmay_no0 (w : World) (base n ep st nx : Int)  (h0 : base < 0) :
    Calls Tryz.prog 8 #[.int .i64 40, .int .i64 base, .int .i64 n, .int .i64 ep, .int .i64 st, .int .i64 nx] w fun e w' => e = .returned (.bool false) ∧ w' = w := by
  have k0 : decide (base < 0) = true := by simpa using h0
  go_enter Tryz.func8, Tryz.ntmps8
  go_wp2
  go_ret
  exact ⟨rfl, rfl⟩
set_option maxRecDepth 100000 in
theorem rmay_no1 (w : World) (base n ep st nx : Int) (h0 : ¬ base < 0) (h1 : n < 2) :
    Calls Tryz.prog 8 #[.int .i64 40, .int .i64 base, .int .i64 n, .int .i64 ep, .int .i64 st, .int .i64 nx] w fun e w' => e = .returned (.bool false) ∧ w' = w := by
  have k0 : decide (base < 0) = false := by simpa using h0
  have k1 : decide (n < 2) = true := by simpa using h1
  go_enter Tryz.func8, Tryz.ntmps8
  go_wp2
  go_ret
  exact ⟨rfl, rfl⟩
set_option maxRecDepth 100000 in
theorem rmay_no2 (w : World) (base n ep st nx : Int) (h0 : ¬ base < 0) (h1 : ¬ n < 2) (h2 : 40 < n) :
    Calls Tryz.prog 8 #[.int .i64 40, .int .i64 base, .int .i64 n, .int .i64 ep, .int .i64 st, .int .i64 nx] w fun e w' => e = .returned (.bool false) ∧ w' = w := by
  have k0 : decide (base < 0) = false := by simpa using h0
  have k1 : decide (n < 2) = false := by simpa using h1
  have k2 : decide (40 < n) = true := by simpa using h2
  go_enter Tryz.func8, Tryz.ntmps8
  go_wp2
  go_ret
  exact ⟨rfl, rfl⟩
set_option maxRecDepth 100000 in
theorem rmay_no3 (w : World) (base n ep st nx : Int) (h0 : ¬ base < 0) (h1 : ¬ n < 2) (h2 : ¬ 40 < n) (h3 : 40 - n < base) :
    Calls Tryz.prog 8 #[.int .i64 40, .int .i64 base, .int .i64 n, .int .i64 ep, .int .i64 st, .int .i64 nx] w fun e w' => e = .returned (.bool false) ∧ w' = w := by
  have k0 : decide (base < 0) = false := by simpa using h0
  have k1 : decide (n < 2) = false := by simpa using h1
  have k2 : decide (40 < n) = false := by simpa using h2
  have k3 : decide (40 - n < base) = true := by simpa using h3
  go_enter Tryz.func8, Tryz.ntmps8
  go_wp2
  go_ret
  exact ⟨rfl, rfl⟩
set_option maxRecDepth 100000 in
theorem rmay_no4 (w : World) (base n ep st nx : Int) (h0 : ¬ base < 0) (h1 : ¬ n < 2) (h2 : ¬ 40 < n) (h3 : ¬ 40 - n < base) (h4 : ¬ 1 ≤ ep) :
    Calls Tryz.prog 8 #[.int .i64 40, .int .i64 base, .int .i64 n, .int .i64 ep, .int .i64 st, .int .i64 nx] w fun e w' => e = .returned (.bool false) ∧ w' = w := by
  have k0 : decide (base < 0) = false := by simpa using h0
  have k1 : decide (n < 2) = false := by simpa using h1
  have k2 : decide (40 < n) = false := by simpa using h2
  have k3 : decide (40 - n < base) = false := by simpa using h3
  have k4 : decide (1 ≤ ep) = false := by simpa using h4
  go_enter Tryz.func8, Tryz.ntmps8
  go_wp2
  go_ret
  exact ⟨rfl, rfl⟩
set_option maxRecDepth 100000 in
theorem rmay_no5 (w : World) (base n ep st nx : Int) (h0 : ¬ base < 0) (h1 : ¬ n < 2) (h2 : ¬ 40 < n) (h3 : ¬ 40 - n < base) (h4 : 1 ≤ ep) (h5 : ¬ ep ≤ 255) :
    Calls Tryz.prog 8 #[.int .i64 40, .int .i64 base, .int .i64 n, .int .i64 ep, .int .i64 st, .int .i64 nx] w fun e w' => e = .returned (.bool false) ∧ w' = w := by
  have k0 : decide (base < 0) = false := by simpa using h0
  have k1 : decide (n < 2) = false := by simpa using h1
  have k2 : decide (40 < n) = false := by simpa using h2
  have k3 : decide (40 - n < base) = false := by simpa using h3
  have k4 : decide (1 ≤ ep) = true := by simpa using h4
  have k5 : decide (ep ≤ 255) = false := by simpa using h5
  go_enter Tryz.func8, Tryz.ntmps8
  go_wp2
  go_ret
  exact ⟨rfl, rfl⟩
set_option maxRecDepth 100000 in
theorem rmay_no6 (w : World) (base n ep st nx : Int) (h0 : ¬ base < 0) (h1 : ¬ n < 2) (h2 : ¬ 40 < n) (h3 : ¬ 40 - n < base) (h4 : 1 ≤ ep) (h5 : ep ≤ 255) (h6 : ¬ 0 ≤ st) :
    Calls Tryz.prog 8 #[.int .i64 40, .int .i64 base, .int .i64 n, .int .i64 ep, .int .i64 st, .int .i64 nx] w fun e w' => e = .returned (.bool false) ∧ w' = w := by
  have k0 : decide (base < 0) = false := by simpa using h0
  have k1 : decide (n < 2) = false := by simpa using h1
  have k2 : decide (40 < n) = false := by simpa using h2
  have k3 : decide (40 - n < base) = false := by simpa using h3
  have k4 : decide (1 ≤ ep) = true := by simpa using h4
  have k5 : decide (ep ≤ 255) = true := by simpa using h5
  have k6 : decide (0 ≤ st) = false := by simpa using h6
  go_enter Tryz.func8, Tryz.ntmps8
  go_wp2
  go_ret
  exact ⟨rfl, rfl⟩
set_option maxRecDepth 100000 in
theorem rmay_no7 (w : World) (base n ep st nx : Int) (h0 : ¬ base < 0) (h1 : ¬ n < 2) (h2 : ¬ 40 < n) (h3 : ¬ 40 - n < base) (h4 : 1 ≤ ep) (h5 : ep ≤ 255) (h6 : 0 ≤ st) (h7 : ¬ st ≤ nx) :
    Calls Tryz.prog 8 #[.int .i64 40, .int .i64 base, .int .i64 n, .int .i64 ep, .int .i64 st, .int .i64 nx] w fun e w' => e = .returned (.bool false) ∧ w' = w := by
  have k0 : decide (base < 0) = false := by simpa using h0
  have k1 : decide (n < 2) = false := by simpa using h1
  have k2 : decide (40 < n) = false := by simpa using h2
  have k3 : decide (40 - n < base) = false := by simpa using h3
  have k4 : decide (1 ≤ ep) = true := by simpa using h4
  have k5 : decide (ep ≤ 255) = true := by simpa using h5
  have k6 : decide (0 ≤ st) = true := by simpa using h6
  have k7 : decide (st ≤ nx) = false := by simpa using h7
  go_enter Tryz.func8, Tryz.ntmps8
  go_wp2
  go_ret
  exact ⟨rfl, rfl⟩
set_option maxRecDepth 100000 in
theorem rmay_no8 (w : World) (base n ep st nx : Int) (h0 : ¬ base < 0) (h1 : ¬ n < 2) (h2 : ¬ 40 < n) (h3 : ¬ 40 - n < base) (h4 : 1 ≤ ep) (h5 : ep ≤ 255) (h6 : 0 ≤ st) (h7 : st ≤ nx) (h8 : ¬ nx ≤ 16777215) :
    Calls Tryz.prog 8 #[.int .i64 40, .int .i64 base, .int .i64 n, .int .i64 ep, .int .i64 st, .int .i64 nx] w fun e w' => e = .returned (.bool false) ∧ w' = w := by
  have k0 : decide (base < 0) = false := by simpa using h0
  have k1 : decide (n < 2) = false := by simpa using h1
  have k2 : decide (40 < n) = false := by simpa using h2
  have k3 : decide (40 - n < base) = false := by simpa using h3
  have k4 : decide (1 ≤ ep) = true := by simpa using h4
  have k5 : decide (ep ≤ 255) = true := by simpa using h5
  have k6 : decide (0 ≤ st) = true := by simpa using h6
  have k7 : decide (st ≤ nx) = true := by simpa using h7
  have k8 : decide (nx ≤ 16777215) = false := by simpa using h8
  go_enter Tryz.func8, Tryz.ntmps8
  go_wp2
  go_ret
  exact ⟨rfl, rfl⟩
set_option maxRecDepth 100000 in
theorem rmay_no9 (w : World) (base n ep st nx : Int) (h0 : ¬ base < 0) (h1 : ¬ n < 2) (h2 : ¬ 40 < n) (h3 : ¬ 40 - n < base) (h4 : 1 ≤ ep) (h5 : ep ≤ 255) (h6 : 0 ≤ st) (h7 : st ≤ nx) (h8 : nx ≤ 16777215) (h9 : ¬ nx - st ≤ n) :
    Calls Tryz.prog 8 #[.int .i64 40, .int .i64 base, .int .i64 n, .int .i64 ep, .int .i64 st, .int .i64 nx] w fun e w' => e = .returned (.bool false) ∧ w' = w := by
  have k0 : decide (base < 0) = false := by simpa using h0
  have k1 : decide (n < 2) = false := by simpa using h1
  have k2 : decide (40 < n) = false := by simpa using h2
  have k3 : decide (40 - n < base) = false := by simpa using h3
  have k4 : decide (1 ≤ ep) = true := by simpa using h4
  have k5 : decide (ep ≤ 255) = true := by simpa using h5
  have k6 : decide (0 ≤ st) = true := by simpa using h6
  have k7 : decide (st ≤ nx) = true := by simpa using h7
  have k8 : decide (nx ≤ 16777215) = true := by simpa using h8
  have k9 : decide (nx - st ≤ n) = false := by simpa using h9
  go_enter Tryz.func8, Tryz.ntmps8
  go_wp2
  go_ret
  exact ⟨rfl, rfl⟩

theorem rmay_no (w : World) (base n ep st nx : Int) (hn : ¬ MayL 40 base n ep st nx) :
    Calls Tryz.prog 8 #[.int .i64 40, .int .i64 base, .int .i64 n, .int .i64 ep, .int .i64 st, .int .i64 nx] w fun e w' => e = .returned (.bool false) ∧ w' = w := by
  by_cases h0 : base < 0
  · exact rmay_no0 w base n ep st nx h0
  by_cases h1 : n < 2
  · exact rmay_no1 w base n ep st nx h0 h1
  by_cases h2 : 40 < n
  · exact rmay_no2 w base n ep st nx h0 h1 h2
  by_cases h3 : 40 - n < base
  · exact rmay_no3 w base n ep st nx h0 h1 h2 h3
  by_cases h4 : 1 ≤ ep
  case neg => exact rmay_no4 w base n ep st nx h0 h1 h2 h3 h4
  by_cases h5 : ep ≤ 255
  case neg => exact rmay_no5 w base n ep st nx h0 h1 h2 h3 h4 h5
  by_cases h6 : 0 ≤ st
  case neg => exact rmay_no6 w base n ep st nx h0 h1 h2 h3 h4 h5 h6
  by_cases h7 : st ≤ nx
  case neg => exact rmay_no7 w base n ep st nx h0 h1 h2 h3 h4 h5 h6 h7
  by_cases h8 : nx ≤ 16777215
  case neg => exact rmay_no8 w base n ep st nx h0 h1 h2 h3 h4 h5 h6 h7 h8
  by_cases h9 : nx - st ≤ n
  case neg => exact rmay_no9 w base n ep st nx h0 h1 h2 h3 h4 h5 h6 h7 h8 h9
  exact absurd ⟨h0, h1, by omega, by omega, by omega, by omega, by omega, by omega, by omega⟩ hn

set_option maxRecDepth 100000 in
theorem rmay_yes (w : World) (base n ep st nx : Int) (hn : MayL 40 base n ep st nx) :
    Calls Tryz.prog 8 #[.int .i64 40, .int .i64 base, .int .i64 n, .int .i64 ep, .int .i64 st, .int .i64 nx] w fun e w' => e = .returned (.bool true) ∧ w' = w := by
  obtain ⟨g0, g1, g2, g3, g4, g5, g6, g7, g8⟩ := hn
  have h0 : ¬ base < 0 := by omega
  have h1 : ¬ n < 2 := by omega
  have h2 : ¬ 40 < n := by omega
  have h3 : ¬ 40 - n < base := by omega
  have h4 : 1 ≤ ep := by omega
  have h5 : ep ≤ 255 := by omega
  have h6 : 0 ≤ st := by omega
  have h7 : st ≤ nx := by omega
  have h8 : nx ≤ 16777215 := by omega
  have h9 : nx - st ≤ n := by omega
  have k0 : decide (base < 0) = false := by simpa using h0
  have k1 : decide (n < 2) = false := by simpa using h1
  have k2 : decide (40 < n) = false := by simpa using h2
  have k3 : decide (40 - n < base) = false := by simpa using h3
  have k4 : decide (1 ≤ ep) = true := by simpa using h4
  have k5 : decide (ep ≤ 255) = true := by simpa using h5
  have k6 : decide (0 ≤ st) = true := by simpa using h6
  have k7 : decide (st ≤ nx) = true := by simpa using h7
  have k8 : decide (nx ≤ 16777215) = true := by simpa using h8
  have k9 : decide (nx - st ≤ n) = true := by simpa using h9
  clear g0 g1 g2 g3 g4 g5 g6 g7 g8
  go_enter Tryz.func8, Tryz.ntmps8
  go_wp2
  go_ret
  exact ⟨rfl, rfl⟩

/-- The document's log by value. -/
structure RL where
  n : Int
  ep : Int
  st : Int
  nx : Int
  du : Int
  A : Option Addr
  m : Nat
  c : Nat
  l : List RcD
abbrev RL.cells (q : RL) : Array Value := #[.int .i64 q.n, .int .i64 q.ep, .int .i64 q.st, .int .i64 q.nx, .int .i64 q.du, .slice q.A q.m q.c]
abbrev RL.val (q : RL) : Value := .agg q.cells
structure RL.Ok (q : RL) : Prop where
  n0 : 2 ≤ q.n
  n1 : q.n ≤ 4096
  s0 : 0 ≤ q.st
  sn : q.st ≤ q.nx
  nm : q.nx ≤ 16777215
  room : q.nx - q.st ≤ q.n
  lm : q.l.length = q.m
  few : q.m ≤ 60
  some_ : 0 < q.m → q.nx + 1 ≤ 16777215
def RL.un (q : RL) : Int := if q.m = 0 then 0 else 1
def RL.forced (q : RL) : RL := if q.m = 0 then { q with du := q.nx } else { q with nx := q.nx + 1, du := q.nx + 1, A := none, m := 0, c := 0, l := [] }
end Go.Proofs.YtnbamljaiahmdaaGreat

namespace Go.Proofs.YtnbamljaiahmdaaGreat
open Go Go.RowKit

def wpS (P : Program) (ops : Array Oper) (Q : Exit → Act → World → Prop) (S : World → Prop) : Tr → Act → World → Prop
  | .nil, a, w => Q .normal a w
  | .take i t, a, w => ∃ o v, ops[i]? = some o ∧ YieldsIf P ops S o v a ∧ S w ∧ wpS P ops Q S t (a.put o.dst v) w
  | .one i t, a, w => ∃ o, ops[i]? = some o ∧ Region.wanted o (yielded ops a.tmps) = true ∧ o.wp P a w (fun a' w' => S w' ∧ wpS P ops Q S t a' w') Q
  | .two i t j u, a, w => (∃ o, ops[i]? = some o ∧ Region.wanted o (yielded ops a.tmps) = true ∧ o.wp P a w (fun a' w' => S w' ∧ wpS P ops Q S t a' w') Q) ∧ ∃ o, ops[j]? = some o ∧ Region.wanted o (yielded ops a.tmps) = true ∧ o.wp P a w (fun a' w' => S w' ∧ wpS P ops Q S u a' w') Q
theorem any_of_treeS {P : Program} {ops : Array Oper} {Q : Exit → Act → World → Prop} {S : World → Prop} (hsel : Region.noSelect ops = true) (hQ : ∀ c a t v w, Q (.panic c) (a.put t v) w → Q (.panic c) a w) :
    ∀ (t : Tr) (n : Nat) (l : Array Bool) (a : Act) (w : World), ordT ops t n l = true → wpS P ops Q S t a w → wpAnyH P .any ops Q S n l a w
  | .nil, n, l, a, w, hB, h => by
    simp only [ordT, Bool.and_eq_true, decide_eq_true_eq] at hB
    obtain ⟨rfl, hB⟩ := hB
    exact ⟨by simpa using hB, h⟩
  | .take i t, n, l, a, w, hB, h => by
    simp only [ordT, Bool.and_eq_true, decide_eq_true_eq] at hB
    obtain ⟨⟨⟨hn, h1⟩, h2⟩, h3⟩ := hB
    obtain ⟨m, rfl⟩ : ∃ m, n = m + 1 := ⟨n - 1, by omega⟩
    obtain ⟨o, v, ho, hy, hS, hr⟩ := h
    exact wpAnyH_take ho hsel h2 h1 (fun c a w => hQ c _ _ _ w) hy hS (any_of_treeS hsel hQ t m _ _ _ h3 hr)
  | .one i t, n, l, a, w, hB, h => by
    simp only [ordT, Bool.and_eq_true, decide_eq_true_eq] at hB
    obtain ⟨⟨hn, h1⟩, h2⟩ := hB
    obtain ⟨m, rfl⟩ : ∃ m, n = m + 1 := ⟨n - 1, by omega⟩
    obtain ⟨o, ho, hw, hwp⟩ := h
    exact held_one i ho h1 hw (Oper.wp_mono (fun a' w' hh => ⟨hh.1, any_of_treeS hsel hQ t m _ _ _ h2 hh.2⟩) hwp)
  | .two i t j u, n, l, a, w, hB, h => by
    simp only [ordT, Bool.and_eq_true, decide_eq_true_eq] at hB
    obtain ⟨⟨⟨hn, h1⟩, h2⟩, h3⟩ := hB
    obtain ⟨m, rfl⟩ : ∃ m, n = m + 1 := ⟨n - 1, by omega⟩
    obtain ⟨⟨o, ho, hw, hwp⟩, ⟨o', ho', hw', hwp'⟩⟩ := h
    refine wpAnyH_all h1 (by simp) (fun k hk => ?_)
    simp only [List.mem_cons, List.not_mem_nil, or_false] at hk
    rcases hk with rfl | rfl
    · exact op_in ho hw (Oper.wp_mono (fun a' w' hh => ⟨hh.1, any_of_treeS hsel hQ t m _ _ _ h2 hh.2⟩) hwp)
    · exact op_in ho' hw' (Oper.wp_mono (fun a' w' hh => ⟨hh.1, any_of_treeS hsel hQ u m _ _ _ h3 hh.2⟩) hwp')
section
variable {P : Program} {ops : Array Oper} {Q : Exit → Act → World → Prop} {S : World → Prop} {i j : Nat} {t u : Tr} {a : Act} {w : World} {L : List (Option Tmp × Op × Option (Nat × Bool))}
theorem ts_take (h : ops.toList.map (fun o => (o.dst, o.op, o.guard)) = L) (d : Tmp) {p : Op} (e : L[i]? = some (some d, p, none)) (v : Value)
    (hy : ∀ o : Oper, o.op = p → ∀ w, S w → (execOp a.eval o).run P w = .ok (.value v) w) (hS : S w) (hr : wpS P ops Q S t (a.put (some d) v) w) : wpS P ops Q S (.take i t) a w := by
  obtain ⟨o, ho, hd, hp, hg⟩ := spec_at h e
  refine ⟨o, v, ho, .inl ⟨wanted_of hg, hy o hp⟩, hS, ?_⟩
  rw [hd]
  exact hr
theorem ts_one (h : ops.toList.map (fun o => (o.dst, o.op, o.guard)) = L) (d : Option Tmp) {p : Op} (e : L[i]? = some (d, p, none))
    (hw : ∀ o : Oper, o.dst = d → o.op = p → o.wp P a w (fun a' w' => S w' ∧ wpS P ops Q S t a' w') Q) : wpS P ops Q S (.one i t) a w := by
  obtain ⟨o, ho, hd, hp, hg⟩ := spec_at h e
  exact ⟨o, ho, wanted_of hg, hw o hd hp⟩
end
end Go.Proofs.YtnbamljaiahmdaaGreat
