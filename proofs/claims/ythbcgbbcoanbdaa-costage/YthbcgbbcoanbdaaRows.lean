/-
  No cell of these rows narrows 'for every input' (looked for: loops, veiled, ifaces, maps, wideKeys, modest, calm, conditions, laid).
  DERIVED. THE GIVEN ROWS OF THIS SEAT. 5 by the template 'for every input the law returns true; each argument reads behind the call as it read before'; 0 by the template 'total and deterministic' (their statements: YthbcgbbcoanbdaaTotals.lean).
  GIVEN WITH THE SEED: the statements are not yours to turn. If you find one false, say at which input.
  Laid BY PROGRAM, IN A SANDBOX (cutbox-rows.mjs): the forced cells as the released guide's own fill.sh prints them over the translation 6d46b36d2df6f0c5… (all of the seat's roots in one cut). By AI agents, Wed Nov 11 2026. No macro, syntax, notation, axiom, sorry.
-/
import Derived.Test.YthbcgbbcoanbdaaChecked
import GoSem.Claim
import GoSem.ClaimJoined
import GoSem.ClaimMapViews
import Derived.JoinedTies
import Derived.KernelRfl
namespace Go.Proofs.Ythbcgbbcoanbdaa
/- THE CELL 'sum', in the pinned program and in every row, IS THE sha256 OF THE DUMP (.gsa) THAT YthbcgbbcoanbdaaProg.lean LOADS. Nothing in Lean hashes anything: it is a label: what it is worth is what the hold of that sum in a sandbox is worth. -/
noncomputable def Try.pinned : Pinned := { name := "ythbcgbbcoanbdaa", sum := "6d46b36d2df6f0c5076574192ba3b2073ccd57ac9a0ab390d42d91038d2b6dc3", checked := Try.checked }
namespace Rows
def none {H : Type} : Left H := { results := [], args := [] }

/-- 'bobbinlaw10.TableRuns': WHATEVER THE INPUT: true; the input reads as it did. -/
def tableRunsSpec : ChangeSpec := { name := "tableRuns", fn := fun _ => fun
  | [d1, d2, d3, d4] => { results := [.lit (.bool true)], args := [d1, d2, d3, d4] }
  | _ => none }
def tableRunsRow : OpenClaim := { program := "ythbcgbbcoanbdaa", sum := "6d46b36d2df6f0c5076574192ba3b2073ccd57ac9a0ab390d42d91038d2b6dc3", func := "bobbin/bobbinlaw10.TableRuns", spec := "tableRuns", unfollowed := true, recurses := true, apart := false }
def TableRunsSaid : Prop := tableRunsRow.holds Try.pinned (OpenSpec.ofChange tableRunsSpec)

/-- ITS FALSE NEIGHBOUR: 'it returns false'. Refute it at one input. -/
def tableRunsWrong : ChangeSpec := { name := "tableRuns", fn := fun _ => fun
  | [d1, d2, d3, d4] => { results := [.lit (.bool false)], args := [d1, d2, d3, d4] }
  | _ => none }
def TableRunsWrongFalsely : Prop := tableRunsRow.holds Try.pinned (OpenSpec.ofChange tableRunsWrong)

/-- 'bobbinlaw11.CostTells': WHATEVER THE INPUT: true; the input reads as it did. -/
def costTellsSpec : ChangeSpec := { name := "costTells", fn := fun _ => fun
  | [d1, d2] => { results := [.lit (.bool true)], args := [d1, d2] }
  | _ => none }
def costTellsRow : OpenClaim := { program := "ythbcgbbcoanbdaa", sum := "6d46b36d2df6f0c5076574192ba3b2073ccd57ac9a0ab390d42d91038d2b6dc3", func := "bobbin/bobbinlaw11.CostTells", spec := "costTells", unfollowed := true, recurses := true, apart := false }
def CostTellsSaid : Prop := costTellsRow.holds Try.pinned (OpenSpec.ofChange costTellsSpec)

/-- ITS FALSE NEIGHBOUR: 'it returns false'. Refute it at one input. -/
def costTellsWrong : ChangeSpec := { name := "costTells", fn := fun _ => fun
  | [d1, d2] => { results := [.lit (.bool false)], args := [d1, d2] }
  | _ => none }
def CostTellsWrongFalsely : Prop := costTellsRow.holds Try.pinned (OpenSpec.ofChange costTellsWrong)

/-- 'bobbinlaw11.CostBest': WHATEVER THE INPUT: true; the input reads as it did. -/
def costBestSpec : ChangeSpec := { name := "costBest", fn := fun _ => fun
  | [d1, d2] => { results := [.lit (.bool true)], args := [d1, d2] }
  | _ => none }
def costBestRow : OpenClaim := { program := "ythbcgbbcoanbdaa", sum := "6d46b36d2df6f0c5076574192ba3b2073ccd57ac9a0ab390d42d91038d2b6dc3", func := "bobbin/bobbinlaw11.CostBest", spec := "costBest", unfollowed := true, recurses := true, apart := false }
def CostBestSaid : Prop := costBestRow.holds Try.pinned (OpenSpec.ofChange costBestSpec)

/-- ITS FALSE NEIGHBOUR: 'it returns false'. Refute it at one input. -/
def costBestWrong : ChangeSpec := { name := "costBest", fn := fun _ => fun
  | [d1, d2] => { results := [.lit (.bool false)], args := [d1, d2] }
  | _ => none }
def CostBestWrongFalsely : Prop := costBestRow.holds Try.pinned (OpenSpec.ofChange costBestWrong)

/-- 'bobbinlaw11.CostAge': WHATEVER THE INPUT: true; the input reads as it did. -/
def costAgeSpec : ChangeSpec := { name := "costAge", fn := fun _ => fun
  | [d1, d2, d3] => { results := [.lit (.bool true)], args := [d1, d2, d3] }
  | _ => none }
def costAgeRow : OpenClaim := { program := "ythbcgbbcoanbdaa", sum := "6d46b36d2df6f0c5076574192ba3b2073ccd57ac9a0ab390d42d91038d2b6dc3", func := "bobbin/bobbinlaw11.CostAge", spec := "costAge", unfollowed := true, recurses := true, apart := false }
def CostAgeSaid : Prop := costAgeRow.holds Try.pinned (OpenSpec.ofChange costAgeSpec)

/-- ITS FALSE NEIGHBOUR: 'it returns false'. Refute it at one input. -/
def costAgeWrong : ChangeSpec := { name := "costAge", fn := fun _ => fun
  | [d1, d2, d3] => { results := [.lit (.bool false)], args := [d1, d2, d3] }
  | _ => none }
def CostAgeWrongFalsely : Prop := costAgeRow.holds Try.pinned (OpenSpec.ofChange costAgeWrong)

/-- 'bobbinlaw11.CostPages': WHATEVER THE INPUT: true; the input reads as it did. -/
def costPagesSpec : ChangeSpec := { name := "costPages", fn := fun _ => fun
  | [d] => { results := [.lit (.bool true)], args := [d] }
  | _ => none }
def costPagesRow : OpenClaim := { program := "ythbcgbbcoanbdaa", sum := "6d46b36d2df6f0c5076574192ba3b2073ccd57ac9a0ab390d42d91038d2b6dc3", func := "bobbin/bobbinlaw11.CostPages", spec := "costPages", unfollowed := true, recurses := true, apart := false }
def CostPagesSaid : Prop := costPagesRow.holds Try.pinned (OpenSpec.ofChange costPagesSpec)

/-- ITS FALSE NEIGHBOUR: 'it returns false'. Refute it at one input. -/
def costPagesWrong : ChangeSpec := { name := "costPages", fn := fun _ => fun
  | [d] => { results := [.lit (.bool false)], args := [d] }
  | _ => none }
def CostPagesWrongFalsely : Prop := costPagesRow.holds Try.pinned (OpenSpec.ofChange costPagesWrong)

/- THE SECOND FORM. 'bulk': how many values and letters a reading holds, each counted each time it is reached (what is shared counts as often as it is met; a slice's spare places count too). A statement '..UptoSaid' is the law's where the arguments, and the package variables that the reading takes, are together of bulk at most 1048576: NARROWER than '..Said'. Prove '..Said' where nothing that the law and all that it calls make is longer than what came in: it says more and counts as full. Else prove '..UptoSaid'. A law counts once. -/
mutual
def uptoBulk {H : Type} : DataW H → Nat
  | .lit (.string bytes) => bytes.length + 1
  | .lit _ => 1
  | .nil => 1
  | .ptr d => uptoBulk d + 1
  | .slice elems spare => uptoBulkAll elems + uptoBulkAll spare + 1
  | .agg parts => uptoBulkAll parts + 1
  | .iface _ d => uptoBulk d + 1
  | .map entries => uptoBulkEntries entries + 1
  | .held _ => 1
def uptoBulkAll {H : Type} : List (DataW H) → Nat
  | [] => 0
  | d :: r => uptoBulk d + uptoBulkAll r
def uptoBulkEntries {H : Type} : List (Lit × DataW H) → Nat
  | [] => 0
  | x :: r => uptoBulkEntry x + uptoBulkEntries r
def uptoBulkEntry {H : Type} : Lit × DataW H → Nat
  | (.string bytes, d) => bytes.length + uptoBulk d + 1
  | (_, d) => uptoBulk d + 1
 end
def uptoSmall : (H : Type) → List (DataW H) → Bool := fun _ ds => decide (uptoBulkAll ds ≤ 1048576)
def OpenSpec.upto (s : _root_.Go.ChangeSpec) : _root_.Go.OpenSpec := { _root_.Go.OpenSpec.ofChange s with cond := some uptoSmall }

/-- 'bobbinlaw10.TableRuns', WHERE WHAT IT READS IS OF BULK AT MOST 1048576: true; the input reads as it did. -/
def tableRunsUptoRow : OpenClaim := { program := "ythbcgbbcoanbdaa", sum := "6d46b36d2df6f0c5076574192ba3b2073ccd57ac9a0ab390d42d91038d2b6dc3", func := "bobbin/bobbinlaw10.TableRuns", spec := "tableRuns", unfollowed := true, recurses := true, apart := false, narrowed := true }
def TableRunsUptoSaid : Prop := tableRunsUptoRow.holds Try.pinned (OpenSpec.upto tableRunsSpec)

/-- 'bobbinlaw11.CostTells', WHERE WHAT IT READS IS OF BULK AT MOST 1048576: true; the input reads as it did. -/
def costTellsUptoRow : OpenClaim := { program := "ythbcgbbcoanbdaa", sum := "6d46b36d2df6f0c5076574192ba3b2073ccd57ac9a0ab390d42d91038d2b6dc3", func := "bobbin/bobbinlaw11.CostTells", spec := "costTells", unfollowed := true, recurses := true, apart := false, narrowed := true }
def CostTellsUptoSaid : Prop := costTellsUptoRow.holds Try.pinned (OpenSpec.upto costTellsSpec)

/-- 'bobbinlaw11.CostBest', WHERE WHAT IT READS IS OF BULK AT MOST 1048576: true; the input reads as it did. -/
def costBestUptoRow : OpenClaim := { program := "ythbcgbbcoanbdaa", sum := "6d46b36d2df6f0c5076574192ba3b2073ccd57ac9a0ab390d42d91038d2b6dc3", func := "bobbin/bobbinlaw11.CostBest", spec := "costBest", unfollowed := true, recurses := true, apart := false, narrowed := true }
def CostBestUptoSaid : Prop := costBestUptoRow.holds Try.pinned (OpenSpec.upto costBestSpec)

/-- 'bobbinlaw11.CostAge', WHERE WHAT IT READS IS OF BULK AT MOST 1048576: true; the input reads as it did. -/
def costAgeUptoRow : OpenClaim := { program := "ythbcgbbcoanbdaa", sum := "6d46b36d2df6f0c5076574192ba3b2073ccd57ac9a0ab390d42d91038d2b6dc3", func := "bobbin/bobbinlaw11.CostAge", spec := "costAge", unfollowed := true, recurses := true, apart := false, narrowed := true }
def CostAgeUptoSaid : Prop := costAgeUptoRow.holds Try.pinned (OpenSpec.upto costAgeSpec)

/-- 'bobbinlaw11.CostPages', WHERE WHAT IT READS IS OF BULK AT MOST 1048576: true; the input reads as it did. -/
def costPagesUptoRow : OpenClaim := { program := "ythbcgbbcoanbdaa", sum := "6d46b36d2df6f0c5076574192ba3b2073ccd57ac9a0ab390d42d91038d2b6dc3", func := "bobbin/bobbinlaw11.CostPages", spec := "costPages", unfollowed := true, recurses := true, apart := false, narrowed := true }
def CostPagesUptoSaid : Prop := costPagesUptoRow.holds Try.pinned (OpenSpec.upto costPagesSpec)

end Rows
end Go.Proofs.Ythbcgbbcoanbdaa
