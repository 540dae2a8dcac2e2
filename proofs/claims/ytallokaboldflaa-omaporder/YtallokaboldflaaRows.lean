/-
  No cell of these rows narrows 'for every input' (looked for: loops, veiled, ifaces, maps, wideKeys, modest, calm, conditions, laid).
  DERIVED. THE GIVEN ROWS OF THIS SEAT. 5 by the template 'for every input the law returns true; each argument reads behind the call as it read before'; 0 by the template 'total and deterministic' (their statements: YtallokaboldflaaTotals.lean).
  GIVEN WITH THE SEED: the statements are not yours to turn. If you find one false, say at which input.
  Laid BY PROGRAM, IN A SANDBOX (cutbox-rows.mjs): the forced cells as the released guide's own fill.sh prints them over the translation 0f675eb5edd53756… (all of the seat's roots in one cut). By AI agents, Wed Nov 11 2026. No macro, syntax, notation, axiom, sorry.
-/
import Derived.Test.YtallokaboldflaaChecked
import GoSem.Claim
import GoSem.ClaimJoined
import GoSem.ClaimMapViews
import Derived.JoinedTies
import Derived.KernelRfl
namespace Go.Proofs.Ytallokaboldflaa
/- THE CELL 'sum', in the pinned program and in every row, IS THE sha256 OF THE DUMP (.gsa) THAT YtallokaboldflaaProg.lean LOADS. Nothing in Lean hashes anything: it is a label: what it is worth is what the hold of that sum in a sandbox is worth. -/
noncomputable def Try.pinned : Pinned := { name := "ytallokaboldflaa", sum := "0f675eb5edd53756895167b4976a16527a4ccc935cc4554413f4ac5f22386d61", checked := Try.checked }
namespace Rows
def none {H : Type} : Left H := { results := [], args := [] }

/-- 'bobbinlaw04.OmapDoes': WHATEVER THE INPUT: true; the input reads as it did. -/
def omapDoesSpec : ChangeSpec := { name := "omapDoes", fn := fun _ => fun
  | [d1, d2, d3] => { results := [.lit (.bool true)], args := [d1, d2, d3] }
  | _ => none }
def omapDoesRow : OpenClaim := { program := "ytallokaboldflaa", sum := "0f675eb5edd53756895167b4976a16527a4ccc935cc4554413f4ac5f22386d61", func := "bobbin/bobbinlaw04.OmapDoes", spec := "omapDoes", inPlace := ["slices.overlaps[bobbin/omap.entry[int, string]]"], unfollowed := true, recurses := true, apart := false }
def OmapDoesSaid : Prop := omapDoesRow.holds Try.pinned (OpenSpec.ofChange omapDoesSpec)

/-- ITS FALSE NEIGHBOUR: 'it returns false'. Refute it at one input. -/
def omapDoesWrong : ChangeSpec := { name := "omapDoes", fn := fun _ => fun
  | [d1, d2, d3] => { results := [.lit (.bool false)], args := [d1, d2, d3] }
  | _ => none }
def OmapDoesWrongFalsely : Prop := omapDoesRow.holds Try.pinned (OpenSpec.ofChange omapDoesWrong)

/-- 'bobbinlaw04.OmapNone': WHATEVER THE INPUT: true; the input reads as it did. -/
def omapNoneSpec : ChangeSpec := { name := "omapNone", fn := fun _ => fun
  | [d1, d2] => { results := [.lit (.bool true)], args := [d1, d2] }
  | _ => none }
def omapNoneRow : OpenClaim := { program := "ytallokaboldflaa", sum := "0f675eb5edd53756895167b4976a16527a4ccc935cc4554413f4ac5f22386d61", func := "bobbin/bobbinlaw04.OmapNone", spec := "omapNone", inPlace := ["slices.overlaps[bobbin/omap.entry[int, string]]"], unfollowed := true, recurses := true, apart := false }
def OmapNoneSaid : Prop := omapNoneRow.holds Try.pinned (OpenSpec.ofChange omapNoneSpec)

/-- ITS FALSE NEIGHBOUR: 'it returns false'. Refute it at one input. -/
def omapNoneWrong : ChangeSpec := { name := "omapNone", fn := fun _ => fun
  | [d1, d2] => { results := [.lit (.bool false)], args := [d1, d2] }
  | _ => none }
def OmapNoneWrongFalsely : Prop := omapNoneRow.holds Try.pinned (OpenSpec.ofChange omapNoneWrong)

/-- 'bobbinlaw04.OmapOrder': WHATEVER THE INPUT: true; the input reads as it did. -/
def omapOrderSpec : ChangeSpec := { name := "omapOrder", fn := fun _ => fun
  | [d] => { results := [.lit (.bool true)], args := [d] }
  | _ => none }
def omapOrderRow : OpenClaim := { program := "ytallokaboldflaa", sum := "0f675eb5edd53756895167b4976a16527a4ccc935cc4554413f4ac5f22386d61", func := "bobbin/bobbinlaw04.OmapOrder", spec := "omapOrder", inPlace := ["slices.overlaps[bobbin/omap.entry[int, string]]"], unfollowed := true, recurses := true, apart := false }
def OmapOrderSaid : Prop := omapOrderRow.holds Try.pinned (OpenSpec.ofChange omapOrderSpec)

/-- ITS FALSE NEIGHBOUR: 'it returns false'. Refute it at one input. -/
def omapOrderWrong : ChangeSpec := { name := "omapOrder", fn := fun _ => fun
  | [d] => { results := [.lit (.bool false)], args := [d] }
  | _ => none }
def OmapOrderWrongFalsely : Prop := omapOrderRow.holds Try.pinned (OpenSpec.ofChange omapOrderWrong)

/-- 'bobbinlaw04.OmapParts': WHATEVER THE INPUT: true; the input reads as it did. -/
def omapPartsSpec : ChangeSpec := { name := "omapParts", fn := fun _ => fun
  | [d1, d2] => { results := [.lit (.bool true)], args := [d1, d2] }
  | _ => none }
def omapPartsRow : OpenClaim := { program := "ytallokaboldflaa", sum := "0f675eb5edd53756895167b4976a16527a4ccc935cc4554413f4ac5f22386d61", func := "bobbin/bobbinlaw04.OmapParts", spec := "omapParts", inPlace := ["slices.overlaps[bobbin/omap.entry[int, string]]"], unfollowed := true, recurses := true, apart := false }
def OmapPartsSaid : Prop := omapPartsRow.holds Try.pinned (OpenSpec.ofChange omapPartsSpec)

/-- ITS FALSE NEIGHBOUR: 'it returns false'. Refute it at one input. -/
def omapPartsWrong : ChangeSpec := { name := "omapParts", fn := fun _ => fun
  | [d1, d2] => { results := [.lit (.bool false)], args := [d1, d2] }
  | _ => none }
def OmapPartsWrongFalsely : Prop := omapPartsRow.holds Try.pinned (OpenSpec.ofChange omapPartsWrong)

/-- 'bobbinlaw04.OmapAgain': WHATEVER THE INPUT: true; the input reads as it did. -/
def omapAgainSpec : ChangeSpec := { name := "omapAgain", fn := fun _ => fun
  | [d1, d2] => { results := [.lit (.bool true)], args := [d1, d2] }
  | _ => none }
def omapAgainRow : OpenClaim := { program := "ytallokaboldflaa", sum := "0f675eb5edd53756895167b4976a16527a4ccc935cc4554413f4ac5f22386d61", func := "bobbin/bobbinlaw04.OmapAgain", spec := "omapAgain", inPlace := ["slices.overlaps[bobbin/omap.entry[int, string]]"], unfollowed := true, recurses := true, apart := false }
def OmapAgainSaid : Prop := omapAgainRow.holds Try.pinned (OpenSpec.ofChange omapAgainSpec)

/-- ITS FALSE NEIGHBOUR: 'it returns false'. Refute it at one input. -/
def omapAgainWrong : ChangeSpec := { name := "omapAgain", fn := fun _ => fun
  | [d1, d2] => { results := [.lit (.bool false)], args := [d1, d2] }
  | _ => none }
def OmapAgainWrongFalsely : Prop := omapAgainRow.holds Try.pinned (OpenSpec.ofChange omapAgainWrong)

/- THE SECOND FORM. 'bulk': how many values and letters a reading holds, each counted each time it is reached (what is shared counts as often as it is met; a slice's spare places count too). A statement '..UptoSaid' is the law's where the arguments, and the package variables that the reading takes, are together of bulk at most 1048576: NARROWER than '..Said'. Prove '..Said' where nothing that the law and all that it calls make is longer than what came in: it says more and counts as full. Else prove '..UptoSaid'. A law counts once. -/
mutual
def uptoBulk {H : Type} : DataW H → Nat
  | .lit (.string bytes) => bytes.length + 1
  | .lit _ => 1
  | .nil => 1
  | .ptr d => uptoBulk d + 1
  | .slice elems spare => uptoBulkAll elems + uptoBulkAll spare + 1
  | .agg parts => uptoBulkAll parts + 1
  | .iface _ d => uptoBulk d + 1
  | .map entries => uptoBulkEntries entries + 1
  | .held _ => 1
def uptoBulkAll {H : Type} : List (DataW H) → Nat
  | [] => 0
  | d :: r => uptoBulk d + uptoBulkAll r
def uptoBulkEntries {H : Type} : List (Lit × DataW H) → Nat
  | [] => 0
  | x :: r => uptoBulkEntry x + uptoBulkEntries r
def uptoBulkEntry {H : Type} : Lit × DataW H → Nat
  | (.string bytes, d) => bytes.length + uptoBulk d + 1
  | (_, d) => uptoBulk d + 1
 end
def uptoSmall : (H : Type) → List (DataW H) → Bool := fun _ ds => decide (uptoBulkAll ds ≤ 1048576)
def OpenSpec.upto (s : _root_.Go.ChangeSpec) : _root_.Go.OpenSpec := { _root_.Go.OpenSpec.ofChange s with cond := some uptoSmall }

/-- 'bobbinlaw04.OmapDoes', WHERE WHAT IT READS IS OF BULK AT MOST 1048576: true; the input reads as it did. -/
def omapDoesUptoRow : OpenClaim := { program := "ytallokaboldflaa", sum := "0f675eb5edd53756895167b4976a16527a4ccc935cc4554413f4ac5f22386d61", func := "bobbin/bobbinlaw04.OmapDoes", spec := "omapDoes", inPlace := ["slices.overlaps[bobbin/omap.entry[int, string]]"], unfollowed := true, recurses := true, apart := false, narrowed := true }
def OmapDoesUptoSaid : Prop := omapDoesUptoRow.holds Try.pinned (OpenSpec.upto omapDoesSpec)

/-- 'bobbinlaw04.OmapNone', WHERE WHAT IT READS IS OF BULK AT MOST 1048576: true; the input reads as it did. -/
def omapNoneUptoRow : OpenClaim := { program := "ytallokaboldflaa", sum := "0f675eb5edd53756895167b4976a16527a4ccc935cc4554413f4ac5f22386d61", func := "bobbin/bobbinlaw04.OmapNone", spec := "omapNone", inPlace := ["slices.overlaps[bobbin/omap.entry[int, string]]"], unfollowed := true, recurses := true, apart := false, narrowed := true }
def OmapNoneUptoSaid : Prop := omapNoneUptoRow.holds Try.pinned (OpenSpec.upto omapNoneSpec)

/-- 'bobbinlaw04.OmapOrder', WHERE WHAT IT READS IS OF BULK AT MOST 1048576: true; the input reads as it did. -/
def omapOrderUptoRow : OpenClaim := { program := "ytallokaboldflaa", sum := "0f675eb5edd53756895167b4976a16527a4ccc935cc4554413f4ac5f22386d61", func := "bobbin/bobbinlaw04.OmapOrder", spec := "omapOrder", inPlace := ["slices.overlaps[bobbin/omap.entry[int, string]]"], unfollowed := true, recurses := true, apart := false, narrowed := true }
def OmapOrderUptoSaid : Prop := omapOrderUptoRow.holds Try.pinned (OpenSpec.upto omapOrderSpec)

/-- 'bobbinlaw04.OmapParts', WHERE WHAT IT READS IS OF BULK AT MOST 1048576: true; the input reads as it did. -/
def omapPartsUptoRow : OpenClaim := { program := "ytallokaboldflaa", sum := "0f675eb5edd53756895167b4976a16527a4ccc935cc4554413f4ac5f22386d61", func := "bobbin/bobbinlaw04.OmapParts", spec := "omapParts", inPlace := ["slices.overlaps[bobbin/omap.entry[int, string]]"], unfollowed := true, recurses := true, apart := false, narrowed := true }
def OmapPartsUptoSaid : Prop := omapPartsUptoRow.holds Try.pinned (OpenSpec.upto omapPartsSpec)

/-- 'bobbinlaw04.OmapAgain', WHERE WHAT IT READS IS OF BULK AT MOST 1048576: true; the input reads as it did. -/
def omapAgainUptoRow : OpenClaim := { program := "ytallokaboldflaa", sum := "0f675eb5edd53756895167b4976a16527a4ccc935cc4554413f4ac5f22386d61", func := "bobbin/bobbinlaw04.OmapAgain", spec := "omapAgain", inPlace := ["slices.overlaps[bobbin/omap.entry[int, string]]"], unfollowed := true, recurses := true, apart := false, narrowed := true }
def OmapAgainUptoSaid : Prop := omapAgainUptoRow.holds Try.pinned (OpenSpec.upto omapAgainSpec)

end Rows
end Go.Proofs.Ytallokaboldflaa
