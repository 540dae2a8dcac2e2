/-
  No cell of these rows narrows 'for every input' (looked for: loops, veiled, ifaces, maps, wideKeys, modest, calm, conditions, laid).
  DERIVED. THE GIVEN ROWS OF THIS SEAT. 7 by the template 'for every input the law returns true; each argument reads behind the call as it read before'; 0 by the template 'total and deterministic' (their statements: YtgeodpflaebbgaaTotals.lean).
  GIVEN WITH THE SEED: the statements are not yours to turn. If you find one false, say at which input.
  Laid BY PROGRAM, IN A SANDBOX (cutbox-rows.mjs): the forced cells as the released guide's own fill.sh prints them over the translation 075be558279b79a0… (all of the seat's roots in one cut). By AI agents, Wed Nov 11 2026. No macro, syntax, notation, axiom, sorry.
-/
import Derived.Test.YtgeodpflaebbgaaChecked
import GoSem.Claim
import GoSem.ClaimJoined
import GoSem.ClaimMapViews
import Derived.JoinedTies
import Derived.KernelRfl
namespace Go.Proofs.Ytgeodpflaebbgaa
/- THE CELL 'sum', in the pinned program and in every row, IS THE sha256 OF THE DUMP (.gsa) THAT YtgeodpflaebbgaaProg.lean LOADS. Nothing in Lean hashes anything: it is a label: what it is worth is what the hold of that sum in a sandbox is worth. -/
noncomputable def Try.pinned : Pinned := { name := "ytgeodpflaebbgaa", sum := "075be558279b79a0987cc962e0f6c0f71cc94e55447ab22f2dba73fc5cd60453", checked := Try.checked }
namespace Rows
def none {H : Type} : Left H := { results := [], args := [] }

/-- 'bobbinlaw05.PageDoes': WHATEVER THE INPUT: true; the input reads as it did. -/
def pageDoesSpec : ChangeSpec := { name := "pageDoes", fn := fun _ => fun
  | [d1, d2, d3] => { results := [.lit (.bool true)], args := [d1, d2, d3] }
  | _ => none }
def pageDoesRow : OpenClaim := { program := "ytgeodpflaebbgaa", sum := "075be558279b79a0987cc962e0f6c0f71cc94e55447ab22f2dba73fc5cd60453", func := "bobbin/bobbinlaw05.PageDoes", spec := "pageDoes", inPlace := ["slices.overlaps[bobbin/omap.entry[int, []byte]]"], unfollowed := true, recurses := true, apart := false }
def PageDoesSaid : Prop := pageDoesRow.holds Try.pinned (OpenSpec.ofChange pageDoesSpec)

/-- ITS FALSE NEIGHBOUR: 'it returns false'. Refute it at one input. -/
def pageDoesWrong : ChangeSpec := { name := "pageDoes", fn := fun _ => fun
  | [d1, d2, d3] => { results := [.lit (.bool false)], args := [d1, d2, d3] }
  | _ => none }
def PageDoesWrongFalsely : Prop := pageDoesRow.holds Try.pinned (OpenSpec.ofChange pageDoesWrong)

/-- 'bobbinlaw05.PageOdd': WHATEVER THE INPUT: true; the input reads as it did. -/
def pageOddSpec : ChangeSpec := { name := "pageOdd", fn := fun _ => fun
  | [d1, d2, d3] => { results := [.lit (.bool true)], args := [d1, d2, d3] }
  | _ => none }
def pageOddRow : OpenClaim := { program := "ytgeodpflaebbgaa", sum := "075be558279b79a0987cc962e0f6c0f71cc94e55447ab22f2dba73fc5cd60453", func := "bobbin/bobbinlaw05.PageOdd", spec := "pageOdd", inPlace := ["slices.overlaps[bobbin/omap.entry[int, []byte]]"], unfollowed := true, recurses := true, apart := false }
def PageOddSaid : Prop := pageOddRow.holds Try.pinned (OpenSpec.ofChange pageOddSpec)

/-- ITS FALSE NEIGHBOUR: 'it returns false'. Refute it at one input. -/
def pageOddWrong : ChangeSpec := { name := "pageOdd", fn := fun _ => fun
  | [d1, d2, d3] => { results := [.lit (.bool false)], args := [d1, d2, d3] }
  | _ => none }
def PageOddWrongFalsely : Prop := pageOddRow.holds Try.pinned (OpenSpec.ofChange pageOddWrong)

/-- 'bobbinlaw05.PageLast': WHATEVER THE INPUT: true; the input reads as it did. -/
def pageLastSpec : ChangeSpec := { name := "pageLast", fn := fun _ => fun
  | [d1, d2, d3, d4] => { results := [.lit (.bool true)], args := [d1, d2, d3, d4] }
  | _ => none }
def pageLastRow : OpenClaim := { program := "ytgeodpflaebbgaa", sum := "075be558279b79a0987cc962e0f6c0f71cc94e55447ab22f2dba73fc5cd60453", func := "bobbin/bobbinlaw05.PageLast", spec := "pageLast", inPlace := ["slices.overlaps[bobbin/omap.entry[int, []byte]]"], unfollowed := true, recurses := true, apart := false }
def PageLastSaid : Prop := pageLastRow.holds Try.pinned (OpenSpec.ofChange pageLastSpec)

/-- ITS FALSE NEIGHBOUR: 'it returns false'. Refute it at one input. -/
def pageLastWrong : ChangeSpec := { name := "pageLast", fn := fun _ => fun
  | [d1, d2, d3, d4] => { results := [.lit (.bool false)], args := [d1, d2, d3, d4] }
  | _ => none }
def PageLastWrongFalsely : Prop := pageLastRow.holds Try.pinned (OpenSpec.ofChange pageLastWrong)

/-- 'bobbinlaw05.PageOrder': WHATEVER THE INPUT: true; the input reads as it did. -/
def pageOrderSpec : ChangeSpec := { name := "pageOrder", fn := fun _ => fun
  | [d1, d2, d3, d4] => { results := [.lit (.bool true)], args := [d1, d2, d3, d4] }
  | _ => none }
def pageOrderRow : OpenClaim := { program := "ytgeodpflaebbgaa", sum := "075be558279b79a0987cc962e0f6c0f71cc94e55447ab22f2dba73fc5cd60453", func := "bobbin/bobbinlaw05.PageOrder", spec := "pageOrder", inPlace := ["slices.overlaps[bobbin/omap.entry[int, []byte]]"], unfollowed := true, recurses := true, apart := false }
def PageOrderSaid : Prop := pageOrderRow.holds Try.pinned (OpenSpec.ofChange pageOrderSpec)

/-- ITS FALSE NEIGHBOUR: 'it returns false'. Refute it at one input. -/
def pageOrderWrong : ChangeSpec := { name := "pageOrder", fn := fun _ => fun
  | [d1, d2, d3, d4] => { results := [.lit (.bool false)], args := [d1, d2, d3, d4] }
  | _ => none }
def PageOrderWrongFalsely : Prop := pageOrderRow.holds Try.pinned (OpenSpec.ofChange pageOrderWrong)

/-- 'bobbinlaw05.PageUses': WHATEVER THE INPUT: true; the input reads as it did. -/
def pageUsesSpec : ChangeSpec := { name := "pageUses", fn := fun _ => fun
  | [d1, d2, d3] => { results := [.lit (.bool true)], args := [d1, d2, d3] }
  | _ => none }
def pageUsesRow : OpenClaim := { program := "ytgeodpflaebbgaa", sum := "075be558279b79a0987cc962e0f6c0f71cc94e55447ab22f2dba73fc5cd60453", func := "bobbin/bobbinlaw05.PageUses", spec := "pageUses", inPlace := ["slices.overlaps[bobbin/omap.entry[int, []byte]]"], unfollowed := true, recurses := true, apart := false }
def PageUsesSaid : Prop := pageUsesRow.holds Try.pinned (OpenSpec.ofChange pageUsesSpec)

/-- ITS FALSE NEIGHBOUR: 'it returns false'. Refute it at one input. -/
def pageUsesWrong : ChangeSpec := { name := "pageUses", fn := fun _ => fun
  | [d1, d2, d3] => { results := [.lit (.bool false)], args := [d1, d2, d3] }
  | _ => none }
def PageUsesWrongFalsely : Prop := pageUsesRow.holds Try.pinned (OpenSpec.ofChange pageUsesWrong)

/-- 'bobbinlaw05.PageFull': WHATEVER THE INPUT: true; the input reads as it did. -/
def pageFullSpec : ChangeSpec := { name := "pageFull", fn := fun _ => fun
  | [d1, d2] => { results := [.lit (.bool true)], args := [d1, d2] }
  | _ => none }
def pageFullRow : OpenClaim := { program := "ytgeodpflaebbgaa", sum := "075be558279b79a0987cc962e0f6c0f71cc94e55447ab22f2dba73fc5cd60453", func := "bobbin/bobbinlaw05.PageFull", spec := "pageFull", inPlace := ["slices.overlaps[bobbin/omap.entry[int, []byte]]"], unfollowed := true, recurses := true, apart := false }
def PageFullSaid : Prop := pageFullRow.holds Try.pinned (OpenSpec.ofChange pageFullSpec)

/-- ITS FALSE NEIGHBOUR: 'it returns false'. Refute it at one input. -/
def pageFullWrong : ChangeSpec := { name := "pageFull", fn := fun _ => fun
  | [d1, d2] => { results := [.lit (.bool false)], args := [d1, d2] }
  | _ => none }
def PageFullWrongFalsely : Prop := pageFullRow.holds Try.pinned (OpenSpec.ofChange pageFullWrong)

/-- 'bobbinlaw05.PageOwn': WHATEVER THE INPUT: true; the input reads as it did. -/
def pageOwnSpec : ChangeSpec := { name := "pageOwn", fn := fun _ => fun
  | [d1, d2, d3] => { results := [.lit (.bool true)], args := [d1, d2, d3] }
  | _ => none }
def pageOwnRow : OpenClaim := { program := "ytgeodpflaebbgaa", sum := "075be558279b79a0987cc962e0f6c0f71cc94e55447ab22f2dba73fc5cd60453", func := "bobbin/bobbinlaw05.PageOwn", spec := "pageOwn", inPlace := ["slices.overlaps[bobbin/omap.entry[int, []byte]]"], unfollowed := true, recurses := true, apart := false }
def PageOwnSaid : Prop := pageOwnRow.holds Try.pinned (OpenSpec.ofChange pageOwnSpec)

/-- ITS FALSE NEIGHBOUR: 'it returns false'. Refute it at one input. -/
def pageOwnWrong : ChangeSpec := { name := "pageOwn", fn := fun _ => fun
  | [d1, d2, d3] => { results := [.lit (.bool false)], args := [d1, d2, d3] }
  | _ => none }
def PageOwnWrongFalsely : Prop := pageOwnRow.holds Try.pinned (OpenSpec.ofChange pageOwnWrong)

/- THE SECOND FORM. 'bulk': how many values and letters a reading holds, each counted each time it is reached (what is shared counts as often as it is met; a slice's spare places count too). A statement '..UptoSaid' is the law's where the arguments, and the package variables that the reading takes, are together of bulk at most 1048576: NARROWER than '..Said'. Prove '..Said' where nothing that the law and all that it calls make is longer than what came in: it says more and counts as full. Else prove '..UptoSaid'. A law counts once. -/
mutual
def uptoBulk {H : Type} : DataW H → Nat
  | .lit (.string bytes) => bytes.length + 1
  | .lit _ => 1
  | .nil => 1
  | .ptr d => uptoBulk d + 1
  | .slice elems spare => uptoBulkAll elems + uptoBulkAll spare + 1
  | .agg parts => uptoBulkAll parts + 1
  | .iface _ d => uptoBulk d + 1
  | .map entries => uptoBulkEntries entries + 1
  | .held _ => 1
def uptoBulkAll {H : Type} : List (DataW H) → Nat
  | [] => 0
  | d :: r => uptoBulk d + uptoBulkAll r
def uptoBulkEntries {H : Type} : List (Lit × DataW H) → Nat
  | [] => 0
  | x :: r => uptoBulkEntry x + uptoBulkEntries r
def uptoBulkEntry {H : Type} : Lit × DataW H → Nat
  | (.string bytes, d) => bytes.length + uptoBulk d + 1
  | (_, d) => uptoBulk d + 1
 end
def uptoSmall : (H : Type) → List (DataW H) → Bool := fun _ ds => decide (uptoBulkAll ds ≤ 1048576)
def OpenSpec.upto (s : _root_.Go.ChangeSpec) : _root_.Go.OpenSpec := { _root_.Go.OpenSpec.ofChange s with cond := some uptoSmall }

/-- 'bobbinlaw05.PageDoes', WHERE WHAT IT READS IS OF BULK AT MOST 1048576: true; the input reads as it did. -/
def pageDoesUptoRow : OpenClaim := { program := "ytgeodpflaebbgaa", sum := "075be558279b79a0987cc962e0f6c0f71cc94e55447ab22f2dba73fc5cd60453", func := "bobbin/bobbinlaw05.PageDoes", spec := "pageDoes", inPlace := ["slices.overlaps[bobbin/omap.entry[int, []byte]]"], unfollowed := true, recurses := true, apart := false, narrowed := true }
def PageDoesUptoSaid : Prop := pageDoesUptoRow.holds Try.pinned (OpenSpec.upto pageDoesSpec)

/-- 'bobbinlaw05.PageOdd', WHERE WHAT IT READS IS OF BULK AT MOST 1048576: true; the input reads as it did. -/
def pageOddUptoRow : OpenClaim := { program := "ytgeodpflaebbgaa", sum := "075be558279b79a0987cc962e0f6c0f71cc94e55447ab22f2dba73fc5cd60453", func := "bobbin/bobbinlaw05.PageOdd", spec := "pageOdd", inPlace := ["slices.overlaps[bobbin/omap.entry[int, []byte]]"], unfollowed := true, recurses := true, apart := false, narrowed := true }
def PageOddUptoSaid : Prop := pageOddUptoRow.holds Try.pinned (OpenSpec.upto pageOddSpec)

/-- 'bobbinlaw05.PageLast', WHERE WHAT IT READS IS OF BULK AT MOST 1048576: true; the input reads as it did. -/
def pageLastUptoRow : OpenClaim := { program := "ytgeodpflaebbgaa", sum := "075be558279b79a0987cc962e0f6c0f71cc94e55447ab22f2dba73fc5cd60453", func := "bobbin/bobbinlaw05.PageLast", spec := "pageLast", inPlace := ["slices.overlaps[bobbin/omap.entry[int, []byte]]"], unfollowed := true, recurses := true, apart := false, narrowed := true }
def PageLastUptoSaid : Prop := pageLastUptoRow.holds Try.pinned (OpenSpec.upto pageLastSpec)

/-- 'bobbinlaw05.PageOrder', WHERE WHAT IT READS IS OF BULK AT MOST 1048576: true; the input reads as it did. -/
def pageOrderUptoRow : OpenClaim := { program := "ytgeodpflaebbgaa", sum := "075be558279b79a0987cc962e0f6c0f71cc94e55447ab22f2dba73fc5cd60453", func := "bobbin/bobbinlaw05.PageOrder", spec := "pageOrder", inPlace := ["slices.overlaps[bobbin/omap.entry[int, []byte]]"], unfollowed := true, recurses := true, apart := false, narrowed := true }
def PageOrderUptoSaid : Prop := pageOrderUptoRow.holds Try.pinned (OpenSpec.upto pageOrderSpec)

/-- 'bobbinlaw05.PageUses', WHERE WHAT IT READS IS OF BULK AT MOST 1048576: true; the input reads as it did. -/
def pageUsesUptoRow : OpenClaim := { program := "ytgeodpflaebbgaa", sum := "075be558279b79a0987cc962e0f6c0f71cc94e55447ab22f2dba73fc5cd60453", func := "bobbin/bobbinlaw05.PageUses", spec := "pageUses", inPlace := ["slices.overlaps[bobbin/omap.entry[int, []byte]]"], unfollowed := true, recurses := true, apart := false, narrowed := true }
def PageUsesUptoSaid : Prop := pageUsesUptoRow.holds Try.pinned (OpenSpec.upto pageUsesSpec)

/-- 'bobbinlaw05.PageFull', WHERE WHAT IT READS IS OF BULK AT MOST 1048576: true; the input reads as it did. -/
def pageFullUptoRow : OpenClaim := { program := "ytgeodpflaebbgaa", sum := "075be558279b79a0987cc962e0f6c0f71cc94e55447ab22f2dba73fc5cd60453", func := "bobbin/bobbinlaw05.PageFull", spec := "pageFull", inPlace := ["slices.overlaps[bobbin/omap.entry[int, []byte]]"], unfollowed := true, recurses := true, apart := false, narrowed := true }
def PageFullUptoSaid : Prop := pageFullUptoRow.holds Try.pinned (OpenSpec.upto pageFullSpec)

/-- 'bobbinlaw05.PageOwn', WHERE WHAT IT READS IS OF BULK AT MOST 1048576: true; the input reads as it did. -/
def pageOwnUptoRow : OpenClaim := { program := "ytgeodpflaebbgaa", sum := "075be558279b79a0987cc962e0f6c0f71cc94e55447ab22f2dba73fc5cd60453", func := "bobbin/bobbinlaw05.PageOwn", spec := "pageOwn", inPlace := ["slices.overlaps[bobbin/omap.entry[int, []byte]]"], unfollowed := true, recurses := true, apart := false, narrowed := true }
def PageOwnUptoSaid : Prop := pageOwnUptoRow.holds Try.pinned (OpenSpec.upto pageOwnSpec)

end Rows
end Go.Proofs.Ytgeodpflaebbgaa
