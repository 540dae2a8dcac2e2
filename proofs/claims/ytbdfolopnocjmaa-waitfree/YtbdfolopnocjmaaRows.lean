/-
  No cell of these rows narrows 'for every input' (looked for: loops, veiled, ifaces, maps, wideKeys, modest, calm, conditions, laid).
  DERIVED. THE GIVEN ROWS OF THIS SEAT. 5 by the template 'for every input the law returns true; each argument reads behind the call as it read before'; 0 by the template 'total and deterministic' (their statements: YtbdfolopnocjmaaTotals.lean).
  GIVEN WITH THE SEED: the statements are not yours to turn. If you find one false, say at which input.
  Laid BY PROGRAM, IN A SANDBOX (cutbox-rows.mjs): the forced cells as the released guide's own fill.sh prints them over the translation a81ba58cab79cb6c… (all of the seat's roots in one cut). By AI agents, Wed Nov 11 2026. No macro, syntax, notation, axiom, sorry.
-/
import Derived.Test.YtbdfolopnocjmaaChecked
import GoSem.Claim
import GoSem.ClaimJoined
import GoSem.ClaimMapViews
import Derived.JoinedTies
import Derived.KernelRfl
namespace Go.Proofs.Ytbdfolopnocjmaa
/- THE CELL 'sum', in the pinned program and in every row, IS THE sha256 OF THE DUMP (.gsa) THAT YtbdfolopnocjmaaProg.lean LOADS. Nothing in Lean hashes anything: it is a label: what it is worth is what the hold of that sum in a sandbox is worth. -/
noncomputable def Try.pinned : Pinned := { name := "ytbdfolopnocjmaa", sum := "a81ba58cab79cb6ce451a1471a05e6bedffff25e565edee58a1517fa73834c8f", checked := Try.checked }
namespace Rows
def none {H : Type} : Left H := { results := [], args := [] }

/-- 'bobbinlaw13.WaitTells': WHATEVER THE INPUT: true; the input reads as it did. -/
def waitTellsSpec : ChangeSpec := { name := "waitTells", fn := fun _ => fun
  | [d1, d2, d3] => { results := [.lit (.bool true)], args := [d1, d2, d3] }
  | _ => none }
def waitTellsRow : OpenClaim := { program := "ytbdfolopnocjmaa", sum := "a81ba58cab79cb6ce451a1471a05e6bedffff25e565edee58a1517fa73834c8f", func := "bobbin/bobbinlaw13.WaitTells", spec := "waitTells", unfollowed := true, recurses := true, apart := false }
def WaitTellsSaid : Prop := waitTellsRow.holds Try.pinned (OpenSpec.ofChange waitTellsSpec)

/-- ITS FALSE NEIGHBOUR: 'it returns false'. Refute it at one input. -/
def waitTellsWrong : ChangeSpec := { name := "waitTells", fn := fun _ => fun
  | [d1, d2, d3] => { results := [.lit (.bool false)], args := [d1, d2, d3] }
  | _ => none }
def WaitTellsWrongFalsely : Prop := waitTellsRow.holds Try.pinned (OpenSpec.ofChange waitTellsWrong)

/-- 'bobbinlaw13.WaitSteps': WHATEVER THE INPUT: true; the input reads as it did. -/
def waitStepsSpec : ChangeSpec := { name := "waitSteps", fn := fun _ => fun
  | [d1, d2, d3, d4] => { results := [.lit (.bool true)], args := [d1, d2, d3, d4] }
  | _ => none }
def waitStepsRow : OpenClaim := { program := "ytbdfolopnocjmaa", sum := "a81ba58cab79cb6ce451a1471a05e6bedffff25e565edee58a1517fa73834c8f", func := "bobbin/bobbinlaw13.WaitSteps", spec := "waitSteps", unfollowed := true, recurses := true, apart := false }
def WaitStepsSaid : Prop := waitStepsRow.holds Try.pinned (OpenSpec.ofChange waitStepsSpec)

/-- ITS FALSE NEIGHBOUR: 'it returns false'. Refute it at one input. -/
def waitStepsWrong : ChangeSpec := { name := "waitSteps", fn := fun _ => fun
  | [d1, d2, d3, d4] => { results := [.lit (.bool false)], args := [d1, d2, d3, d4] }
  | _ => none }
def WaitStepsWrongFalsely : Prop := waitStepsRow.holds Try.pinned (OpenSpec.ofChange waitStepsWrong)

/-- 'bobbinlaw13.WaitFree': WHATEVER THE INPUT: true; the input reads as it did. -/
def waitFreeSpec : ChangeSpec := { name := "waitFree", fn := fun _ => fun
  | [d] => { results := [.lit (.bool true)], args := [d] }
  | _ => none }
def waitFreeRow : OpenClaim := { program := "ytbdfolopnocjmaa", sum := "a81ba58cab79cb6ce451a1471a05e6bedffff25e565edee58a1517fa73834c8f", func := "bobbin/bobbinlaw13.WaitFree", spec := "waitFree", unfollowed := true, recurses := true, apart := false }
def WaitFreeSaid : Prop := waitFreeRow.holds Try.pinned (OpenSpec.ofChange waitFreeSpec)

/-- ITS FALSE NEIGHBOUR: 'it returns false'. Refute it at one input. -/
def waitFreeWrong : ChangeSpec := { name := "waitFree", fn := fun _ => fun
  | [d] => { results := [.lit (.bool false)], args := [d] }
  | _ => none }
def WaitFreeWrongFalsely : Prop := waitFreeRow.holds Try.pinned (OpenSpec.ofChange waitFreeWrong)

/-- 'bobbinlaw13.WaitMore': WHATEVER THE INPUT: true; the input reads as it did. -/
def waitMoreSpec : ChangeSpec := { name := "waitMore", fn := fun _ => fun
  | [d1, d2, d3, d4, d5] => { results := [.lit (.bool true)], args := [d1, d2, d3, d4, d5] }
  | _ => none }
def waitMoreRow : OpenClaim := { program := "ytbdfolopnocjmaa", sum := "a81ba58cab79cb6ce451a1471a05e6bedffff25e565edee58a1517fa73834c8f", func := "bobbin/bobbinlaw13.WaitMore", spec := "waitMore", unfollowed := true, recurses := true, apart := false }
def WaitMoreSaid : Prop := waitMoreRow.holds Try.pinned (OpenSpec.ofChange waitMoreSpec)

/-- ITS FALSE NEIGHBOUR: 'it returns false'. Refute it at one input. -/
def waitMoreWrong : ChangeSpec := { name := "waitMore", fn := fun _ => fun
  | [d1, d2, d3, d4, d5] => { results := [.lit (.bool false)], args := [d1, d2, d3, d4, d5] }
  | _ => none }
def WaitMoreWrongFalsely : Prop := waitMoreRow.holds Try.pinned (OpenSpec.ofChange waitMoreWrong)

/-- 'bobbinlaw13.WaitOrder': WHATEVER THE INPUT: true; the input reads as it did. -/
def waitOrderSpec : ChangeSpec := { name := "waitOrder", fn := fun _ => fun
  | [d1, d2, d3] => { results := [.lit (.bool true)], args := [d1, d2, d3] }
  | _ => none }
def waitOrderRow : OpenClaim := { program := "ytbdfolopnocjmaa", sum := "a81ba58cab79cb6ce451a1471a05e6bedffff25e565edee58a1517fa73834c8f", func := "bobbin/bobbinlaw13.WaitOrder", spec := "waitOrder", unfollowed := true, recurses := true, apart := false }
def WaitOrderSaid : Prop := waitOrderRow.holds Try.pinned (OpenSpec.ofChange waitOrderSpec)

/-- ITS FALSE NEIGHBOUR: 'it returns false'. Refute it at one input. -/
def waitOrderWrong : ChangeSpec := { name := "waitOrder", fn := fun _ => fun
  | [d1, d2, d3] => { results := [.lit (.bool false)], args := [d1, d2, d3] }
  | _ => none }
def WaitOrderWrongFalsely : Prop := waitOrderRow.holds Try.pinned (OpenSpec.ofChange waitOrderWrong)

/- THE SECOND FORM. 'bulk': how many values and letters a reading holds, each counted each time it is reached (what is shared counts as often as it is met; a slice's spare places count too). A statement '..UptoSaid' is the law's where the arguments, and the package variables that the reading takes, are together of bulk at most 1048576: NARROWER than '..Said'. Prove '..Said' where nothing that the law and all that it calls make is longer than what came in: it says more and counts as full. Else prove '..UptoSaid'. A law counts once. -/
mutual
def uptoBulk {H : Type} : DataW H → Nat
  | .lit (.string bytes) => bytes.length + 1
  | .lit _ => 1
  | .nil => 1
  | .ptr d => uptoBulk d + 1
  | .slice elems spare => uptoBulkAll elems + uptoBulkAll spare + 1
  | .agg parts => uptoBulkAll parts + 1
  | .iface _ d => uptoBulk d + 1
  | .map entries => uptoBulkEntries entries + 1
  | .held _ => 1
def uptoBulkAll {H : Type} : List (DataW H) → Nat
  | [] => 0
  | d :: r => uptoBulk d + uptoBulkAll r
def uptoBulkEntries {H : Type} : List (Lit × DataW H) → Nat
  | [] => 0
  | x :: r => uptoBulkEntry x + uptoBulkEntries r
def uptoBulkEntry {H : Type} : Lit × DataW H → Nat
  | (.string bytes, d) => bytes.length + uptoBulk d + 1
  | (_, d) => uptoBulk d + 1
 end
def uptoSmall : (H : Type) → List (DataW H) → Bool := fun _ ds => decide (uptoBulkAll ds ≤ 1048576)
def OpenSpec.upto (s : _root_.Go.ChangeSpec) : _root_.Go.OpenSpec := { _root_.Go.OpenSpec.ofChange s with cond := some uptoSmall }

/-- 'bobbinlaw13.WaitTells', WHERE WHAT IT READS IS OF BULK AT MOST 1048576: true; the input reads as it did. -/
def waitTellsUptoRow : OpenClaim := { program := "ytbdfolopnocjmaa", sum := "a81ba58cab79cb6ce451a1471a05e6bedffff25e565edee58a1517fa73834c8f", func := "bobbin/bobbinlaw13.WaitTells", spec := "waitTells", unfollowed := true, recurses := true, apart := false, narrowed := true }
def WaitTellsUptoSaid : Prop := waitTellsUptoRow.holds Try.pinned (OpenSpec.upto waitTellsSpec)

/-- 'bobbinlaw13.WaitSteps', WHERE WHAT IT READS IS OF BULK AT MOST 1048576: true; the input reads as it did. -/
def waitStepsUptoRow : OpenClaim := { program := "ytbdfolopnocjmaa", sum := "a81ba58cab79cb6ce451a1471a05e6bedffff25e565edee58a1517fa73834c8f", func := "bobbin/bobbinlaw13.WaitSteps", spec := "waitSteps", unfollowed := true, recurses := true, apart := false, narrowed := true }
def WaitStepsUptoSaid : Prop := waitStepsUptoRow.holds Try.pinned (OpenSpec.upto waitStepsSpec)

/-- 'bobbinlaw13.WaitFree', WHERE WHAT IT READS IS OF BULK AT MOST 1048576: true; the input reads as it did. -/
def waitFreeUptoRow : OpenClaim := { program := "ytbdfolopnocjmaa", sum := "a81ba58cab79cb6ce451a1471a05e6bedffff25e565edee58a1517fa73834c8f", func := "bobbin/bobbinlaw13.WaitFree", spec := "waitFree", unfollowed := true, recurses := true, apart := false, narrowed := true }
def WaitFreeUptoSaid : Prop := waitFreeUptoRow.holds Try.pinned (OpenSpec.upto waitFreeSpec)

/-- 'bobbinlaw13.WaitMore', WHERE WHAT IT READS IS OF BULK AT MOST 1048576: true; the input reads as it did. -/
def waitMoreUptoRow : OpenClaim := { program := "ytbdfolopnocjmaa", sum := "a81ba58cab79cb6ce451a1471a05e6bedffff25e565edee58a1517fa73834c8f", func := "bobbin/bobbinlaw13.WaitMore", spec := "waitMore", unfollowed := true, recurses := true, apart := false, narrowed := true }
def WaitMoreUptoSaid : Prop := waitMoreUptoRow.holds Try.pinned (OpenSpec.upto waitMoreSpec)

/-- 'bobbinlaw13.WaitOrder', WHERE WHAT IT READS IS OF BULK AT MOST 1048576: true; the input reads as it did. -/
def waitOrderUptoRow : OpenClaim := { program := "ytbdfolopnocjmaa", sum := "a81ba58cab79cb6ce451a1471a05e6bedffff25e565edee58a1517fa73834c8f", func := "bobbin/bobbinlaw13.WaitOrder", spec := "waitOrder", unfollowed := true, recurses := true, apart := false, narrowed := true }
def WaitOrderUptoSaid : Prop := waitOrderUptoRow.holds Try.pinned (OpenSpec.upto waitOrderSpec)

end Rows
end Go.Proofs.Ytbdfolopnocjmaa
