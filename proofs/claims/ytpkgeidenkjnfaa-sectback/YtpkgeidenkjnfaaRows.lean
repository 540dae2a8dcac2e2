/-
  No cell of these rows narrows 'for every input' (looked for: loops, veiled, ifaces, maps, wideKeys, modest, calm, conditions, laid).
  DERIVED. THE GIVEN ROWS OF THIS SEAT. 5 by the template 'for every input the law returns true; each argument reads behind the call as it read before'; 0 by the template 'total and deterministic' (their statements: YtpkgeidenkjnfaaTotals.lean).
  GIVEN WITH THE SEED: the statements are not yours to turn. If you find one false, say at which input.
  Laid BY PROGRAM, IN A SANDBOX (cutbox-rows.mjs): the forced cells as the released guide's own fill.sh prints them over the translation d9821d77f18de801… (all of the seat's roots in one cut). By AI agents, Wed Nov 11 2026. No macro, syntax, notation, axiom, sorry.
-/
import Derived.Test.YtpkgeidenkjnfaaChecked
import GoSem.Claim
import GoSem.ClaimJoined
import GoSem.ClaimMapViews
import Derived.JoinedTies
import Derived.KernelRfl
namespace Go.Proofs.Ytpkgeidenkjnfaa
/- THE CELL 'sum', in the pinned program and in every row, IS THE sha256 OF THE DUMP (.gsa) THAT YtpkgeidenkjnfaaProg.lean LOADS. Nothing in Lean hashes anything: it is a label: what it is worth is what the hold of that sum in a sandbox is worth. -/
noncomputable def Try.pinned : Pinned := { name := "ytpkgeidenkjnfaa", sum := "d9821d77f18de8010493a9110a34fa8b265349d26d06230e8ceeb94b92588404", checked := Try.checked }
namespace Rows
def none {H : Type} : Left H := { results := [], args := [] }

/-- 'bobbinlaw07.SectPacks': WHATEVER THE INPUT: true; the input reads as it did. -/
def sectPacksSpec : ChangeSpec := { name := "sectPacks", fn := fun _ => fun
  | [d] => { results := [.lit (.bool true)], args := [d] }
  | _ => none }
def sectPacksRow : OpenClaim := { program := "ytpkgeidenkjnfaa", sum := "d9821d77f18de8010493a9110a34fa8b265349d26d06230e8ceeb94b92588404", func := "bobbin/bobbinlaw07.SectPacks", spec := "sectPacks", unfollowed := true, recurses := true, apart := false }
def SectPacksSaid : Prop := sectPacksRow.holds Try.pinned (OpenSpec.ofChange sectPacksSpec)

/-- ITS FALSE NEIGHBOUR: 'it returns false'. Refute it at one input. -/
def sectPacksWrong : ChangeSpec := { name := "sectPacks", fn := fun _ => fun
  | [d] => { results := [.lit (.bool false)], args := [d] }
  | _ => none }
def SectPacksWrongFalsely : Prop := sectPacksRow.holds Try.pinned (OpenSpec.ofChange sectPacksWrong)

/-- 'bobbinlaw07.SectNumbers': WHATEVER THE INPUT: true; the input reads as it did. -/
def sectNumbersSpec : ChangeSpec := { name := "sectNumbers", fn := fun _ => fun
  | [d1, d2, d3] => { results := [.lit (.bool true)], args := [d1, d2, d3] }
  | _ => none }
def sectNumbersRow : OpenClaim := { program := "ytpkgeidenkjnfaa", sum := "d9821d77f18de8010493a9110a34fa8b265349d26d06230e8ceeb94b92588404", func := "bobbin/bobbinlaw07.SectNumbers", spec := "sectNumbers", unfollowed := true, recurses := true, apart := false }
def SectNumbersSaid : Prop := sectNumbersRow.holds Try.pinned (OpenSpec.ofChange sectNumbersSpec)

/-- ITS FALSE NEIGHBOUR: 'it returns false'. Refute it at one input. -/
def sectNumbersWrong : ChangeSpec := { name := "sectNumbers", fn := fun _ => fun
  | [d1, d2, d3] => { results := [.lit (.bool false)], args := [d1, d2, d3] }
  | _ => none }
def SectNumbersWrongFalsely : Prop := sectNumbersRow.holds Try.pinned (OpenSpec.ofChange sectNumbersWrong)

/-- 'bobbinlaw07.SectBack': WHATEVER THE INPUT: true; the input reads as it did. -/
def sectBackSpec : ChangeSpec := { name := "sectBack", fn := fun _ => fun
  | [d1, d2] => { results := [.lit (.bool true)], args := [d1, d2] }
  | _ => none }
def sectBackRow : OpenClaim := { program := "ytpkgeidenkjnfaa", sum := "d9821d77f18de8010493a9110a34fa8b265349d26d06230e8ceeb94b92588404", func := "bobbin/bobbinlaw07.SectBack", spec := "sectBack", unfollowed := true, recurses := true, apart := false }
def SectBackSaid : Prop := sectBackRow.holds Try.pinned (OpenSpec.ofChange sectBackSpec)

/-- ITS FALSE NEIGHBOUR: 'it returns false'. Refute it at one input. -/
def sectBackWrong : ChangeSpec := { name := "sectBack", fn := fun _ => fun
  | [d1, d2] => { results := [.lit (.bool false)], args := [d1, d2] }
  | _ => none }
def SectBackWrongFalsely : Prop := sectBackRow.holds Try.pinned (OpenSpec.ofChange sectBackWrong)

/-- 'bobbinlaw07.SectRises': WHATEVER THE INPUT: true; the input reads as it did. -/
def sectRisesSpec : ChangeSpec := { name := "sectRises", fn := fun _ => fun
  | [d1, d2, d3, d4] => { results := [.lit (.bool true)], args := [d1, d2, d3, d4] }
  | _ => none }
def sectRisesRow : OpenClaim := { program := "ytpkgeidenkjnfaa", sum := "d9821d77f18de8010493a9110a34fa8b265349d26d06230e8ceeb94b92588404", func := "bobbin/bobbinlaw07.SectRises", spec := "sectRises", unfollowed := true, recurses := true, apart := false }
def SectRisesSaid : Prop := sectRisesRow.holds Try.pinned (OpenSpec.ofChange sectRisesSpec)

/-- ITS FALSE NEIGHBOUR: 'it returns false'. Refute it at one input. -/
def sectRisesWrong : ChangeSpec := { name := "sectRises", fn := fun _ => fun
  | [d1, d2, d3, d4] => { results := [.lit (.bool false)], args := [d1, d2, d3, d4] }
  | _ => none }
def SectRisesWrongFalsely : Prop := sectRisesRow.holds Try.pinned (OpenSpec.ofChange sectRisesWrong)

/-- 'bobbinlaw07.SectHeads': WHATEVER THE INPUT: true; the input reads as it did. -/
def sectHeadsSpec : ChangeSpec := { name := "sectHeads", fn := fun _ => fun
  | [d1, d2, d3] => { results := [.lit (.bool true)], args := [d1, d2, d3] }
  | _ => none }
def sectHeadsRow : OpenClaim := { program := "ytpkgeidenkjnfaa", sum := "d9821d77f18de8010493a9110a34fa8b265349d26d06230e8ceeb94b92588404", func := "bobbin/bobbinlaw07.SectHeads", spec := "sectHeads", unfollowed := true, recurses := true, apart := false }
def SectHeadsSaid : Prop := sectHeadsRow.holds Try.pinned (OpenSpec.ofChange sectHeadsSpec)

/-- ITS FALSE NEIGHBOUR: 'it returns false'. Refute it at one input. -/
def sectHeadsWrong : ChangeSpec := { name := "sectHeads", fn := fun _ => fun
  | [d1, d2, d3] => { results := [.lit (.bool false)], args := [d1, d2, d3] }
  | _ => none }
def SectHeadsWrongFalsely : Prop := sectHeadsRow.holds Try.pinned (OpenSpec.ofChange sectHeadsWrong)

/- THE SECOND FORM. 'bulk': how many values and letters a reading holds, each counted each time it is reached (what is shared counts as often as it is met; a slice's spare places count too). A statement '..UptoSaid' is the law's where the arguments, and the package variables that the reading takes, are together of bulk at most 1048576: NARROWER than '..Said'. Prove '..Said' where nothing that the law and all that it calls make is longer than what came in: it says more and counts as full. Else prove '..UptoSaid'. A law counts once. -/
mutual
def uptoBulk {H : Type} : DataW H → Nat
  | .lit (.string bytes) => bytes.length + 1
  | .lit _ => 1
  | .nil => 1
  | .ptr d => uptoBulk d + 1
  | .slice elems spare => uptoBulkAll elems + uptoBulkAll spare + 1
  | .agg parts => uptoBulkAll parts + 1
  | .iface _ d => uptoBulk d + 1
  | .map entries => uptoBulkEntries entries + 1
  | .held _ => 1
def uptoBulkAll {H : Type} : List (DataW H) → Nat
  | [] => 0
  | d :: r => uptoBulk d + uptoBulkAll r
def uptoBulkEntries {H : Type} : List (Lit × DataW H) → Nat
  | [] => 0
  | x :: r => uptoBulkEntry x + uptoBulkEntries r
def uptoBulkEntry {H : Type} : Lit × DataW H → Nat
  | (.string bytes, d) => bytes.length + uptoBulk d + 1
  | (_, d) => uptoBulk d + 1
 end
def uptoSmall : (H : Type) → List (DataW H) → Bool := fun _ ds => decide (uptoBulkAll ds ≤ 1048576)
def OpenSpec.upto (s : _root_.Go.ChangeSpec) : _root_.Go.OpenSpec := { _root_.Go.OpenSpec.ofChange s with cond := some uptoSmall }

/-- 'bobbinlaw07.SectPacks', WHERE WHAT IT READS IS OF BULK AT MOST 1048576: true; the input reads as it did. -/
def sectPacksUptoRow : OpenClaim := { program := "ytpkgeidenkjnfaa", sum := "d9821d77f18de8010493a9110a34fa8b265349d26d06230e8ceeb94b92588404", func := "bobbin/bobbinlaw07.SectPacks", spec := "sectPacks", unfollowed := true, recurses := true, apart := false, narrowed := true }
def SectPacksUptoSaid : Prop := sectPacksUptoRow.holds Try.pinned (OpenSpec.upto sectPacksSpec)

/-- 'bobbinlaw07.SectNumbers', WHERE WHAT IT READS IS OF BULK AT MOST 1048576: true; the input reads as it did. -/
def sectNumbersUptoRow : OpenClaim := { program := "ytpkgeidenkjnfaa", sum := "d9821d77f18de8010493a9110a34fa8b265349d26d06230e8ceeb94b92588404", func := "bobbin/bobbinlaw07.SectNumbers", spec := "sectNumbers", unfollowed := true, recurses := true, apart := false, narrowed := true }
def SectNumbersUptoSaid : Prop := sectNumbersUptoRow.holds Try.pinned (OpenSpec.upto sectNumbersSpec)

/-- 'bobbinlaw07.SectBack', WHERE WHAT IT READS IS OF BULK AT MOST 1048576: true; the input reads as it did. -/
def sectBackUptoRow : OpenClaim := { program := "ytpkgeidenkjnfaa", sum := "d9821d77f18de8010493a9110a34fa8b265349d26d06230e8ceeb94b92588404", func := "bobbin/bobbinlaw07.SectBack", spec := "sectBack", unfollowed := true, recurses := true, apart := false, narrowed := true }
def SectBackUptoSaid : Prop := sectBackUptoRow.holds Try.pinned (OpenSpec.upto sectBackSpec)

/-- 'bobbinlaw07.SectRises', WHERE WHAT IT READS IS OF BULK AT MOST 1048576: true; the input reads as it did. -/
def sectRisesUptoRow : OpenClaim := { program := "ytpkgeidenkjnfaa", sum := "d9821d77f18de8010493a9110a34fa8b265349d26d06230e8ceeb94b92588404", func := "bobbin/bobbinlaw07.SectRises", spec := "sectRises", unfollowed := true, recurses := true, apart := false, narrowed := true }
def SectRisesUptoSaid : Prop := sectRisesUptoRow.holds Try.pinned (OpenSpec.upto sectRisesSpec)

/-- 'bobbinlaw07.SectHeads', WHERE WHAT IT READS IS OF BULK AT MOST 1048576: true; the input reads as it did. -/
def sectHeadsUptoRow : OpenClaim := { program := "ytpkgeidenkjnfaa", sum := "d9821d77f18de8010493a9110a34fa8b265349d26d06230e8ceeb94b92588404", func := "bobbin/bobbinlaw07.SectHeads", spec := "sectHeads", unfollowed := true, recurses := true, apart := false, narrowed := true }
def SectHeadsUptoSaid : Prop := sectHeadsUptoRow.holds Try.pinned (OpenSpec.upto sectHeadsSpec)

end Rows
end Go.Proofs.Ytpkgeidenkjnfaa
