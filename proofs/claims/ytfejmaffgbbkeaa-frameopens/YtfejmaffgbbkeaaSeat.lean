/-
  Closed facts on the program that every frame of a proof wants.
-/
import Derived.Test.YtfejmaffgbbkeaaRows
import Derived.Test.YtfejmaffgbbkeaaFrame
import Derived.Lib.SmallJoins
namespace Go.Proofs.Ytfejmaffgbbkeaa
open Go.ChangeShapes Go.WideShapes Go.ChangeAt Go.RowKit

theorem Try.own : ownKnob Try.prog.godebug = none := by kernel_rfl
theorem Try.laidOut : laidOutB Try.prog = true := by kernel_rfl
theorem Try.bytes1 : Try.prog.bytesOf 5 = 1 := by kernel_rfl
end Go.Proofs.Ytfejmaffgbbkeaa
