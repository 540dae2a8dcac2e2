/-
  bobbinref06.Decode.
-/
import Derived.Test.YtmgimilcnjlpeaaRefD2
import Derived.Test.YtmgimilcnjlpeaaRefDa
import Derived.Test.YtmgimilcnjlpeaaRefDb
import Derived.Test.YtmgimilcnjlpeaaRefDc
import Derived.Test.YtmgimilcnjlpeaaRefDd
namespace Go.Proofs.Ytmgimilcnjlpeaa
open Go Go.RowKit

theorem rdecode_ok (w : World) (A : Option Addr) (n c : Nat) (xs : List UInt8) (h : Sl w A n c xs) (hn : n ≤ 1000000) (hc : c ≤ maxLen) :
    Calls Try.prog 17 #[.slice A n c] w fun e w' => RAns w' e (decode xs) ∧ Mod (fun _ => False) w w' := by
  cases xs with
  | nil => exact rdecode_nil w A n c h
  | cons b ys =>
    cases hfl : fieldsOf b.toNat with
    | none => exact rdecode_none w A n c b ys h hfl hn
    | some fl =>
      rcases only_some b ys fl with h3 | ⟨C, hC, hO, he⟩
      · exact rdecode_some3 w A n c b ys h fl hfl hn hc h3
      · match C, hC with
        | 0, _ => exact rdecode_some0 w A n c b ys h fl hfl hn hc hO he
        | 1, _ => exact rdecode_some1 w A n c b ys h fl hfl hn hc hO he
        | 2, _ => exact rdecode_some2 w A n c b ys h fl hfl hn hc hO he
end Go.Proofs.Ytmgimilcnjlpeaa
