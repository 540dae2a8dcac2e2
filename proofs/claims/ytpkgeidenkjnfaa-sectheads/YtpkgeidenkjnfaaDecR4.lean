/-
  rec.Decode, a part of its ways.
-/
import Derived.Test.YtpkgeidenkjnfaaDecA
import Derived.Test.YtpkgeidenkjnfaaDecB
import Derived.Test.YtpkgeidenkjnfaaDecC
import Derived.Test.YtpkgeidenkjnfaaDecD
namespace Go.Proofs.Ytpkgeidenkjnfaa
open Go Go.RowKit Go.Shelf

theorem decode_ok (w : World) (A : Option Addr) (n c : Nat) (xs : List UInt8) (h : Sl w A n c xs) (hn : n ≤ 1000000) :
    Calls Try.prog 44 #[.slice A n c] w fun e w' => DecAns w w' e (decode xs) ∧ Mod (fun _ => False) w w' := by
  cases xs with
  | nil => exact decode_nil w A n c h hn
  | cons b ys =>
    cases hfl : fieldsOf b.toNat with
    | none => exact decode_none w A n c b ys hfl h hn
    | some fl =>
      cases hs : fl.foldl decStep (.got ⟨b.toNat, fun _ => 0, Vl.none, Vl.none⟩ ys) with
      | bad er => exact decode_bad w A n c b ys fl hfl er hs h hn
      | got r rest =>
        cases rest with
        | nil => exact decode_whole w A n c b ys fl hfl r hs h hn
        | cons b2 rest2 => exact decode_more w A n c b ys fl hfl r b2 rest2 hs h hn
end Go.Proofs.Ytpkgeidenkjnfaa
