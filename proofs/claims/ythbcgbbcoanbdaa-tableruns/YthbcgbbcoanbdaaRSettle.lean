/-
  bobbinref10.Settle: its state.
-/
import Derived.Test.YthbcgbbcoanbdaaRNew2
import Derived.Test.YthbcgbbcoanbdaaTSettle
import Derived.Test.YthbcgbbcoanbdaaTLMath2
namespace Go.Proofs.Ythbcgbbcoanbdaa
open Go Go.RowKit

/-- Under way: the two boxes, the table as it was, the table that is made (in a box of its own). -/
structure St (w W : World) (b : Nat) (x y : TV) (T : Tb) : Prop where
  bx : Bxs w W x
  at_ : x.At W
  out : Tbl w W b y T
  hb : w.heap.size + 2 ≤ b
section
variable {w W W' : World} {b : Nat} {x y y' : TV} {T T' : Tb}
theorem St.keep (h : St w W b x y T) (hm : Mod (fun _ => False) W W') : St w W' b x y T := ⟨h.bx.keep hm, h.at_.keep hm, h.out.keep hm, h.hb⟩
theorem St.put (h : St w W b x y T) (hy : y'.At W) (ht : y'.t = T') : St w (stT W b y') b x y' T' :=
  ⟨h.bx.other (stT_mod W b y') (fun k hk e => by have := h.hb; omega), h.at_.store h.out.bx (stT_mod W b y'), h.out.put hy ht, h.hb⟩
theorem St.n (h : St w W b x y T) : y.n = T.pg.length := h.out.n
theorem St.m (h : St w W b x y T) : y.m = T.sg.length := h.out.m
/-- A store into another box. -/
theorem St.box {g : Nat} (h : St w W b x y T) (hm : Mod (fun k => k = g) W W') (hg : w.heap.size + 2 ≤ g) (hne : b ≠ g) (hx : ∀ k, blkOf x.P = some k ∨ blkOf x.S = some k → k ≠ g) (hy : ∀ k, blkOf y.P = some k ∨ blkOf y.S = some k → k ≠ g) : St w W' b x y T :=
  ⟨h.bx.other hm (fun k hk e => by omega), ⟨h.at_.pg.mod hm (fun k hk _ e => hx k (.inl hk) e), h.at_.sg.mod hm (fun k hk _ e => hx k (.inr hk) e)⟩,
   ⟨h.out.bx.mod hm hne, ⟨h.out.at_.pg.mod hm (fun k hk _ e => hy k (.inl hk) e), h.out.at_.sg.mod hm (fun k hk _ e => hy k (.inr hk) e)⟩, h.out.t, h.bx.old1 hm (fun k hk e => by omega), h.out.lo⟩, h.hb⟩
end
end Go.Proofs.Ythbcgbbcoanbdaa
