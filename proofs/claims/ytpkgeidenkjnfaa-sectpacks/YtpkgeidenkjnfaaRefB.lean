/-
  bobbinref06: put, value, has.
-/
import Derived.Test.YtpkgeidenkjnfaaRefS
namespace Go.Proofs.Ytpkgeidenkjnfaa
open Go Go.RowKit

set_option maxRecDepth 100000 in
theorem rvalue_o (w : World) (x : RcD) :
    Calls Try.prog 58 #[x.val, .int .u8 79] w fun e w' => e = .returned (.agg #[.bool x.o.is, .slice x.o.B x.o.m x.o.d]) ∧ Mod (fun _ => False) w w' := by
  go_enter Try.func58, Try.ntmps58
  go_wp2
  refine bodyPost_ret (v := .agg #[.bool x.o.is, .slice x.o.B x.o.m x.o.d]) (by simp [results, Try.results58, go_sem]) rfl ?_
  exact ⟨rfl, ((Mod.refl _ w).alloc _).alloc _⟩
set_option maxRecDepth 100000 in
theorem rvalue_v (w : World) (x : RcD) :
    Calls Try.prog 58 #[x.val, .int .u8 78] w fun e w' => e = .returned (.agg #[.bool x.v.is, .slice x.v.B x.v.m x.v.d]) ∧ Mod (fun _ => False) w w' := by
  go_enter Try.func58, Try.ntmps58
  go_wp2
  refine bodyPost_ret (v := .agg #[.bool x.v.is, .slice x.v.B x.v.m x.v.d]) (by simp [results, Try.results58, go_sem]) rfl ?_
  exact ⟨rfl, ((Mod.refl _ w).alloc _).alloc _⟩

end Go.Proofs.Ytpkgeidenkjnfaa
