/-
  OmapNone: a nil map.
-/
import Derived.Test.YtallokaboldflaaMOps
namespace Go.Proofs.Ytallokaboldflaa
open Go Go.RowKit

set_option maxRecDepth 100000 in
set_option maxHeartbeats 1000000 in
theorem none_walk (k : Int) (v : ByteArray) (w : World) : Calls Try.prog 4 #[.int .i64 k, .string v] w fun e w' => e = .returned (.bool true) ∧ Below w.heap.size w w' := by
  have hR : ∀ w : World, Rd w none [] := fun _ => .inl ⟨rfl, rfl⟩
  have hS : Srt [] := List.Pairwise.nil
  have Hset := Lib.hid (fun w => set_nil w k v)
  have Hget := Lib.hid (fun w => get_ok w none [] (hR w) hS (by simp) k)
  have Hdel := Lib.hid (fun w => del_miss w none [] (hR w) hS (by simp) k rfl)
  have Hall := Lib.hid (fun w => tell_all w none [] (hR w) hS (by simp) 0 (-1))
  have Hfrom := Lib.hid (fun w => tell_from w none [] (hR w) hS (by simp) k (-1))
  have Hlen := Lib.hid (fun w => len_ok w none [] (hR w))
  clear hR hS
  go_enter Try.func4, Try.ntmps4
  go_wp2_with fail
  refine (awake_ok _).mono ?_
  rintro e w1 ⟨rfl, hm1⟩
  have Hm1 := Lib.hid hm1
  clear hm1
  go_wp2_with fail
  refine (Hset.out _).mono ?_
  rintro e w1' ⟨rfl, rfl⟩
  go_wp2_with fail
  refine (Hget.out _).mono ?_
  rintro e w2 ⟨rfl, hm2⟩
  have Hm2 := Lib.hid (Hm1.out.trans hm2 (fun _ _ h => h))
  have hgv : gotV (mGet k []) = .tuple #[.string ⟨#[]⟩, .bool false] := rfl
  rw [hgv]
  clear hm2 hgv
  go_wp2_with fail
  refine (Hdel.out _).mono ?_
  rintro e w3 ⟨rfl, hm3⟩
  have Hm3 := Lib.hid (Hm2.out.trans hm3 (fun _ _ h => h))
  clear hm3
  go_wp2_with fail
  refine (Hall.out _).mono ?_
  rintro e w4 ⟨A, n, c, rfl, hp, _, hm4⟩
  obtain rfl : n = 0 := hp.len.symm
  have Hm4 := Lib.hid (Hm3.out.trans hm4 (fun _ _ h => h))
  clear hm4 hp
  go_wp2_with fail
  refine (Hfrom.out _).mono ?_
  rintro e w5 ⟨A', n', c', rfl, hp, _, hm5⟩
  obtain rfl : n' = 0 := hp.len.symm
  have Hm5 := Lib.hid (Hm4.out.trans hm5 (fun _ _ h => h))
  clear hm5 hp
  go_wp2_with fail
  refine (Hlen.out _).mono ?_
  rintro e w6 ⟨rfl, rfl⟩
  go_wp2
  go_ret
  exact ⟨rfl, Hm5.out.below (Nat.le_refl _) (fun _ _ => id)⟩
end Go.Proofs.Ytallokaboldflaa
