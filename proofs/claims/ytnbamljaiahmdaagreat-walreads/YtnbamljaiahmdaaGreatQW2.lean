/-
  wal.New.
  What a log tells of itself: Next, Durable, Start, Free; Cut.
  A log writes what it has buffered.
  append onto a row of the call's own: the row as it was is still there.
-/
import Derived.Test.YtnbamljaiahmdaaGreatQCp2
namespace Go.Proofs.YtnbamljaiahmdaaGreat
open Go Go.RowKit Go.Shelf

/-- May a log of these numbers be, on a device of N sectors? -/
structure MayL (N : Nat) (base n ep st nx : Int) : Prop where
  b0 : ¬ base < 0
  n2 : ¬ n < 2
  bn : ¬ (N : Int) - n < base
  e1 : ¬ ep < 1
  e2 : ¬ 255 < ep
  s0 : ¬ st < 0
  sn : ¬ nx < st
  nm : ¬ 16777215 < nx
  room : ¬ n < nx - st
def newG (base n ep st nx : Int) : Lg := ⟨base, n, ep, nx, st, nx, nx, []⟩
def newV (w : World) (x : DV) (base n ep st nx : Int) : LV := ⟨w.heap.size, x, none, 0, newG base n ep st nx⟩

set_option maxRecDepth 100000 in
theorem wnew_no0 (w w0 : World) (x : DV) (d : Dk) (_h : Dev w0 w x d) (base n ep st nx : Int) (_bB : base < 9223372036854775808) (_bb : -9223372036854775808 ≤ base) (_nB : n < 9223372036854775808)  (h0 : base < 0) :
    Calls Tryz.prog 12 #[.pointer (some ⟨x.p, 0, none⟩), .int .i64 base, .int .i64 n, .int .i64 ep, .int .i64 st, .int .i64 nx] w fun e w' => e = .returned (.tuple #[.pointer none, .int .i64 1]) ∧ w' = w := by
  have k0 : decide (base < 0) = true := by simpa using h0
  clear _h _bB _bb _nB
  go_enter Tryz.func12, Tryz.ntmps12
  go_wp2
  go_ret2
  exact ⟨rfl, rfl⟩
set_option maxRecDepth 100000 in
theorem wnew_no1 (w w0 : World) (x : DV) (d : Dk) (_h : Dev w0 w x d) (base n ep st nx : Int) (_bB : base < 9223372036854775808) (_bb : -9223372036854775808 ≤ base) (_nB : n < 9223372036854775808) (h0 : ¬ base < 0) (h1 : n < 2) :
    Calls Tryz.prog 12 #[.pointer (some ⟨x.p, 0, none⟩), .int .i64 base, .int .i64 n, .int .i64 ep, .int .i64 st, .int .i64 nx] w fun e w' => e = .returned (.tuple #[.pointer none, .int .i64 1]) ∧ w' = w := by
  have k0 : decide (base < 0) = false := by simpa using h0
  have k1 : decide (n < 2) = true := by simpa using h1
  clear _h _bB _bb _nB
  go_enter Tryz.func12, Tryz.ntmps12
  go_wp2
  go_ret2
  exact ⟨rfl, rfl⟩
set_option maxRecDepth 100000 in
theorem wnew_no2 (w w0 : World) (x : DV) (d : Dk) (h : Dev w0 w x d) (base n ep st nx : Int) (bB : base < 9223372036854775808) (bb : -9223372036854775808 ≤ base) (nB : n < 9223372036854775808) (h0 : ¬ base < 0) (h1 : ¬ n < 2) (h2 : d.dur.length - n < base) :
    Calls Tryz.prog 12 #[.pointer (some ⟨x.p, 0, none⟩), .int .i64 base, .int .i64 n, .int .i64 ep, .int .i64 st, .int .i64 nx] w fun e w' => e = .returned (.tuple #[.pointer none, .int .i64 1]) ∧ w' = w := by
  have k0 : decide (base < 0) = false := by simpa using h0
  have k1 : decide (n < 2) = false := by simpa using h1
  have k2 : decide (d.dur.length - n < base) = true := by simpa using h2
  have Hlen := Lib.hid (dev_len w0 w x d h)
  have hfew := h.at_.few
  have hlenD := h.lenD
  rw [hlenD] at hfew
  clear h hlenD
  go_enter Tryz.func12, Tryz.ntmps12
  go_wp2_with fail
  refine Hlen.out.mono ?_
  rintro e w1 ⟨rfl, rfl⟩
  clear Hlen
  go_wp2
  go_ret2
  exact ⟨rfl, rfl⟩
set_option maxRecDepth 100000 in
theorem wnew_no3 (w w0 : World) (x : DV) (d : Dk) (h : Dev w0 w x d) (base n ep st nx : Int) (bB : base < 9223372036854775808) (bb : -9223372036854775808 ≤ base) (nB : n < 9223372036854775808) (h0 : ¬ base < 0) (h1 : ¬ n < 2) (h2 : ¬ d.dur.length - n < base) (h3 : ep < 1) :
    Calls Tryz.prog 12 #[.pointer (some ⟨x.p, 0, none⟩), .int .i64 base, .int .i64 n, .int .i64 ep, .int .i64 st, .int .i64 nx] w fun e w' => e = .returned (.tuple #[.pointer none, .int .i64 1]) ∧ w' = w := by
  have k0 : decide (base < 0) = false := by simpa using h0
  have k1 : decide (n < 2) = false := by simpa using h1
  have k2 : decide (d.dur.length - n < base) = false := by simpa using h2
  have k3 : decide (ep < 1) = true := by simpa using h3
  have Hlen := Lib.hid (dev_len w0 w x d h)
  have hfew := h.at_.few
  have hlenD := h.lenD
  rw [hlenD] at hfew
  clear h hlenD
  go_enter Tryz.func12, Tryz.ntmps12
  go_wp2_with fail
  refine Hlen.out.mono ?_
  rintro e w1 ⟨rfl, rfl⟩
  clear Hlen
  go_wp2
  go_ret2
  exact ⟨rfl, rfl⟩
set_option maxRecDepth 100000 in
theorem wnew_no4 (w w0 : World) (x : DV) (d : Dk) (h : Dev w0 w x d) (base n ep st nx : Int) (bB : base < 9223372036854775808) (bb : -9223372036854775808 ≤ base) (nB : n < 9223372036854775808) (h0 : ¬ base < 0) (h1 : ¬ n < 2) (h2 : ¬ d.dur.length - n < base) (h3 : ¬ ep < 1) (h4 : 255 < ep) :
    Calls Tryz.prog 12 #[.pointer (some ⟨x.p, 0, none⟩), .int .i64 base, .int .i64 n, .int .i64 ep, .int .i64 st, .int .i64 nx] w fun e w' => e = .returned (.tuple #[.pointer none, .int .i64 1]) ∧ w' = w := by
  have k0 : decide (base < 0) = false := by simpa using h0
  have k1 : decide (n < 2) = false := by simpa using h1
  have k2 : decide (d.dur.length - n < base) = false := by simpa using h2
  have k3 : decide (ep < 1) = false := by simpa using h3
  have k4 : decide (255 < ep) = true := by simpa using h4
  have Hlen := Lib.hid (dev_len w0 w x d h)
  have hfew := h.at_.few
  have hlenD := h.lenD
  rw [hlenD] at hfew
  clear h hlenD
  go_enter Tryz.func12, Tryz.ntmps12
  go_wp2_with fail
  refine Hlen.out.mono ?_
  rintro e w1 ⟨rfl, rfl⟩
  clear Hlen
  go_wp2
  go_ret2
  exact ⟨rfl, rfl⟩
set_option maxRecDepth 100000 in
theorem wnew_no5 (w w0 : World) (x : DV) (d : Dk) (h : Dev w0 w x d) (base n ep st nx : Int) (bB : base < 9223372036854775808) (bb : -9223372036854775808 ≤ base) (nB : n < 9223372036854775808) (h0 : ¬ base < 0) (h1 : ¬ n < 2) (h2 : ¬ d.dur.length - n < base) (h3 : ¬ ep < 1) (h4 : ¬ 255 < ep) (h5 : st < 0) :
    Calls Tryz.prog 12 #[.pointer (some ⟨x.p, 0, none⟩), .int .i64 base, .int .i64 n, .int .i64 ep, .int .i64 st, .int .i64 nx] w fun e w' => e = .returned (.tuple #[.pointer none, .int .i64 1]) ∧ w' = w := by
  have k0 : decide (base < 0) = false := by simpa using h0
  have k1 : decide (n < 2) = false := by simpa using h1
  have k2 : decide (d.dur.length - n < base) = false := by simpa using h2
  have k3 : decide (ep < 1) = false := by simpa using h3
  have k4 : decide (255 < ep) = false := by simpa using h4
  have k5 : decide (st < 0) = true := by simpa using h5
  have Hlen := Lib.hid (dev_len w0 w x d h)
  have hfew := h.at_.few
  have hlenD := h.lenD
  rw [hlenD] at hfew
  clear h hlenD
  go_enter Tryz.func12, Tryz.ntmps12
  go_wp2_with fail
  refine Hlen.out.mono ?_
  rintro e w1 ⟨rfl, rfl⟩
  clear Hlen
  go_wp2
  go_ret2
  exact ⟨rfl, rfl⟩
set_option maxRecDepth 100000 in
theorem wnew_no6 (w w0 : World) (x : DV) (d : Dk) (h : Dev w0 w x d) (base n ep st nx : Int) (bB : base < 9223372036854775808) (bb : -9223372036854775808 ≤ base) (nB : n < 9223372036854775808) (h0 : ¬ base < 0) (h1 : ¬ n < 2) (h2 : ¬ d.dur.length - n < base) (h3 : ¬ ep < 1) (h4 : ¬ 255 < ep) (h5 : ¬ st < 0) (h6 : nx < st) :
    Calls Tryz.prog 12 #[.pointer (some ⟨x.p, 0, none⟩), .int .i64 base, .int .i64 n, .int .i64 ep, .int .i64 st, .int .i64 nx] w fun e w' => e = .returned (.tuple #[.pointer none, .int .i64 1]) ∧ w' = w := by
  have k0 : decide (base < 0) = false := by simpa using h0
  have k1 : decide (n < 2) = false := by simpa using h1
  have k2 : decide (d.dur.length - n < base) = false := by simpa using h2
  have k3 : decide (ep < 1) = false := by simpa using h3
  have k4 : decide (255 < ep) = false := by simpa using h4
  have k5 : decide (st < 0) = false := by simpa using h5
  have k6 : decide (nx < st) = true := by simpa using h6
  have Hlen := Lib.hid (dev_len w0 w x d h)
  have hfew := h.at_.few
  have hlenD := h.lenD
  rw [hlenD] at hfew
  clear h hlenD
  go_enter Tryz.func12, Tryz.ntmps12
  go_wp2_with fail
  refine Hlen.out.mono ?_
  rintro e w1 ⟨rfl, rfl⟩
  clear Hlen
  go_wp2
  go_ret2
  exact ⟨rfl, rfl⟩
set_option maxRecDepth 100000 in
theorem wnew_no7 (w w0 : World) (x : DV) (d : Dk) (h : Dev w0 w x d) (base n ep st nx : Int) (bB : base < 9223372036854775808) (bb : -9223372036854775808 ≤ base) (nB : n < 9223372036854775808) (h0 : ¬ base < 0) (h1 : ¬ n < 2) (h2 : ¬ d.dur.length - n < base) (h3 : ¬ ep < 1) (h4 : ¬ 255 < ep) (h5 : ¬ st < 0) (h6 : ¬ nx < st) (h7 : 16777215 < nx) :
    Calls Tryz.prog 12 #[.pointer (some ⟨x.p, 0, none⟩), .int .i64 base, .int .i64 n, .int .i64 ep, .int .i64 st, .int .i64 nx] w fun e w' => e = .returned (.tuple #[.pointer none, .int .i64 1]) ∧ w' = w := by
  have k0 : decide (base < 0) = false := by simpa using h0
  have k1 : decide (n < 2) = false := by simpa using h1
  have k2 : decide (d.dur.length - n < base) = false := by simpa using h2
  have k3 : decide (ep < 1) = false := by simpa using h3
  have k4 : decide (255 < ep) = false := by simpa using h4
  have k5 : decide (st < 0) = false := by simpa using h5
  have k6 : decide (nx < st) = false := by simpa using h6
  have k7 : decide (16777215 < nx) = true := by simpa using h7
  have Hlen := Lib.hid (dev_len w0 w x d h)
  have hfew := h.at_.few
  have hlenD := h.lenD
  rw [hlenD] at hfew
  clear h hlenD
  go_enter Tryz.func12, Tryz.ntmps12
  go_wp2_with fail
  refine Hlen.out.mono ?_
  rintro e w1 ⟨rfl, rfl⟩
  clear Hlen
  go_wp2
  go_ret2
  exact ⟨rfl, rfl⟩
set_option maxRecDepth 100000 in
theorem wnew_no8 (w w0 : World) (x : DV) (d : Dk) (h : Dev w0 w x d) (base n ep st nx : Int) (bB : base < 9223372036854775808) (bb : -9223372036854775808 ≤ base) (nB : n < 9223372036854775808) (h0 : ¬ base < 0) (h1 : ¬ n < 2) (h2 : ¬ d.dur.length - n < base) (h3 : ¬ ep < 1) (h4 : ¬ 255 < ep) (h5 : ¬ st < 0) (h6 : ¬ nx < st) (h7 : ¬ 16777215 < nx) (h8 : n < nx - st) :
    Calls Tryz.prog 12 #[.pointer (some ⟨x.p, 0, none⟩), .int .i64 base, .int .i64 n, .int .i64 ep, .int .i64 st, .int .i64 nx] w fun e w' => e = .returned (.tuple #[.pointer none, .int .i64 1]) ∧ w' = w := by
  have k0 : decide (base < 0) = false := by simpa using h0
  have k1 : decide (n < 2) = false := by simpa using h1
  have k2 : decide (d.dur.length - n < base) = false := by simpa using h2
  have k3 : decide (ep < 1) = false := by simpa using h3
  have k4 : decide (255 < ep) = false := by simpa using h4
  have k5 : decide (st < 0) = false := by simpa using h5
  have k6 : decide (nx < st) = false := by simpa using h6
  have k7 : decide (16777215 < nx) = false := by simpa using h7
  have k8 : decide (n < nx - st) = true := by simpa using h8
  have Hlen := Lib.hid (dev_len w0 w x d h)
  have hfew := h.at_.few
  have hlenD := h.lenD
  rw [hlenD] at hfew
  clear h hlenD
  go_enter Tryz.func12, Tryz.ntmps12
  go_wp2_with fail
  refine Hlen.out.mono ?_
  rintro e w1 ⟨rfl, rfl⟩
  clear Hlen
  go_wp2
  go_ret2
  exact ⟨rfl, rfl⟩

theorem wnew_no (w w0 : World) (x : DV) (d : Dk) (h : Dev w0 w x d) (base n ep st nx : Int) (bB : base < 9223372036854775808) (bb : -9223372036854775808 ≤ base) (nB : n < 9223372036854775808) (hn : ¬ MayL d.dur.length base n ep st nx) :
    Calls Tryz.prog 12 #[.pointer (some ⟨x.p, 0, none⟩), .int .i64 base, .int .i64 n, .int .i64 ep, .int .i64 st, .int .i64 nx] w fun e w' => e = .returned (.tuple #[.pointer none, .int .i64 1]) ∧ w' = w := by
  by_cases h0 : base < 0
  · exact wnew_no0 w w0 x d h base n ep st nx bB bb nB h0
  by_cases h1 : n < 2
  · exact wnew_no1 w w0 x d h base n ep st nx bB bb nB h0 h1
  by_cases h2 : d.dur.length - n < base
  · exact wnew_no2 w w0 x d h base n ep st nx bB bb nB h0 h1 h2
  by_cases h3 : ep < 1
  · exact wnew_no3 w w0 x d h base n ep st nx bB bb nB h0 h1 h2 h3
  by_cases h4 : 255 < ep
  · exact wnew_no4 w w0 x d h base n ep st nx bB bb nB h0 h1 h2 h3 h4
  by_cases h5 : st < 0
  · exact wnew_no5 w w0 x d h base n ep st nx bB bb nB h0 h1 h2 h3 h4 h5
  by_cases h6 : nx < st
  · exact wnew_no6 w w0 x d h base n ep st nx bB bb nB h0 h1 h2 h3 h4 h5 h6
  by_cases h7 : 16777215 < nx
  · exact wnew_no7 w w0 x d h base n ep st nx bB bb nB h0 h1 h2 h3 h4 h5 h6 h7
  by_cases h8 : n < nx - st
  · exact wnew_no8 w w0 x d h base n ep st nx bB bb nB h0 h1 h2 h3 h4 h5 h6 h7 h8
  exact absurd ⟨h0, h1, h2, h3, h4, h5, h6, h7, h8⟩ hn

set_option maxRecDepth 100000 in
theorem wnew_yes (w w0 : World) (x : DV) (d : Dk) (h : Dev w0 w x d) (base n ep st nx : Int) (bB : base < 9223372036854775808) (bb : -9223372036854775808 ≤ base) (_nB : n < 9223372036854775808) (hn : MayL d.dur.length base n ep st nx) :
    Calls Tryz.prog 12 #[.pointer (some ⟨x.p, 0, none⟩), .int .i64 base, .int .i64 n, .int .i64 ep, .int .i64 st, .int .i64 nx] w fun e w' => e = .returned (.tuple #[.pointer (some ⟨w.heap.size, 0, none⟩), .int .i64 0]) ∧ w' = w.alloc (.cells (newV w x base n ep st nx).obj 80) := by
  obtain ⟨h0, h1, h2, h3, h4, h5, h6, h7, h8⟩ := hn
  have k0 : decide (base < 0) = false := by simpa using h0
  have k1 : decide (n < 2) = false := by simpa using h1
  have k2 : decide (d.dur.length - n < base) = false := by simpa using h2
  have k3 : decide (ep < 1) = false := by simpa using h3
  have k4 : decide (255 < ep) = false := by simpa using h4
  have k5 : decide (st < 0) = false := by simpa using h5
  have k6 : decide (nx < st) = false := by simpa using h6
  have k7 : decide (16777215 < nx) = false := by simpa using h7
  have k8 : decide (n < nx - st) = false := by simpa using h8
  have Hlen := Lib.hid (dev_len w0 w x d h)
  have hfew := h.at_.few
  have hlenD := h.lenD
  rw [hlenD] at hfew
  clear h hlenD
  go_enter Tryz.func12, Tryz.ntmps12
  go_wp2_with fail
  refine Hlen.out.mono ?_
  rintro e w1 ⟨rfl, rfl⟩
  clear Hlen
  go_wp2
  go_ret2
  exact ⟨rfl, rfl⟩
/-- A new log on a device with nothing pending. -/
theorem lnew_ok (w w0 : World) (x : DV) (d : Dk) (h : Dev w0 w x d) (base n ep st nx : Int) (bB : base < 9223372036854775808) (bb : -9223372036854775808 ≤ base) (nB : n < 9223372036854775808) (hn : MayL d.dur.length base n ep st nx) (ha : d.armed = false) (hd : d.dead = false) (hp : d.pend = []) :
    Calls Tryz.prog 12 #[.pointer (some ⟨x.p, 0, none⟩), .int .i64 base, .int .i64 n, .int .i64 ep, .int .i64 st, .int .i64 nx] w fun e w' => e = .returned (.tuple #[.pointer (some ⟨(newV w x base n ep st nx).p, 0, none⟩), .int .i64 0]) ∧ (newV w x base n ep st nx).At w0 w' d ∧ Mod (fun _ => False) w w' ∧ w.heap.size < w'.heap.size := by
  refine (wnew_yes w w0 x d h base n ep st nx bB bb nB hn).mono ?_
  rintro e w' ⟨rfl, rfl⟩
  have hm := (Mod.refl (fun _ => False) w).alloc (.cells (newV w x base n ep st nx).obj 80)
  refine ⟨rfl, ⟨h.keep hm, heap_alloc_new w _, h.old.size, OwN.nil _ _ _ _, (fun y hy => absurd hy (by simp [newV, newG])), ?_, ha, hd, ?_, DV.Avoid.none_ _⟩, hm, by simp⟩
  · obtain ⟨h0, h1, h2, h3, h4, h5, h6, h7, h8⟩ := hn
    exact ⟨by show (0 : Int) ≤ base; omega, by show 2 ≤ n; omega, by show base ≤ d.dur.length - n; omega, by show 1 ≤ ep; omega, by show ep ≤ 255; omega, by show 0 ≤ st; omega, by show st ≤ nx; omega, by show nx ≤ 16777215; omega, by show nx - st ≤ n; omega, by show 0 ≤ nx; omega, by show nx ≤ nx; omega, by show 0 ≤ nx; omega, by show nx ≤ nx; omega, by show fitsB [] = true; rfl, fun hh => absurd rfl hh⟩
  · rw [hp]
    show ((0 : Nat) : Int) = nx - nx
    omega
end Go.Proofs.YtnbamljaiahmdaaGreat

namespace Go.Proofs.YtnbamljaiahmdaaGreat
open Go Go.RowKit Go.Shelf

theorem lsnV_ok {s i : Int} (h0 : 0 ≤ s) (h1 : s ≤ 16777215) (i0 : 0 ≤ i) (i1 : i ≤ 255) : lsnV s i = 256 * s + i := by
  unfold lsnV
  rw [inB_iff.2 ⟨h0, h1⟩, inB_iff.2 ⟨i0, i1⟩]
  rfl
theorem Lg.un_bd (g : Lg) : 0 ≤ g.un ∧ g.un ≤ 1 := by unfold Lg.un; split <;> omega
theorem Lg.Ok.next {g : Lg} {N : Nat} (h : g.Ok N) : 0 ≤ g.nx ∧ g.nx + g.un ≤ 16777215 ∧ g.nx - g.st + g.un ≤ g.n := by
  have h1 := h.s0
  have h2 := h.sn
  have h3 := h.nm
  have h4 := h.room
  unfold Lg.un
  by_cases e : g.l = []
  · rw [if_pos e]; omega
  · rw [if_neg e]; have := h.some_ e; omega

set_option maxRecDepth 100000 in
theorem durable_ok (w w0 : World) (v : LV) (d : Dk) (h : v.At w0 w d) :
    Calls Tryz.prog 15 #[.pointer (some ⟨v.p, 0, none⟩)] w fun r w' => r = .returned (.int .i64 (256 * v.g.du)) ∧ Mod (fun _ => False) w w' := by
  have c7 := h.lc.c7
  have H1 : Hid (∀ W, Calls Tryz.prog 25 #[.int .i64 v.g.du, .int .i64 0] W fun e w' => e = .returned (.int .i64 (256 * v.g.du)) ∧ W = w') := by
    intro W
    have h1 := lsn_ok W v.g.du 0
    rw [lsnV_ok h.ok.d0 (Int.le_trans h.ok.dn h.ok.nm) (by omega) (by omega), Int.add_zero] at h1
    exact h1
  clear h
  go_enter Tryz.func15, Tryz.ntmps15
  go_wp2_with fail
  refine (H1.out _).mono ?_
  rintro e w1 ⟨rfl, rfl⟩
  clear H1
  go_wp2
  go_ret
  exact ⟨rfl, Mod.refl _ _⟩
set_option maxRecDepth 100000 in
theorem next_ok (w w0 : World) (v : LV) (d : Dk) (h : v.At w0 w d) :
    Calls Tryz.prog 16 #[.pointer (some ⟨v.p, 0, none⟩)] w fun r w' => r = .returned (.int .i64 (256 * (v.g.nx + v.g.un))) ∧ Mod (fun _ => False) w w' := by
  have c6 := h.lc.c6
  have hn := h.ok.next
  have hu := v.g.un_bd
  have H1 : Hid (∀ W z, z = v.g.nx + v.g.un → Calls Tryz.prog 25 #[.int .i64 z, .int .i64 0] W fun e w' => e = .returned (.int .i64 (256 * (v.g.nx + v.g.un))) ∧ W = w') := by
    rintro W z rfl
    have h1 := lsn_ok W (v.g.nx + v.g.un) 0
    rw [lsnV_ok (by omega) hn.2.1 (by omega) (by omega), Int.add_zero] at h1
    exact h1
  have H2 : Hid (∀ W, Mod (fun _ => False) w W → Calls Tryz.prog 37 #[.pointer (some ⟨v.p, 0, none⟩)] W fun r w' => r = .returned (.int .i64 v.g.un) ∧ Mod (fun _ => False) w w' ∧ w'.cell? ⟨v.p, 6, none⟩ = some (.int .i64 v.g.nx)) := by
    intro W hW
    refine (unwritten_ok W w0 v d (h.keep hW)).mono ?_
    rintro e w' ⟨rfl, hm⟩
    have := hW.trans hm (fun _ _ h => h)
    exact ⟨rfl, this, (h.keep this).lc.c6⟩
  obtain ⟨hn0, hn1, _⟩ := hn
  obtain ⟨hu0, hu1⟩ := hu
  have hn2 : v.g.nx ≤ 16777215 := h.ok.nm
  have Hd : Hid (Mod (fun _ => False) w w.drew) := (Mod.refl _ w).drew
  generalize v.g.un = U at *
  clear h
  go_enter Tryz.func16, Tryz.ntmps16
  go_wp2_with fail
  go_region_held3 (fun w' => w'.cell? ⟨v.p, 6, none⟩ = some (.int .i64 v.g.nx)) (first | exact c6 | exact hc) (first | (go_at_call 37; refine (H2.out _ Hd.out).mono ?_; rintro e w1 ⟨rfl, hm, hc⟩) | (go_at_call 25; refine (H1.out _ _ (by first | rfl | (rw [IntKind.wrap_i64]; omega))).mono ?_; rintro e w2 ⟨rfl, rfl⟩))
  have Hm := Lib.hid hm
  clear hm hc H1 H2 Hd
  go_wp2
  go_ret
  exact ⟨rfl, Hm.out⟩
set_option maxRecDepth 100000 in
theorem free_ok (w w0 : World) (v : LV) (d : Dk) (h : v.At w0 w d) :
    Calls Tryz.prog 17 #[.pointer (some ⟨v.p, 0, none⟩)] w fun r w' => r = .returned (.int .i64 (v.g.n - (v.g.nx - v.g.st) - v.g.un)) ∧ Mod (fun _ => False) w w' := by
  have hu := v.g.un_bd
  have hf := h.few
  have hn := h.ok.next
  have H1 := Lib.hid (lleft_ok w w0 v d h)
  have H2 : Hid (∀ W, Mod (fun _ => False) w W → Calls Tryz.prog 37 #[.pointer (some ⟨v.p, 0, none⟩)] W fun r w' => r = .returned (.int .i64 v.g.un) ∧ Mod (fun _ => False) W w') := fun W hW => unwritten_ok W w0 v d (h.keep hW)
  have l0 : 0 ≤ v.g.n - (v.g.nx - v.g.st) := by have := h.ok.room; omega
  have l1 : v.g.n - (v.g.nx - v.g.st) ≤ 4096 := by have := h.ok.sn; omega
  obtain ⟨hu0, hu1⟩ := hu
  generalize v.g.un = U at *
  generalize v.g.n - (v.g.nx - v.g.st) = L at *
  clear h hf hn
  go_enter Tryz.func17, Tryz.ntmps17
  go_wp2_with fail
  refine H1.out.mono ?_
  rintro e w1 ⟨rfl, hm1⟩
  have H3 := Lib.hid (H2.out w1 hm1)
  have Hm1 := Lib.hid hm1
  clear hm1 H1 H2
  go_wp2_with fail
  refine H3.out.mono ?_
  rintro e w2 ⟨rfl, hm2⟩
  have Hm2 := Lib.hid (Hm1.out.trans hm2 (fun _ _ h => h))
  clear hm2 H3 Hm1
  go_wp2
  go_ret
  exact ⟨rfl, Hm2.out⟩

theorem LV.At.store {w0 w w' : World} {v v' : LV} {d : Dk} (h : v.At w0 w d) (hm : Mod (fun k => k = v.p) w w') (ho : w'.heap[v.p]? = some (.cells v'.obj 80 (0, 0))) (hp : v'.p = v.p) (hx : v'.x = v.x) (hA : v'.A = v.A) (hc : v'.c = v.c) (hl : v'.g.l = v.g.l)
    (hok : v'.g.Ok d.dur.length) (hw : (d.pend.length : Int) = v'.g.nx - v'.g.du) : v'.At w0 w' d where
  dev := by
    rw [hx]
    have hb : ∀ k, k = v.p → ¬ v.x.M k := fun k e hk => h.pM (e ▸ hk)
    refine ⟨h.dev.at_.mod hm (fun k e => hb k e) (fun s hs => ?_), h.dev.dk, h.dev.old.trans hm (fun k hk e => by have := h.pb; omega)⟩
    refine ⟨hs.1.mod hm (fun k hk _ e => ?_), hs.2⟩
    obtain ⟨b, o, hA, hc⟩ := hs.1.2.2 (by omega)
    rw [hA] at hk
    injection hk with hk
    have hk : b = k := hk
    have h0 := hc 255 (by omega)
    rw [show (⟨b, o + 255, none⟩ : Addr) = ⟨v.p, o + 255, none⟩ by rw [hk, e], cell_of_row _ _ _ _ _ _ h.obj] at h0
    have : o + 255 < v.obj.size := (Array.getElem?_eq_some_iff.1 h0).1
    simp [LV.obj] at this
    omega
  obj := by rw [hp]; exact ho
  pb := by rw [hp]; exact h.pb
  row := by rw [hA, hc, hl]; exact h.row.mod hm (fun k hk e => h.rowp (e ▸ hk))
  vals := by
    intro y hy
    rw [hl] at hy
    have hb : ∀ k cs, w.heap[k]? = some (.cells cs 5 (0, 0)) → ¬ k = v.p := fun k cs e1 e2 => h.bytesM e1 (.inr (.inl e2))
    exact ⟨own_mod (h.vals y hy).1 hm hb, own_mod (h.vals y hy).2 hm hb⟩
  ok := hok
  arm := h.arm
  dead := h.dead
  wait := hw
  av := by rw [hA, hx]; exact h.av

def Lg.cutE (g : Lg) (s : Int) : Int := if g.st ≤ s ∧ s ≤ g.nx then 0 else 1
def Lg.cut (g : Lg) (s : Int) : Lg := if g.st ≤ s ∧ s ≤ g.nx then { g with st := s } else g
end Go.Proofs.YtnbamljaiahmdaaGreat

namespace Go.Proofs.YtnbamljaiahmdaaGreat
open Go Go.RowKit Go.Shelf

theorem Dev.poke {w0 w w' : World} {x : DV} {d : Dk} {p : Nat} {cs : Array Value} {t : TypeId} (h : Dev w0 w x d) (ho : w.heap[p]? = some (.cells cs t (0, 0))) (h1 : t ≠ 60) (h2 : t ≠ 50) (h3 : t ≠ 57) (hs : cs.size ≤ 255) (hb : w0.heap.size ≤ p)
    (hm : Mod (fun k => k = p) w w') : Dev w0 w' x d := by
  refine ⟨h.at_.mod hm (fun k e hk => h.notM ho h1 h2 h3 (e ▸ hk)) (fun s hs' => ?_), h.dk, h.old.trans hm (fun k hk e => by omega)⟩
  refine ⟨hs'.1.mod hm (fun k hk _ e => ?_), hs'.2⟩
  obtain ⟨b, o, hA, hc⟩ := hs'.1.2.2 (by omega)
  rw [hA] at hk
  injection hk with hk
  have hk : b = k := hk
  have h0 := hc 255 (by omega)
  rw [show (⟨b, o + 255, none⟩ : Addr) = ⟨p, o + 255, none⟩ by rw [hk, e], cell_of_row _ _ _ _ _ _ ho] at h0
  have : o + 255 < cs.size := (Array.getElem?_eq_some_iff.1 h0).1
  omega
theorem Dk.write_good {d : Dk} (ha : d.armed = false) (hd : d.dead = false) {i : Int} (h0 : 0 ≤ i) (h1 : i < d.dur.length) {ys : List UInt8} (hy : ys.length = 256) :
    d.write i ys = { d with pend := d.pend ++ [(i.toNat, ys)] } ∧ d.writeE i 256 = 0 := by
  have hr : d.reach i = 0 := by unfold Dk.reach; rw [hd, if_neg (by simp), if_pos ⟨h0, h1⟩]
  have hs : d.stepE = 0 := by unfold Dk.stepE; rw [if_neg (by rw [ha]; simp)]
  have hD : d.stepD = d := by unfold Dk.stepD; rw [if_neg (by rw [ha]; simp)]
  unfold Dk.write Dk.writeE
  rw [if_pos ⟨hr, hy⟩, if_pos hs, if_pos hr, if_pos rfl, hs, hD]
  exact ⟨rfl, rfl⟩

def Lg.place (g : Lg) : Int := g.b + g.nx % g.n
def Lg.sec (g : Lg) : List UInt8 := secOf (16777216 * g.ep + g.nx) (packB g.ep g.nx g.fr g.l)
def Lg.wrote (g : Lg) : Lg := { g with nx := g.nx + 1, l := [] }
section
variable {g : Lg} {N : Nat}
theorem Lg.Ok.place (h : g.Ok N) : 0 ≤ g.place ∧ g.place < N := by
  have h1 := Int.emod_nonneg g.nx (show g.n ≠ 0 by have := h.n2; omega)
  have h2 := Int.emod_lt_of_pos g.nx (show 0 < g.n by have := h.n2; omega)
  have := h.b0
  have := h.bn
  unfold Lg.place
  omega
theorem Lg.Ok.head (h : g.Ok N) : headOk g.ep g.nx g.fr = true := by
  unfold headOk
  rw [inB_iff.2 ⟨by have := h.e1; omega, by have := h.e2; omega⟩, inB_iff.2 ⟨by have := h.s0; have := h.sn; omega, h.nm⟩, inB_iff.2 ⟨h.f0, h.fn⟩]
  rfl
theorem Lg.Ok.packE (h : g.Ok N) : packE g.ep g.nx g.fr g.l = 0 := fits_pack h.fit h.head
theorem Lg.Ok.packL (h : g.Ok N) : (packB g.ep g.nx g.fr g.l).length ≤ 248 := (packE_zero h.packE).2.2.2
theorem Lg.Ok.secL (h : g.Ok N) : g.sec.length = 256 := secOf_len _ _ h.packL
theorem Lg.Ok.wrote (h : g.Ok N) (hl : g.l ≠ []) : g.wrote.Ok N := by
  have hs := h.some_ hl
  refine ⟨h.b0, h.n2, h.bn, h.e1, h.e2, h.s0, ?_, ?_, ?_, h.f0, ?_, h.d0, ?_, rfl, fun hh => absurd rfl hh⟩
  · show g.st ≤ g.nx + 1; have := h.sn; omega
  · show g.nx + 1 ≤ 16777215; omega
  · show g.nx + 1 - g.st ≤ g.n; omega
  · show g.fr ≤ g.nx + 1; have := h.fn; omega
  · show g.du ≤ g.nx + 1; have := h.dn; omega
end

set_option maxRecDepth 100000 in
set_option maxHeartbeats 2000000 in
theorem lwrite_ok (w w0 : World) (v : LV) (d : Dk) (h : v.At w0 w d) (hl : v.g.l ≠ []) (hp : d.pend.length ≤ 1000) :
    Calls Tryz.prog 35 #[.pointer (some ⟨v.p, 0, none⟩)] w fun e w' => e = .returned (.int .i64 0) ∧ ∃ x', x'.p = v.x.p ∧ (⟨v.p, x', none, 0, v.g.wrote⟩ : LV).At w0 w' (d.write v.g.place v.g.sec) ∧ Mod v.M w w' ∧ (∀ k, x'.M k → v.x.M k ∨ w.heap.size ≤ k) ∧ (∀ N : Nat → Prop, (∀ k, N k → k < w.heap.size) → v.x.Avoid N → x'.Avoid N) := by
  obtain ⟨c0, c1, c2, c3, c4, c5, c6, c7, c8⟩ := h.lc
  have hpk := pack_ok w.drew ⟨v.g.ep, v.g.nx, v.g.fr, v.A, v.g.l.length, v.c, v.g.l⟩ (h.recs.keep ((Mod.refl _ w).drew)) (by have := (fits_may h.ok.fit).2; show v.g.l.length ≤ 200; omega)
  have hpk : Calls Tryz.prog 57 #[.agg #[.int .i64 v.g.ep, .int .i64 v.g.nx, .int .i64 v.g.fr, .slice v.A v.g.l.length v.c]] w.drew (PackAns w.drew (packE v.g.ep v.g.nx v.g.fr v.g.l) (packR v.g.ep v.g.nx v.g.fr v.g.l)) := hpk
  rw [packR_ok h.ok.packE, h.ok.packE] at hpk
  have Hpk := Lib.hid hpk
  have Hh := Lib.hid h
  have Hl := Lib.hid hl
  have Hp := Lib.hid hp
  have Hcell : Hid (∀ W, Mod (fun _ => False) w W → LC W v) := fun W hW => (h.keep hW).lc
  have nx0 : 0 ≤ v.g.nx := by have := h.ok.s0; have := h.ok.sn; omega
  have nx1 : v.g.nx + 1 ≤ 16777215 := (h.ok.some_ hl).2
  have ep1 := h.ok.e1
  have ep2 := h.ok.e2
  have Hst : Hid (∀ W, Calls Tryz.prog 59 #[.int .i64 v.g.ep, .int .i64 v.g.nx] W fun r w' => r = .returned (.int .i64 (16777216 * v.g.ep + v.g.nx)) ∧ W = w') := fun W => wstamp_ok W _ _ (by omega) (by omega) nx0 (by omega)
  have Hsc : Hid (∀ W, Calls Tryz.prog 60 #[.agg #[.pointer (some ⟨v.x.p, 0, none⟩), .int .i64 v.g.b, .int .i64 v.g.n], .int .i64 v.g.nx] W fun r w' => r = .returned (.int .i64 v.g.place) ∧ Mod (fun _ => False) W w') := fun W => place_ok W _ _ _ _ h.ok.b0 h.few.2.1 h.ok.n2 h.few.1 nx0
  have Hsl : Hid (∀ W A m c, Sl W A m c (packB v.g.ep v.g.nx v.g.fr v.g.l) → Calls Tryz.prog 58 #[.int .i64 (16777216 * v.g.ep + v.g.nx), .slice A m c] W fun e w' => ∃ g, e = .returned (.tuple #[.slice (some ⟨g, 0, none⟩) 256 256, .int .i64 0]) ∧ Sec W w' g v.g.sec) := fun W A m c hS => seal_ok W _ _ _ _ _ hS (by omega) (by omega) (by rw [← hS.len]; exact h.ok.packL)
  clear h hl hp hpk c0 c1 c2 c5 c7
  go_enter Tryz.func35, Tryz.ntmps35
  go_wp2_with fail
  have Hmd : Hid (Mod (fun _ => False) w w.drew) := (Mod.refl _ w).drew
  have Hl4 : Hid (∀ W, Mod (fun _ => False) w W → W.cell? ⟨v.p, 3, none⟩ = some (.int .i64 v.g.ep) ∧ W.cell? ⟨v.p, 6, none⟩ = some (.int .i64 v.g.nx) ∧ W.cell? ⟨v.p, 4, none⟩ = some (.int .i64 v.g.fr) ∧ W.cell? ⟨v.p, 8, none⟩ = some (.slice v.A v.g.l.length v.c)) := fun W hW => ⟨(Hcell.out W hW).c3, (Hcell.out W hW).c6, (Hcell.out W hW).c4, (Hcell.out W hW).c8⟩
  go_region_held3 (fun w' => w'.cell? ⟨v.p, 3, none⟩ = some (.int .i64 v.g.ep) ∧ w'.cell? ⟨v.p, 6, none⟩ = some (.int .i64 v.g.nx) ∧ w'.cell? ⟨v.p, 4, none⟩ = some (.int .i64 v.g.fr) ∧ w'.cell? ⟨v.p, 8, none⟩ = some (.slice v.A v.g.l.length v.c)) (first | exact ⟨c3, c6, c4, c8⟩ | exact Hl4.out _ (Hmd.out.trans hm1 (fun _ _ h => h))) ((go_at_call 57; refine Hpk.out.mono ?_; rintro e w1 ⟨⟨A, m, c, rfl, hO⟩, hm1⟩))
  clear c3 c4 c6 c8 Hl4
  have Hm1 : Hid (Mod (fun _ => False) w w1) := Hmd.out.trans hm1 (fun _ _ h => h)
  obtain ⟨c0, c1, c2, c3, c4, c5, c6, c7, c8⟩ := Hcell.out w1 Hm1.out
  have HS1 : Hid (Sl w1 A m c (packB v.g.ep v.g.nx v.g.fr v.g.l)) := hO.sl
  clear hO hm1 Hpk Hmd c0 c1 c2 c4 c5 c7 c8
  have Hm1d : Hid (Mod (fun _ => False) w w1.drew) := Hm1.out.drew
  have HS1d : Hid (Sl w1.drew A m c (packB v.g.ep v.g.nx v.g.fr v.g.l)) := HS1.out
  have Hlc : Hid (∀ W, Mod (fun _ => False) w W → W.cell? ⟨v.p, 3, none⟩ = some (.int .i64 v.g.ep) ∧ W.cell? ⟨v.p, 6, none⟩ = some (.int .i64 v.g.nx)) := fun W hW => ⟨(Hcell.out W hW).c3, (Hcell.out W hW).c6⟩
  go_wp2_with fail
  go_region_held3 (fun w' => w'.cell? ⟨v.p, 3, none⟩ = some (.int .i64 v.g.ep) ∧ w'.cell? ⟨v.p, 6, none⟩ = some (.int .i64 v.g.nx)) (first | exact ⟨c3, c6⟩ | exact Hlc.out _ Hm1d.out | exact Hlc.out _ (Hm1d.out.trans hs2.2.2 (fun _ _ h => h))) (first | (go_at_call 59; refine (Hst.out _).mono ?_; rintro e w2 ⟨rfl, rfl⟩) | (go_at_call 58; refine (Hsl.out _ _ _ _ HS1d.out).mono ?_; rintro e w2 ⟨g2, rfl, hs2⟩))
  have Hs2 := Lib.hid hs2
  have Hm2 : Hid (Mod (fun _ => False) w w2) := Hm1d.out.trans hs2.2.2 (fun _ _ h => h)
  have Hm1s : Hid (w.heap.size ≤ w1.drew.heap.size) := Hm1.out.size
  clear hs2 c3 c6 Hst Hsl Hlc HS1 HS1d Hm1 Hm1d
  obtain ⟨c0, c1, c2, c3, c4, c5, c6, c7, c8⟩ := Hcell.out w2 Hm2.out
  clear c3 c4 c5 c7 c8
  have Hm2d : Hid (Mod (fun _ => False) w w2.drew) := Hm2.out.drew
  have Hwr : Hid (∀ W, Mod (fun _ => False) w2.drew W → Calls Tryz.prog 6 #[.pointer (some ⟨v.x.p, 0, none⟩), .int .i64 v.g.place, .slice (some ⟨g2, 0, none⟩) 256 256] W fun e w' => e = .returned (.int .i64 0) ∧ ∃ x', x'.p = v.x.p ∧ Dev w0 w' x' (d.write v.g.place v.g.sec) ∧ Mod v.x.M W w' ∧ (∀ k, x'.M k → v.x.M k ∨ W.heap.size ≤ k) ∧ (∀ N : Nat → Prop, (∀ k, N k → k < W.heap.size) → v.x.Avoid N → x'.Avoid N)) := by
    intro W hW
    have hWw := Hm2d.out.trans hW (fun _ _ h => h)
    have hh := Hh.out
    have hS : Sl W (some ⟨g2, 0, none⟩) 256 256 v.g.sec := ((Hs2.out.sl hh.ok.secL).drew).mod hW (fun _ _ _ => id)
    have hge : w.heap.size ≤ g2 := Nat.le_trans Hm1s.out Hs2.out.1
    have hc := dev_write w0 W v.x d (hh.dev.keep hWw) v.g.place _ _ _ _ hS (fun k hk => by injection hk with hk; subst hk; exact hh.dev.apart hge) Hp.out
    rw [(Dk.write_good hh.arm hh.dead hh.ok.place.1 hh.ok.place.2 hh.ok.secL).2] at hc
    refine hc.mono ?_
    rintro e w' ⟨rfl, x', h1, h2, h3, h4, h5⟩
    exact ⟨rfl, x', h1, h2, h3, h5, h4⟩
  have Hlc : Hid (∀ W, Mod v.x.M w W → W.cell? ⟨v.p, 0, none⟩ = some (.pointer (some ⟨v.x.p, 0, none⟩)) ∧ W.cell? ⟨v.p, 1, none⟩ = some (.int .i64 v.g.b) ∧ W.cell? ⟨v.p, 2, none⟩ = some (.int .i64 v.g.n) ∧ W.cell? ⟨v.p, 6, none⟩ = some (.int .i64 v.g.nx)) := by
    intro W hW
    have := lc_of (v := v) ((hW.block _ Hh.out.lt Hh.out.pM).trans Hh.out.obj)
    exact ⟨this.c0, this.c1, this.c2, this.c6⟩
  have HmF : Hid (∀ W, Mod (fun _ => False) w2.drew W → Mod v.x.M w W) := fun W hW => (Hm2d.out.trans hW (fun _ _ h => h)).mono (fun _ _ h => h.elim)
  have Hrd : Hid (Mod (fun _ => False) w2.drew w2.drew) := Mod.refl _ _
  go_wp2_with fail
  go_region_held3 (fun w' => w'.cell? ⟨v.p, 0, none⟩ = some (.pointer (some ⟨v.x.p, 0, none⟩)) ∧ w'.cell? ⟨v.p, 1, none⟩ = some (.int .i64 v.g.b) ∧ w'.cell? ⟨v.p, 2, none⟩ = some (.int .i64 v.g.n) ∧ w'.cell? ⟨v.p, 6, none⟩ = some (.int .i64 v.g.nx)) (first | exact ⟨c0, c1, c2, c6⟩ | exact Hlc.out _ (HmF.out _ hm3) | exact Hlc.out _ ((HmF.out _ hm3).trans hm4 (fun _ _ h => h))) (first | (go_at_call 60; refine (Hsc.out _).mono ?_; rintro e w3 ⟨rfl, hm3⟩) | (go_at_call 6; refine (Hwr.out _ hm3).mono ?_; rintro e w4 ⟨rfl, x4, hx4, hd4, hm4, hM4, hV4⟩))
  have hM : Mod v.x.M w w4 := (HmF.out _ hm3).trans hm4 (fun _ _ h => h)
  have ho4 : w4.heap[v.p]? = some (.cells v.obj 80 (0, 0)) := (hM.block _ Hh.out.lt Hh.out.pM).trans Hh.out.obj
  have Ho4 := Lib.hid ho4
  have HM := Lib.hid hM
  have Hd4 := Lib.hid hd4
  have Hx4 := Lib.hid hx4
  have HM4 : Hid (∀ k, x4.M k → v.x.M k ∨ w.heap.size ≤ k) := fun k hk => (hM4 k hk).imp id (fun h => Nat.le_trans (Hm2d.out.trans hm3 (fun _ _ h => h)).size h)
  have HV4 : Hid (∀ N : Nat → Prop, (∀ k, N k → k < w.heap.size) → v.x.Avoid N → x4.Avoid N) := fun N hN hx => hV4 N (fun k hk => Nat.lt_of_lt_of_le (hN k hk) (Hm2d.out.trans hm3 (fun _ _ h => h)).size) hx
  have f6 := frozen_of_block ho4 6
  have c6 := (lc_of (v := v) ho4).c6
  have c8 := (lc_of (v := v) ho4).c8
  have f8 := frozen_of_block ho4 8
  clear hM ho4 hd4 hx4 hM4 hV4 hm3 hm4 Hwr Hlc HmF Hrd Hsc
  go_wp2
  go_ret
  have hh := Hh.out
  have hob := heap_set (heap_set Ho4.out 6 (.int .i64 (v.g.nx + 1))) 8 (.slice none 0 0)
  have hm5 : Mod (fun k => k = v.p) w4 ((w4.setCell ⟨v.p, 6, none⟩ (.int .i64 (v.g.nx + 1))).setCell ⟨v.p, 8, none⟩ (.slice none 0 0)) := ((Mod.refl _ w4).one 6 _).one 8 _
  refine ⟨rfl, x4, Hx4.out, ⟨Hd4.out.poke Ho4.out (by decide) (by decide) (by decide) (by simp [LV.obj]) hh.pb hm5, ?_, hh.pb, OwN.nil _ _ _ _, (fun y hy => absurd hy (by simp [Lg.wrote])), ?_, ?_, ?_, ?_, DV.Avoid.none_ _⟩, ?_, HM4.out, HV4.out⟩
  · refine hob.trans ?_
    simp only [LV.obj, Lg.wrote, Hx4.out]
    rfl
  all_goals try rw [(Dk.write_good hh.arm hh.dead hh.ok.place.1 hh.ok.place.2 hh.ok.secL).1]
  · exact hh.ok.wrote Hl.out
  · exact hh.arm
  · exact hh.dead
  · have := hh.wait
    show ((d.pend ++ [(v.g.place.toNat, v.g.sec)]).length : Int) = v.g.nx + 1 - v.g.du
    rw [List.length_append]
    simp only [List.length_cons, List.length_nil]
    omega
  · exact (HM.out.mono (fun k _ h => .inl h)).trans (hm5.mono (fun k _ h => .inr (.inl h))) (fun _ _ h => h)
end Go.Proofs.YtnbamljaiahmdaaGreat

namespace Go.Proofs.YtnbamljaiahmdaaGreat
open Go Go.RowKit Go.Shelf

theorem OwN.shorter {w : World} {base : Nat} {e : TypeId} {size g n m c : Nat} {vs news : List Value} (h : OwN w base e size (some ⟨g, 0, none⟩) (n + m) c (vs ++ news)) (hv : vs.length = n * size) : OwN w base e size (some ⟨g, 0, none⟩) n c vs := by
  refine ⟨hv, ?_⟩
  rcases h.2 with ⟨hn, _⟩ | ⟨g', cap, cur, he, hb, hg, h1, h2, h3, h4⟩
  · cases hn
  · injection he with e1 e2 e3
    injection e1 with e1
    injection e1 with e1
    subst e1; subst e3
    refine .inr ⟨g, c, cur, rfl, hb, hg, by omega, h2, h3, ?_⟩
    have : (cur.toList.take ((n + m) * size)).take (n * size) = (vs ++ news).take (n * size) := by rw [h4]
    rw [List.take_take, Nat.min_eq_left (Nat.mul_le_mul_right _ (by omega)), ← hv, List.take_left] at this
    rw [← hv]
    exact this
section
variable {P : Program} {w : World}
theorem run_appK {t e : TypeId} {z : Value} {size bytes : Nat} (he : ElemN P t e z size bytes) (ty : TypeId)
    {base : Nat} {A : Option Addr} {n c : Nat} {vs : List Value} (hown : OwN w base e size A n c vs)
    {ad : Addr} {m c2 : Nat} {news : List Value} (hs : SrcN w (some ad) m size news) (hm0 : 0 < m)
    (hb : (n + m) * bytes ≤ 140737488355328) (h63 : n + m ≤ maxLen) (hbase : base ≤ w.heap.size) :
    ∃ A' c' w', (Builtin.append_ #[t, t] ty #[.slice A n c, .slice (some ad) m c2]).run P w = .ok (.slice A' (n + m) c') w' ∧ OwN w' base e size A' (n + m) c' (vs ++ news) ∧
      w.grownBy w' (blkOf A) ∧ (blkOf A' = blkOf A ∨ blkOf A' = some w.heap.size) ∧ OwN w' base e size A n c vs := by
  obtain ⟨A', c', w', hr, h2, h3, h4⟩ := run_appN (P := P) (w := w) he ty hown (c2 := c2) hs hb h63 hbase
  refine ⟨A', c', w', hr, h2, h3, h4, ?_⟩
  obtain ⟨ht, hz1, hsz0, i, hi, hz, hsz, hby⟩ := he
  have hcells : ∀ j u, news[j]? = some u → w.cell? (ad.add j) = some u := by
    intro j u hu
    obtain ⟨ad', h, hc⟩ := hs.2.2 hm0
    injection h with h; subst h
    exact hc j u hu
  rcases hown.2 with ⟨hv, h0⟩ | ⟨g, cap, cur, hv, hbg, hg, hnc, hcm, hcs, htake⟩
  · injection hv with hA _ hc
    subst hA; subst hc; subst h0
    have : vs = [] := List.eq_nil_of_length_eq_zero (by have := hown.1; omega)
    subst this
    exact OwN.nil _ _ _ _
  · injection hv with hA _ hc
    subst hA; subst hc
    by_cases hroom : n + m ≤ c
    · obtain ⟨w'', hr', h2', _⟩ := run_append_fits (P := P) w base t ty e i size ht hi hsz g n c vs hown ad m c2 news hs.1 hcells hs.2.1 hroom
      rw [hr'] at hr
      injection hr with e1 e2
      subst e2
      exact OwN.shorter h2' hown.1
    · have hcc : ∀ j u, vs[j]? = some u → w.cell? ((⟨g, 0, none⟩ : Addr).add j) = some u := by
        intro j u hu
        have hj : j < n * size := by rw [← hown.1]; exact (List.getElem?_eq_some_iff.1 hu).1
        have hadd : (⟨g, 0, none⟩ : Addr).add j = ⟨g, j, none⟩ := by unfold Addr.add; split <;> simp_all
        rw [hadd, cell_of_row w g j cur e (0, 0) hg]
        rw [← htake, List.getElem?_take, if_pos hj] at hu
        simpa using hu
      have hr' := run_append_grow (P := P) w t ty e i z ht hi hz ⟨g, 0, none⟩ n c vs (by rw [hsz]; exact hown.1) hcc ad m c2 news (by rw [hsz]; exact hs.1) hcells (by omega) (by unfold maxLen at h63; omega) (by rw [hby]; exact growslice_fits (by omega) hb)
      rw [hr'] at hr
      injection hr with e1 e2
      subst e2
      exact OwN.mod hown ((Mod.refl (fun _ => False) w).drew.alloc _) (fun _ _ => id)
theorem wp_appK {o : Oper} {a : Act} {K : Act → World → Prop} {Q : Exit → Act → World → Prop} (s x : Operand) {t e : TypeId} {z : Value} {size bytes : Nat}
    {base : Nat} {A : Option Addr} {n c : Nat} {vs : List Value} {ad : Addr} {m c2 : Nat} {news : List Value}
    (he : ElemN P t e z size bytes)
    (ho : o.op = .call { callee := .builtin .append, args := #[s, x], argTypes := #[t, t] })
    (hes : a.eval s = .slice A n c) (hex : a.eval x = .slice (some ad) m c2)
    (hown : OwN w base e size A n c vs) (hs : SrcN w (some ad) m size news) (hm0 : 0 < m)
    (hb : (n + m) * bytes ≤ 140737488355328) (h63 : n + m ≤ maxLen) (hbase : base ≤ w.heap.size)
    (h : ∀ A' c' w', OwN w' base e size A' (n + m) c' (vs ++ news) → w.grownBy w' (blkOf A) → (blkOf A' = blkOf A ∨ blkOf A' = some w.heap.size) → OwN w' base e size A n c vs → K (a.put o.dst (.slice A' (n + m) c')) w') :
    Oper.wp P o a w K Q := by
  obtain ⟨A', c', w', hr, h2, h3, h4, h5⟩ := run_appK (P := P) (w := w) he o.type hown (c2 := c2) hs hm0 hb h63 hbase
  unfold Oper.wp execOp
  simp only [ho, resolve, invoke, builtin, Sem.run_bind, Sem.run_pure, Result.andThen_ok, List.map_toArray, List.map_cons, List.map_nil, hes, hex, hr]
  exact h A' c' w' h2 h3 h4 h5
end
end Go.Proofs.YtnbamljaiahmdaaGreat
