/-
  rec.Encode: a Writer in new memory; its two functions, writeValue.
-/
import Derived.Test.YtpkgeidenkjnfaaMay2
import Derived.StillTailTactics
namespace Go.Proofs.Ytpkgeidenkjnfaa
open Go Go.RowKit Go.Shelf

/-- A Writer in new memory, its box behind it; nothing old has turned. -/
structure WS (w : World) (xs : List UInt8) (W : World) : Prop where
  ex : ∃ A n c, Wr W w.heap.size w.heap.size A n c xs
  box : Bx W (w.heap.size + 1) 71 (.pointer (some ⟨w.heap.size, 0, none⟩))
  old : Mod (fun _ => False) w W
theorem wr_typed {W : World} {base g : Nat} {A : Option Addr} {n c : Nat} {xs : List UInt8} (h : Wr W base g A n c xs) {k : Nat} (hk : WF g A k) : ∃ cs t fr, W.heap[k]? = some (.cells cs t fr) ∧ t ≠ 71 := by
  rcases hk with e | e
  · subst e; obtain ⟨T, hT, e⟩ := h.2.1; exact ⟨_, T, _, e, by rcases hT with rfl | rfl <;> decide⟩
  · obtain ⟨_, cur, hc, _⟩ := h.2.2.block e
    exact ⟨_, _, _, hc, by decide⟩
theorem box_far {W W' : World} {base g Bo : Nat} {A : Option Addr} {n c : Nat} {xs : List UInt8} {v : Value} (h : Wr W base g A n c xs) (hb : Bx W Bo 71 v) (hm : Mod (WF g A) W W') : Bx W' Bo 71 v := by
  refine hb.mod hm (fun e => ?_)
  obtain ⟨cs, t, fr, hc, ht⟩ := wr_typed h e
  have hb' : W.heap[Bo]? = some (.cells #[v] 71 (0, 0)) := hb
  rw [hc] at hb'
  injection hb' with e
  injection e with _ e
  exact ht e
theorem wr_old {w W W' : World} {g : Nat} {A : Option Addr} {n c : Nat} {xs : List UInt8} (h : Wr W w.heap.size g A n c xs) (ho : Mod (fun _ => False) w W) (hm : Mod (WF g A) W W') : Mod (fun _ => False) w W' :=
  ho.trans hm (fun _ hi e => h.wf hi e)
theorem WS.keep {w W W' : World} {xs : List UInt8} (h : WS w xs W) (hm : Mod (fun _ => False) W W') : WS w xs W' := by
  obtain ⟨A, n, c, hw⟩ := h.ex
  exact ⟨⟨A, n, c, hw.mod hm id (fun _ _ => id)⟩, h.box.keep hm, h.old.trans hm (fun _ _ h => h)⟩
theorem ws_new (w : World) : WS w [] ((w.alloc (.cells #[.slice none 0 0] 50)).alloc (.cells #[.pointer (some ⟨w.heap.size, 0, none⟩)] 71)) := by
  have h1 : Wr (w.alloc (.cells #[.slice none 0 0] 50)) w.heap.size w.heap.size none 0 0 [] := ⟨Nat.le_refl _, ⟨_, .inl rfl, heap_alloc_new w _⟩, OwV.nil _ _ _⟩
  refine ⟨⟨none, 0, 0, h1.alloc _⟩, ?_, ((Mod.refl _ w).alloc _).alloc _⟩
  have := Bx.new (w.alloc (.cells #[.slice none 0 0] 50)) 71 (.pointer (some ⟨w.heap.size, 0, none⟩))
  rw [World.size_alloc] at this
  exact this
theorem wr_step {w W W' : World} {xs ys : List UInt8} {A A' : Option Addr} {n c n' c' : Nat} (h : WS w xs W) (hA : Wr W w.heap.size w.heap.size A n c xs)
    (hw : Wr W' w.heap.size w.heap.size A' n' c' ys) (hm : Mod (WF w.heap.size A) W W') : WS w ys W' :=
  ⟨⟨A', n', c', hw⟩, box_far hA h.box hm, wr_old hA h.old hm⟩
theorem ws_bytes {w W : World} {xs : List UInt8} (h : WS w xs W) (hl : xs.length ≤ 900000) :
    Calls Try.prog 28 #[.pointer (some ⟨w.heap.size, 0, none⟩)] W fun e w' => e = .returned (.slice (some ⟨W.heap.size, 0, none⟩) xs.length xs.length) ∧ Fresh W w' xs := by
  obtain ⟨A, n, c, hw⟩ := h.ex
  have hn : xs.length = n := by have := hw.2.2.len; simpa using this
  subst hn
  exact bytes_ok W _ _ A _ c xs hw (by omega)
theorem ws_put {w W : World} {xs : List UInt8} (h : WS w xs W) (hl : xs.length ≤ 900000) (n k : Int) (hk : widthOk k = true) (hn0 : 0 ≤ n) (hn : n < 256 ^ k.toNat) :
    Calls Try.prog 36 #[.pointer (some ⟨w.heap.size, 0, none⟩), .int .i64 n, .int .i64 k] W fun e W' => e = .returned (.int .i64 0) ∧ WS w (xs ++ le k.toNat n.toNat) W' := by
  obtain ⟨A, m, c, hw⟩ := h.ex
  have hm : xs.length = m := by have := hw.2.2.len; simpa using this
  refine (put_ok W _ _ A m c xs hw (by omega) n k hk hn0 hn).mono ?_
  rintro e W' ⟨rfl, A', c', h1, h2, _⟩
  exact ⟨rfl, wr_step h hw h1 h2⟩
theorem ws_lay {w W : World} {xs ys : List UInt8} {B : Option Addr} {m d : Nat} (h : WS w xs W) (hl : xs.length ≤ 900000) (hs : Sl w B m d ys) (hm : m ≤ 255) :
    Calls Try.prog 38 #[.pointer (some ⟨w.heap.size, 0, none⟩), .slice B m d] W fun e W' => e = .returned (.int .i64 0) ∧ WS w (xs ++ (UInt8.ofNat ys.length :: ys)) W' := by
  obtain ⟨A, n, c, hw⟩ := h.ex
  have hn : xs.length = n := by have := hw.2.2.len; simpa using this
  refine (lay_ok W _ _ A n c xs hw (by omega) B m d ys (hs.mod h.old (fun _ _ _ => id)) hm (fun k hk hp => ?_)).mono ?_
  · obtain ⟨b, o, hb, hlt⟩ := hs.lt hp
    have : b = k := by rw [hb] at hk; simpa [blkOf] using hk
    subst this
    exact hw.wf hlt
  · rintro e W' ⟨rfl, A', c', h1, h2, _⟩
    rw [← hs.len] at h1
    exact ⟨rfl, wr_step h hw h1 h2⟩

/-- The bytes of a value, of a field, of a record. -/
def encV (v : VlD) : List UInt8 := if v.is then UInt8.ofNat v.vs.length :: v.vs else [255]
def encF (x : RcD) : Fld → List UInt8
  | .num i wd => le wd (x.f i).toNat
  | .old => encV x.o
  | .new => encV x.v
def encR (fl : List Fld) (x : RcD) : List UInt8 := UInt8.ofNat x.k.toNat :: fl.flatMap (encF x)

set_option maxRecDepth 100000 in
theorem writeValue_ok (w W : World) (xs : List UInt8) (h : WS w xs W) (hl : xs.length ≤ 800000) (x : VlD) (hx : x.At w) (ho : okV x = true) :
    Calls Try.prog 54 #[.pointer (some ⟨w.heap.size, 0, none⟩), .agg #[.bool x.is, .slice x.B x.m x.d]] W fun e W' => e = .returned (.tuple #[]) ∧ WS w (xs ++ encV x) W' := by
  have h1 : WS w xs (W.alloc (.cells #[.bool x.is, .slice x.B x.m x.d] 43)) := h.keep ((Mod.refl _ W).alloc _)
  cases hi : x.is with
  | true =>
    have hm : x.m ≤ 32 := by
      unfold okV noneV at ho
      rw [hi] at ho
      simp at ho
      omega
    rw [hi] at h1
    have Hc := Lib.hid (ws_lay h1 (by omega) hx (by omega))
    have He : Hid (encV x = UInt8.ofNat x.vs.length :: x.vs) := by show _ = _; unfold encV; rw [hi]; rfl
    clear h1 h hi ho hm hx
    go_enter Try.func54, Try.ntmps54
    go_wp2_with fail
    refine Hc.out.mono ?_
    rintro e W2 ⟨rfl, h2⟩
    have H2 := Lib.hid h2
    clear h2 Hc
    go_wp2
    go_end0
    exact ⟨rfl, by rw [He.out]; exact H2.out⟩
  | false =>
    rw [hi] at h1
    have Hc := Lib.hid (ws_put h1 (by omega) 255 1 rfl (by omega) (by decide))
    have He : Hid (encV x = [255]) := by show _ = _; unfold encV; rw [hi]; rfl
    clear h1 h hi ho hx
    go_enter Try.func54, Try.ntmps54
    go_wp2_with fail
    refine Hc.out.mono ?_
    rintro e W2 ⟨rfl, h2⟩
    have H2 := Lib.hid h2
    clear h2 Hc
    go_wp2
    go_end0
    exact ⟨rfl, by rw [He.out]; exact H2.out⟩

set_option maxRecDepth 100000 in
theorem enc1_ok (w W : World) (xs : List UInt8) (h : WS w xs W) (hl : xs.length ≤ 800000) (g i wd : Nat) (n : Int) (hc : W.cell? ⟨g, i, none⟩ = some (.int .i64 n)) (hw : wd = 1 ∨ wd = 2 ∨ wd = 4) (ho : okN n wd = true) :
    Calls Try.prog 52 #[.pointer (some ⟨g, i, none⟩), .int .i64 wd, .pointer (some ⟨w.heap.size + 1, 0, none⟩)] W fun e W' => e = .returned (.tuple #[]) ∧ WS w (xs ++ le wd n.toNat) W' := by
  have hb := h.box.cell
  unfold okN at ho
  simp only [Bool.and_eq_true, decide_eq_true_eq] at ho
  have hc0 := ws_put (h.keep ((Mod.refl _ W).drew)) (by omega) n (wd : Int) (by rcases hw with rfl | rfl | rfl <;> rfl) ho.1 (by simpa using ho.2)
  rw [Int.toNat_natCast] at hc0
  have Hc := Lib.hid hc0
  clear hc0 h ho hw
  go_enter Try.func52, Try.ntmps52
  go_wp2_with fail
  go_still_tail 5, (by kernel_rfl)
  change wpList _ _ _ _ _ W.drew
  clear hb hc
  generalize W.drew = Wd at *
  go_wp2_with fail
  refine Hc.out.mono ?_
  rintro e W2 ⟨rfl, h2⟩
  have H2 := Lib.hid h2
  clear h2 Hc
  go_wp2
  go_end0
  exact ⟨rfl, H2.out⟩

set_option maxRecDepth 100000 in
theorem enc2_10 (w W : World) (xs : List UInt8) (h : WS w xs W) (hl : xs.length ≤ 800000) (g : Nat) (x : VlD) (hx : x.At w) (ho : okV x = true) (hc : W.cell? ⟨g, 10, none⟩ = some (.bool x.is)) (hd : W.cell? ⟨g, 10 + 1, none⟩ = some (.slice x.B x.m x.d)) :
    Calls Try.prog 53 #[.pointer (some ⟨g, 10, none⟩), .pointer (some ⟨w.heap.size + 1, 0, none⟩)] W fun e W' => e = .returned (.tuple #[]) ∧ WS w (xs ++ encV x) W' := by
  have hb := h.box.cell
  have Hc := Lib.hid (writeValue_ok w W.drew xs (h.keep ((Mod.refl _ W).drew)) hl x hx ho)
  clear h hx ho
  simp only [Nat.reduceAdd] at hd
  go_enter Try.func53, Try.ntmps53
  go_wp2_with fail
  go_still_tail 4, (by kernel_rfl)
  change wpList _ _ _ _ _ W.drew
  clear hb hc hd
  generalize W.drew = Wd at *
  go_wp2_with fail
  refine Hc.out.mono ?_
  rintro e W2 ⟨rfl, h2⟩
  have H2 := Lib.hid h2
  clear h2 Hc
  go_wp2
  go_end0
  exact ⟨rfl, H2.out⟩
set_option maxRecDepth 100000 in
theorem enc2_12 (w W : World) (xs : List UInt8) (h : WS w xs W) (hl : xs.length ≤ 800000) (g : Nat) (x : VlD) (hx : x.At w) (ho : okV x = true) (hc : W.cell? ⟨g, 12, none⟩ = some (.bool x.is)) (hd : W.cell? ⟨g, 12 + 1, none⟩ = some (.slice x.B x.m x.d)) :
    Calls Try.prog 53 #[.pointer (some ⟨g, 12, none⟩), .pointer (some ⟨w.heap.size + 1, 0, none⟩)] W fun e W' => e = .returned (.tuple #[]) ∧ WS w (xs ++ encV x) W' := by
  have hb := h.box.cell
  have Hc := Lib.hid (writeValue_ok w W.drew xs (h.keep ((Mod.refl _ W).drew)) hl x hx ho)
  clear h hx ho
  simp only [Nat.reduceAdd] at hd
  go_enter Try.func53, Try.ntmps53
  go_wp2_with fail
  go_still_tail 4, (by kernel_rfl)
  change wpList _ _ _ _ _ W.drew
  clear hb hc hd
  generalize W.drew = Wd at *
  go_wp2_with fail
  refine Hc.out.mono ?_
  rintro e W2 ⟨rfl, h2⟩
  have H2 := Lib.hid h2
  clear h2 Hc
  go_wp2
  go_end0
  exact ⟨rfl, H2.out⟩
end Go.Proofs.Ytpkgeidenkjnfaa
