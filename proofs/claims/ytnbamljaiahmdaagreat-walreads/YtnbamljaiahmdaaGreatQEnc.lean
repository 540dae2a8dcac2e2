/-
  rec.Encode: a Writer in new memory; its two functions, writeValue.
  rec.Encode.
-/
import Derived.Test.YtnbamljaiahmdaaGreatQMay
import Derived.StillTailTactics
namespace Go.Proofs.YtnbamljaiahmdaaGreat
open Go Go.RowKit Go.Shelf

/-- A Writer in new memory, its box behind it; nothing old has turned. -/
structure WS (w : World) (xs : List UInt8) (W : World) : Prop where
  ex : ∃ A n c, Wr W w.heap.size w.heap.size A n c xs
  box : Bx W (w.heap.size + 1) 150 (.pointer (some ⟨w.heap.size, 0, none⟩))
  old : Mod (fun _ => False) w W
theorem wr_typed {W : World} {base g : Nat} {A : Option Addr} {n c : Nat} {xs : List UInt8} (h : Wr W base g A n c xs) {k : Nat} (hk : WF g A k) : ∃ cs t fr, W.heap[k]? = some (.cells cs t fr) ∧ t ≠ 150 := by
  rcases hk with e | e
  · subst e; obtain ⟨T, hT, e⟩ := h.2.1; exact ⟨_, T, _, e, by rcases hT with rfl | rfl <;> decide⟩
  · obtain ⟨_, cur, hc, _⟩ := h.2.2.block e
    exact ⟨_, _, _, hc, by decide⟩
theorem box_far {W W' : World} {base g Bo : Nat} {A : Option Addr} {n c : Nat} {xs : List UInt8} {v : Value} (h : Wr W base g A n c xs) (hb : Bx W Bo 150 v) (hm : Mod (WF g A) W W') : Bx W' Bo 150 v := by
  refine hb.mod hm (fun e => ?_)
  obtain ⟨cs, t, fr, hc, ht⟩ := wr_typed h e
  have hb' : W.heap[Bo]? = some (.cells #[v] 150 (0, 0)) := hb
  rw [hc] at hb'
  injection hb' with e
  injection e with _ e
  exact ht e
theorem wr_old {w W W' : World} {g : Nat} {A : Option Addr} {n c : Nat} {xs : List UInt8} (h : Wr W w.heap.size g A n c xs) (ho : Mod (fun _ => False) w W) (hm : Mod (WF g A) W W') : Mod (fun _ => False) w W' :=
  ho.trans hm (fun _ hi e => h.wf hi e)
theorem WS.keep {w W W' : World} {xs : List UInt8} (h : WS w xs W) (hm : Mod (fun _ => False) W W') : WS w xs W' := by
  obtain ⟨A, n, c, hw⟩ := h.ex
  exact ⟨⟨A, n, c, hw.mod hm id (fun _ _ => id)⟩, h.box.keep hm, h.old.trans hm (fun _ _ h => h)⟩
theorem ws_new (w : World) : WS w [] ((w.alloc (.cells #[.slice none 0 0] 126)).alloc (.cells #[.pointer (some ⟨w.heap.size, 0, none⟩)] 150)) := by
  have h1 : Wr (w.alloc (.cells #[.slice none 0 0] 126)) w.heap.size w.heap.size none 0 0 [] := ⟨Nat.le_refl _, ⟨_, .inl rfl, heap_alloc_new w _⟩, OwV.nil _ _ _⟩
  refine ⟨⟨none, 0, 0, h1.alloc _⟩, ?_, ((Mod.refl _ w).alloc _).alloc _⟩
  have := Bx.new (w.alloc (.cells #[.slice none 0 0] 126)) 150 (.pointer (some ⟨w.heap.size, 0, none⟩))
  rw [World.size_alloc] at this
  exact this
theorem wr_step {w W W' : World} {xs ys : List UInt8} {A A' : Option Addr} {n c n' c' : Nat} (h : WS w xs W) (hA : Wr W w.heap.size w.heap.size A n c xs)
    (hw : Wr W' w.heap.size w.heap.size A' n' c' ys) (hm : Mod (WF w.heap.size A) W W') : WS w ys W' :=
  ⟨⟨A', n', c', hw⟩, box_far hA h.box hm, wr_old hA h.old hm⟩
theorem ws_bytes {w W : World} {xs : List UInt8} (h : WS w xs W) (hl : xs.length ≤ 900000) :
    Calls Tryz.prog 75 #[.pointer (some ⟨w.heap.size, 0, none⟩)] W fun e w' => e = .returned (.slice (some ⟨W.heap.size, 0, none⟩) xs.length xs.length) ∧ Fresh W w' xs := by
  obtain ⟨A, n, c, hw⟩ := h.ex
  have hn : xs.length = n := by have := hw.2.2.len; simpa using this
  subst hn
  exact bytes_ok W _ _ A _ c xs hw (by omega)
theorem ws_put {w W : World} {xs : List UInt8} (h : WS w xs W) (hl : xs.length ≤ 900000) (n k : Int) (hk : widthOk k = true) (hn0 : 0 ≤ n) (hn : n < 256 ^ k.toNat) :
    Calls Tryz.prog 85 #[.pointer (some ⟨w.heap.size, 0, none⟩), .int .i64 n, .int .i64 k] W fun e W' => e = .returned (.int .i64 0) ∧ WS w (xs ++ le k.toNat n.toNat) W' := by
  obtain ⟨A, m, c, hw⟩ := h.ex
  have hm : xs.length = m := by have := hw.2.2.len; simpa using this
  refine (put_ok W _ _ A m c xs hw (by omega) n k hk hn0 hn).mono ?_
  rintro e W' ⟨rfl, A', c', h1, h2, _⟩
  exact ⟨rfl, wr_step h hw h1 h2⟩
theorem ws_lay {w W : World} {xs ys : List UInt8} {B : Option Addr} {m d : Nat} (h : WS w xs W) (hl : xs.length ≤ 900000) (hs : Sl w B m d ys) (hm : m ≤ 255) :
    Calls Tryz.prog 87 #[.pointer (some ⟨w.heap.size, 0, none⟩), .slice B m d] W fun e W' => e = .returned (.int .i64 0) ∧ WS w (xs ++ (UInt8.ofNat ys.length :: ys)) W' := by
  obtain ⟨A, n, c, hw⟩ := h.ex
  have hn : xs.length = n := by have := hw.2.2.len; simpa using this
  refine (lay_ok W _ _ A n c xs hw (by omega) B m d ys (hs.mod h.old (fun _ _ _ => id)) hm (fun k hk hp => ?_)).mono ?_
  · obtain ⟨b, o, hb, hlt⟩ := hs.lt hp
    have : b = k := by rw [hb] at hk; simpa [blkOf] using hk
    subst this
    exact hw.wf hlt
  · rintro e W' ⟨rfl, A', c', h1, h2, _⟩
    rw [← hs.len] at h1
    exact ⟨rfl, wr_step h hw h1 h2⟩

/-- The bytes of a value, of a field, of a record. -/
def encV (v : VlD) : List UInt8 := if v.is then UInt8.ofNat v.vs.length :: v.vs else [255]
def encF (x : RcD) : Fld → List UInt8
  | .num i wd => le wd (x.f i).toNat
  | .old => encV x.o
  | .new => encV x.v
def encR (fl : List Fld) (x : RcD) : List UInt8 := UInt8.ofNat x.k.toNat :: fl.flatMap (encF x)

set_option maxRecDepth 100000 in
theorem writeValue_ok (w W : World) (xs : List UInt8) (h : WS w xs W) (hl : xs.length ≤ 800000) (x : VlD) (hx : x.At w) (ho : okV x = true) :
    Calls Tryz.prog 99 #[.pointer (some ⟨w.heap.size, 0, none⟩), .agg #[.bool x.is, .slice x.B x.m x.d]] W fun e W' => e = .returned (.tuple #[]) ∧ WS w (xs ++ encV x) W' := by
  have h1 : WS w xs (W.alloc (.cells #[.bool x.is, .slice x.B x.m x.d] 45)) := h.keep ((Mod.refl _ W).alloc _)
  cases hi : x.is with
  | true =>
    have hm : x.m ≤ 32 := by
      unfold okV noneV at ho
      rw [hi] at ho
      simp at ho
      omega
    rw [hi] at h1
    have Hc := Lib.hid (ws_lay h1 (by omega) hx (by omega))
    have He : Hid (encV x = UInt8.ofNat x.vs.length :: x.vs) := by show _ = _; unfold encV; rw [hi]; rfl
    clear h1 h hi ho hm hx
    go_enter Tryz.func99, Tryz.ntmps99
    go_wp2_with fail
    refine Hc.out.mono ?_
    rintro e W2 ⟨rfl, h2⟩
    have H2 := Lib.hid h2
    clear h2 Hc
    go_wp2
    go_end0
    exact ⟨rfl, by rw [He.out]; exact H2.out⟩
  | false =>
    rw [hi] at h1
    have Hc := Lib.hid (ws_put h1 (by omega) 255 1 rfl (by omega) (by decide))
    have He : Hid (encV x = [255]) := by show _ = _; unfold encV; rw [hi]; rfl
    clear h1 h hi ho hx
    go_enter Tryz.func99, Tryz.ntmps99
    go_wp2_with fail
    refine Hc.out.mono ?_
    rintro e W2 ⟨rfl, h2⟩
    have H2 := Lib.hid h2
    clear h2 Hc
    go_wp2
    go_end0
    exact ⟨rfl, by rw [He.out]; exact H2.out⟩

set_option maxRecDepth 100000 in
theorem enc1_ok (w W : World) (xs : List UInt8) (h : WS w xs W) (hl : xs.length ≤ 800000) (g i wd : Nat) (n : Int) (hc : W.cell? ⟨g, i, none⟩ = some (.int .i64 n)) (hw : wd = 1 ∨ wd = 2 ∨ wd = 4) (ho : okN n wd = true) :
    Calls Tryz.prog 97 #[.pointer (some ⟨g, i, none⟩), .int .i64 wd, .pointer (some ⟨w.heap.size + 1, 0, none⟩)] W fun e W' => e = .returned (.tuple #[]) ∧ WS w (xs ++ le wd n.toNat) W' := by
  have hb := h.box.cell
  unfold okN at ho
  simp only [Bool.and_eq_true, decide_eq_true_eq] at ho
  have hc0 := ws_put (h.keep ((Mod.refl _ W).drew)) (by omega) n (wd : Int) (by rcases hw with rfl | rfl | rfl <;> rfl) ho.1 (by simpa using ho.2)
  rw [Int.toNat_natCast] at hc0
  have Hc := Lib.hid hc0
  clear hc0 h ho hw
  go_enter Tryz.func97, Tryz.ntmps97
  go_wp2_with fail
  go_still_tail 5, (by kernel_rfl)
  change wpList _ _ _ _ _ W.drew
  clear hb hc
  generalize W.drew = Wd at *
  go_wp2_with fail
  refine Hc.out.mono ?_
  rintro e W2 ⟨rfl, h2⟩
  have H2 := Lib.hid h2
  clear h2 Hc
  go_wp2
  go_end0
  exact ⟨rfl, H2.out⟩

set_option maxRecDepth 100000 in
theorem enc2_10 (w W : World) (xs : List UInt8) (h : WS w xs W) (hl : xs.length ≤ 800000) (g : Nat) (x : VlD) (hx : x.At w) (ho : okV x = true) (hc : W.cell? ⟨g, 10, none⟩ = some (.bool x.is)) (hd : W.cell? ⟨g, 10 + 1, none⟩ = some (.slice x.B x.m x.d)) :
    Calls Tryz.prog 98 #[.pointer (some ⟨g, 10, none⟩), .pointer (some ⟨w.heap.size + 1, 0, none⟩)] W fun e W' => e = .returned (.tuple #[]) ∧ WS w (xs ++ encV x) W' := by
  have hb := h.box.cell
  have Hc := Lib.hid (writeValue_ok w W.drew xs (h.keep ((Mod.refl _ W).drew)) hl x hx ho)
  clear h hx ho
  simp only [Nat.reduceAdd] at hd
  go_enter Tryz.func98, Tryz.ntmps98
  go_wp2_with fail
  go_still_tail 4, (by kernel_rfl)
  change wpList _ _ _ _ _ W.drew
  clear hb hc hd
  generalize W.drew = Wd at *
  go_wp2_with fail
  refine Hc.out.mono ?_
  rintro e W2 ⟨rfl, h2⟩
  have H2 := Lib.hid h2
  clear h2 Hc
  go_wp2
  go_end0
  exact ⟨rfl, H2.out⟩
set_option maxRecDepth 100000 in
theorem enc2_12 (w W : World) (xs : List UInt8) (h : WS w xs W) (hl : xs.length ≤ 800000) (g : Nat) (x : VlD) (hx : x.At w) (ho : okV x = true) (hc : W.cell? ⟨g, 12, none⟩ = some (.bool x.is)) (hd : W.cell? ⟨g, 12 + 1, none⟩ = some (.slice x.B x.m x.d)) :
    Calls Tryz.prog 98 #[.pointer (some ⟨g, 12, none⟩), .pointer (some ⟨w.heap.size + 1, 0, none⟩)] W fun e W' => e = .returned (.tuple #[]) ∧ WS w (xs ++ encV x) W' := by
  have hb := h.box.cell
  have Hc := Lib.hid (writeValue_ok w W.drew xs (h.keep ((Mod.refl _ W).drew)) hl x hx ho)
  clear h hx ho
  simp only [Nat.reduceAdd] at hd
  go_enter Tryz.func98, Tryz.ntmps98
  go_wp2_with fail
  go_still_tail 4, (by kernel_rfl)
  change wpList _ _ _ _ _ W.drew
  clear hb hc hd
  generalize W.drew = Wd at *
  go_wp2_with fail
  refine Hc.out.mono ?_
  rintro e W2 ⟨rfl, h2⟩
  have H2 := Lib.hid h2
  clear h2 Hc
  go_wp2
  go_end0
  exact ⟨rfl, H2.out⟩
end Go.Proofs.YtnbamljaiahmdaaGreat

namespace Go.Proofs.YtnbamljaiahmdaaGreat
open Go Go.RowKit Go.Shelf

theorem mayS_snd (fl : List Fld) : ∀ (b : Bool) (x : RcD), (fl.foldl mayStep (b, x)).2 = fl.foldl zeroF x := by
  induction fl with
  | nil => intro b x; rfl
  | cons f fl ih => intro b x; rw [List.foldl_cons, List.foldl_cons]; exact ih _ _
theorem mayB_split {x : RcD} {fl : List Fld} (h : fieldsOf x.k = some fl) : mayB x = (fl.all (okF x) && emptyB (fl.foldl zeroF x)) := by
  unfold mayB
  rw [h]
  show ((mayS fl x).1 && emptyB (mayS fl x).2) = _
  rw [show (mayS fl x).2 = fl.foldl zeroF x from mayS_snd fl true x]
  congr 1
  unfold fieldsOf at h
  repeat' split at h
  all_goals first | (injection h with h; subst h; simp [mayS, mayStep, okF, zeroF, upd, Bool.and_assoc]) | cases h
theorem mayB_kind {x : RcD} (h : mayB x = true) : ∃ fl, fieldsOf x.k = some fl ∧ (∀ f ∈ fl, okF x f = true) ∧ emptyB (fl.foldl zeroF x) = true := by
  cases hf : fieldsOf x.k with
  | none => unfold mayB at h; rw [hf] at h; cases h
  | some fl =>
    rw [mayB_split hf, Bool.and_eq_true] at h
    exact ⟨fl, rfl, List.all_eq_true.1 h.1, h.2⟩
theorem fields_len {k : Int} {fl : List Fld} (h : fieldsOf k = some fl) : fl.length ≤ 6 := by
  unfold fieldsOf at h
  repeat' split at h
  all_goals first | (injection h with h; subst h; simp) | cases h
theorem fields_kind {k : Int} {fl : List Fld} (h : fieldsOf k = some fl) : 1 ≤ k ∧ k ≤ 11 := by
  unfold fieldsOf at h
  repeat' split at h
  all_goals first | omega | cases h

theorem encV_len {w : World} {v : VlD} (hv : v.At w) (ho : okV v = true) : (encV v).length ≤ 33 := by
  unfold encV
  split
  · rename_i hi
    unfold okV noneV at ho
    rw [hi] at ho
    simp at ho
    have := Sl.len hv
    simp
    omega
  · simp
theorem encF_len {w : World} {x : RcD} (hx : x.At w) {f : Fld} (hg : f.good) (ho : okF x f = true) : (encF x f).length ≤ 33 := by
  cases f with
  | num i wd => obtain ⟨_, _, h⟩ := hg; show (le wd _).length ≤ 33; rw [le_length]; omega
  | old => exact encV_len hx.1 ho
  | new => exact encV_len hx.2 ho
theorem flat_len {α β : Type} (f : α → List β) (n : Nat) : ∀ (l : List α), (∀ a ∈ l, (f a).length ≤ n) → (l.flatMap f).length ≤ l.length * n
  | [], _ => by simp
  | a :: l, h => by
    have h1 := h a (List.mem_cons_self ..)
    have h2 := flat_len f n l (fun b hb => h b (List.mem_cons_of_mem _ hb))
    simp only [List.flatMap_cons, List.length_append, List.length_cons, Nat.succ_mul]
    omega
/-- What is written behind j fields. -/
def encJ (fl : List Fld) (x : RcD) (j : Nat) : List UInt8 := UInt8.ofNat x.k.toNat :: (fl.take j).flatMap (encF x)
theorem encJ_succ {fl : List Fld} {x : RcD} {j : Nat} {f : Fld} (h : fl[j]? = some f) : encJ fl x (j + 1) = encJ fl x j ++ encF x f := by
  obtain ⟨hj, e⟩ := List.getElem?_eq_some_iff.1 h
  unfold encJ
  rw [List.take_succ_eq_append_getElem hj, List.flatMap_append, e]
  simp
theorem encJ_len {w : World} {fl : List Fld} {x : RcD} (hx : x.At w) (hg : ∀ f ∈ fl, f.good) (ho : ∀ f ∈ fl, okF x f = true) (hl : fl.length ≤ 6) (j : Nat) : (encJ fl x j).length ≤ 200 := by
  have h1 := flat_len (encF x) 33 (fl.take j) (fun f hf => encF_len hx (hg f (List.mem_of_mem_take hf)) (ho f (List.mem_of_mem_take hf)))
  have h2 : (fl.take j).length ≤ 6 := Nat.le_trans (by rw [List.length_take]; exact Nat.min_le_right ..) hl
  unfold encJ
  rw [List.length_cons]
  omega
/-- The bytes of a record that may be. -/
def encB (x : RcD) : List UInt8 :=
  match fieldsOf x.k with
  | some fl => encR fl x
  | none => []

theorem drew_old (w : World) : Mod (fun _ => False) w w.drew := (Mod.refl _ w).drew

set_option maxRecDepth 100000 in
set_option maxHeartbeats 1000000 in
theorem encode_no (w : World) (x : RcD) (h : mayB x = false) :
    Calls Tryz.prog 86 #[x.val] w fun e w' => e = .returned (.tuple #[.slice none 0 0, .int .i64 1]) ∧ Mod (fun _ => False) w w' := by
  have Hm := Lib.hid (may_ok (w.alloc (.cells x.cells 47)) x)
  rw [h] at Hm
  have Ha : Hid (Mod (fun _ => False) w (w.alloc (.cells x.cells 47))) := (Mod.refl _ w).alloc _
  clear h
  go_enter Tryz.func86, Tryz.ntmps86
  go_wp2_with fail
  refine Hm.out.mono ?_
  rintro e w1 ⟨rfl, h1⟩
  have H1 := Lib.hid (Ha.out.trans h1 (fun _ _ h => h))
  clear h1 Hm
  go_wp2
  go_ret2
  exact ⟨rfl, H1.out⟩

set_option maxRecDepth 100000 in
set_option maxHeartbeats 2000000 in
theorem encode_yes (w : World) (x : RcD) (hx : x.At w) (h : mayB x = true) :
    Calls Tryz.prog 86 #[x.val] w fun e w' => ∃ q, e = .returned (.tuple #[.slice (some ⟨q, 0, none⟩) (encB x).length (encB x).length, .int .i64 0]) ∧
      w'.heap[q]? = some (.cells ((encB x).map bv).toArray 5 (0, 0)) ∧ w.heap.size ≤ q ∧ Mod (fun _ => False) w w' := by
  have Hm := Lib.hid (may_ok (w.alloc (.cells x.cells 47)) x)
  rw [h] at Hm
  have Ha : Hid (Mod (fun _ => False) w (w.alloc (.cells x.cells 47))) := (Mod.refl _ w).alloc _
  have HI : Hid (x.In (w.alloc (.cells x.cells 47)) w.heap.size) := RcD.In.new w x
  obtain ⟨fl, hfl, hok, _⟩ := mayB_kind h
  have hgood := fields_good hfl
  have hlen := encJ_len hx hgood hok (fields_len hfl)
  have hkind := fields_kind hfl
  have HE : Hid (encB x = encJ fl x fl.length) := by
    show _ = _
    unfold encB encJ
    rw [hfl, List.take_length]
    rfl
  have Hx := Lib.hid hx
  have Hlen := Lib.hid hlen
  have Hgood := Lib.hid hgood
  have Hok := Lib.hid hok
  have Hfl := Lib.hid hfl
  have Hkind := Lib.hid hkind
  clear h hx hok hgood hlen hfl hkind
  go_enter Tryz.func86, Tryz.ntmps86
  go_wp2_with fail
  refine Hm.out.mono ?_
  rintro e w1 ⟨rfl, h1⟩
  have H1 := Lib.hid (Ha.out.trans h1 (fun _ _ h => h))
  have HI1 := Lib.hid (HI.out.keep h1)
  have hlt1 := HI1.out.lt
  clear h1 Hm HI Ha
  obtain ⟨wB, hwB⟩ : ∃ wB, (w1.alloc (.cells #[.slice none 0 0] 126)).alloc (.cells #[.pointer (some ⟨w1.heap.size, 0, none⟩)] 150) = wB := ⟨_, rfl⟩
  have hws : WS w1 [] wB := by rw [← hwB]; exact ws_new w1
  have hIB := HI1.out.keep hws.old
  have ck := hIB.kind
  have cb := hws.box.cell
  have Hput := Lib.hid (ws_put hws (by simp) x.k 1 rfl (by have := Hkind.out; omega) (by have := Hkind.out; show x.k < 256 ^ (1 : Nat); omega))
  clear hws hIB
  go_wp2_with fail
  clear hwB ck cb
  refine Hput.out.mono ?_
  rintro e w2 ⟨rfl, h2⟩
  have H2 : Hid (WS w1 (encJ fl x 0) w2) := h2
  clear h2 Hput
  have hs : Steps w.heap.size 97 98 #[.pointer (some ⟨w1.heap.size + 1, 0, none⟩)] #[.pointer (some ⟨w1.heap.size + 1, 0, none⟩)] (fun j W => WS w1 (encJ fl x j) W) fl := by
    refine ⟨enters_of Tryz.func97 (by kernel_rfl) rfl, enters_of Tryz.func98 (by kernel_rfl) rfl, ?_, ?_, ?_⟩
    · rintro j i wd W hf hS
      obtain ⟨g1, g2, g3⟩ : 1 ≤ i ∧ i ≤ 9 ∧ (wd = 1 ∨ wd = 2 ∨ wd = 4) := Hgood.out _ (List.mem_of_getElem? hf)
      have ho : okN (x.f i) wd = true := Hok.out _ (List.mem_of_getElem? hf)
      rw [encJ_succ hf]
      exact enc1_ok w1 W _ hS (by have := Hlen.out j; omega) w.heap.size i wd (x.f i) ((HI1.out.keep hS.old).num g1 g2) g3 ho
    · rintro j W hf hS
      have ho : okV x.o = true := Hok.out _ (List.mem_of_getElem? hf)
      rw [encJ_succ hf]
      exact enc2_10 w1 W _ hS (by have := Hlen.out j; omega) w.heap.size x.o (Hx.out.1.keep H1.out) ho (HI1.out.keep hS.old).c10 (HI1.out.keep hS.old).c11
    · rintro j W hf hS
      have ho : okV x.v = true := Hok.out _ (List.mem_of_getElem? hf)
      rw [encJ_succ hf]
      exact enc2_12 w1 W _ hS (by have := Hlen.out j; omega) w.heap.size x.v (Hx.out.2.keep H1.out) ho (HI1.out.keep hS.old).c12 (HI1.out.keep hS.old).c13
  have Hf := Lib.hid (fields_ok w2 w.heap.size 97 98 _ _ x.k (HI1.out.keep H2.out.old).kind _ fl Hfl.out H2.out hs)
  clear hs
  go_wp2_with fail
  refine Hf.out.mono ?_
  rintro e w3 ⟨rfl, h3⟩
  have cb := h3.box.cell
  rw [← HE.out] at h3
  have Hby := Lib.hid (ws_bytes h3 (by rw [HE.out]; have := Hlen.out fl.length; omega))
  have H3 := Lib.hid h3
  clear h3 Hf
  go_wp2_with fail
  refine Hby.out.mono ?_
  rintro e w4 ⟨rfl, h4a, _, h4b⟩
  have H4 := Lib.hid h4a
  have H5 := Lib.hid ((H1.out.trans H3.out.old (fun _ _ h => h)).trans h4b (fun _ _ h => h))
  have H6 : Hid (w.heap.size ≤ w3.heap.size) := (H1.out.trans H3.out.old (fun _ _ h => h)).size
  clear h4a h4b Hby cb
  go_wp2
  go_ret2
  exact ⟨w3.heap.size, rfl, H4.out, H6.out, H5.out⟩
end Go.Proofs.YtnbamljaiahmdaaGreat
