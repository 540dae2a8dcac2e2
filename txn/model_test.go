package txn

import (
	"bytes"
	"math"
	"slices"
	"testing"

	"bobbin/api"
)

// far are numbers beyond the ranges of all fields, and of the numbers of savepoints.
var far = []int{math.MinInt, math.MinInt + 1, -1 << 32, -65536, -256, -255, -2, -1, 1 << 32, 1<<32 + 1, 1 << 33, 1<<62 + 5, math.MaxInt - 1, math.MaxInt}

// val returns the value with these bytes.
func val(s string) api.Val {
	return api.Val{Is: true, B: []byte(s)}
}

// filled returns a value with n bytes.
func filled(n int) api.Val {
	return api.Val{Is: true, B: bytes.Repeat([]byte{byte(n + 1)}, n)}
}

// at returns a change with this LSN, which no other LSN has.
func at(lsn int) api.Change {
	return api.Change{LSN: lsn, Page: lsn % 3, Key: lsn % 65536, Old: filled(lsn % 4), New: filled(lsn % 5)}
}

// begun returns a new transaction.
func begun(t *testing.T, id int) api.Tx {
	t.Helper()
	x, e := New(id)
	if e != api.OK {
		t.Fatalf("New(%d) returned %d", id, e)
	}
	return x
}

// noted returns x with changes of these LSNs.
func noted(t *testing.T, x api.Tx, lsns ...int) api.Tx {
	t.Helper()
	for _, lsn := range lsns {
		y, e := Note(x, at(lsn))
		if e != api.OK {
			t.Fatalf("Note(%v, %v) returned %d", x, at(lsn), e)
		}
		x = y
	}
	return x
}

// saved returns x with a savepoint, whose number must be the one that is given.
func saved(t *testing.T, x api.Tx, want int) api.Tx {
	t.Helper()
	y, n, e := Save(x)
	if n != want || e != api.OK {
		t.Fatalf("Save(%v) returned %d and %d", x, n, e)
	}
	return y
}

// undone returns x without its last change, whose LSN must be the one that is given.
func undone(t *testing.T, x api.Tx, lsn int) api.Tx {
	t.Helper()
	y, c, e := Undo(x)
	if !sameChange(c, at(lsn)) || e != api.OK {
		t.Fatalf("Undo(%v) returned %v and %d", x, c, e)
	}
	return y
}

func sameVal(v, w api.Val) bool {
	return v.Is == w.Is && bytes.Equal(v.B, w.B)
}

func sameChange(c, d api.Change) bool {
	return c.LSN == d.LSN && c.Page == d.Page && c.Key == d.Key && sameVal(c.Old, d.Old) && sameVal(c.New, d.New)
}

// same reports whether two transactions are equal, where an empty list may be nil (R6).
func same(x, y api.Tx) bool {
	return x.ID == y.ID && x.State == y.State && x.First == y.First && x.Last == y.Last && slices.EqualFunc(x.L, y.L, sameChange) && slices.Equal(x.Saves, y.Saves)
}

// exact returns a copy of x, with all that is behind its lists up to their capacity, that shares no memory with it.
func exact(x api.Tx) api.Tx {
	changes, saves := len(x.L), len(x.Saves)
	x.L = slices.Clone(x.L[:cap(x.L)])
	for i := range x.L {
		for _, v := range []*api.Val{&x.L[i].Old, &x.L[i].New} {
			n := len(v.B)
			v.B = slices.Clone(v.B[:cap(v.B)])[:n]
		}
	}
	x.L = x.L[:changes]
	x.Saves = slices.Clone(x.Saves[:cap(x.Saves)])[:saves]
	return x
}

// step is what a transaction does: it changes a record, or it sets a savepoint.
type step struct {
	save bool
	c    api.Change
}

// meantTx is a transaction as the document tells of it: its changes and savepoints in the order in which they were made.
type meantTx struct {
	id, state, first, last int
	steps                  []step
}

// meantOf returns the model of a valid transaction.
func meantOf(x api.Tx) meantTx {
	m := meantTx{id: x.ID, state: x.State, first: x.First, last: x.Last}
	saves := x.Saves
	for n := 0; n <= len(x.L); n++ {
		for len(saves) > 0 && saves[0] == n {
			m.steps = append(m.steps, step{save: true})
			saves = saves[1:]
		}
		if n < len(x.L) {
			m.steps = append(m.steps, step{c: x.L[n]})
		}
	}
	return m
}

// tx returns the transaction of a model.
func (m meantTx) tx() api.Tx {
	x := api.Tx{ID: m.id, State: m.state, First: m.first, Last: m.last}
	for _, s := range m.steps {
		if s.save {
			x.Saves = append(x.Saves, m.changes(0)-m.changesAfter(len(x.Saves)))
		} else {
			x.L = append(x.L, s.c)
		}
	}
	return x
}

// changes returns how many of the steps from the given one on are changes.
func (m meantTx) changes(from int) int {
	n := 0
	for _, s := range m.steps[from:] {
		if !s.save {
			n++
		}
	}
	return n
}

// saves returns how many savepoints there are.
func (m meantTx) saves() int {
	return len(m.steps) - m.changes(0)
}

// changesAfter returns how many changes were made after a savepoint, or -1 if there is no such savepoint.
func (m meantTx) changesAfter(save int) int {
	seen := 0
	for i, s := range m.steps {
		if s.save && seen == save {
			return m.changes(i)
		}
		if s.save {
			seen++
		}
	}
	return -1
}

// latest returns the LSN of the last change, or 0.
func (m meantTx) latest() int {
	lsn := 0
	for _, s := range m.steps {
		if !s.save {
			lsn = s.c.LSN
		}
	}
	return lsn
}

// meantChange is what the document says of a valid change.
func meantChange(c api.Change) bool {
	if c.LSN < 1 || c.LSN > 4294967295 || c.Page < 0 || c.Page > 255 || c.Key < 0 || c.Key > 65535 {
		return false
	}
	for _, v := range []api.Val{c.Old, c.New} {
		if most := map[bool]int{true: 32}[v.Is]; len(v.B) > most {
			return false
		}
	}
	return true
}

// meantMay is what the document says of a valid transaction.
func meantMay(x api.Tx) bool {
	if x.ID < 1 || x.ID > 255 || x.State != api.TxActive && x.State != api.TxCommitted && x.State != api.TxAborting {
		return false
	}
	if x.First < 0 || x.First > 4294967295 || x.Last < 0 || x.Last > 4294967295 || len(x.L) > 6 || len(x.Saves) > 4 {
		return false
	}
	for i := range x.L {
		if !meantChange(x.L[i]) || i > 0 && x.L[i].LSN <= x.L[i-1].LSN {
			return false
		}
	}
	for i := range x.Saves {
		if x.Saves[i] < 0 || x.Saves[i] > len(x.L) || i > 0 && x.Saves[i] < x.Saves[i-1] {
			return false
		}
	}
	return true
}

// meantNote is what the document says of Note.
func meantNote(x api.Tx, c api.Change) (api.Tx, api.Errno) {
	if !meantMay(x) || !meantChange(c) {
		return api.Tx{}, api.ErrArg
	}
	m := meantOf(x)
	if c.LSN <= m.latest() {
		return api.Tx{}, api.ErrArg
	}
	if m.changes(0) == 6 {
		return api.Tx{}, api.ErrFull
	}
	m.steps = append(m.steps, step{c: c})
	m.last = c.LSN
	if m.first == 0 {
		m.first = c.LSN
	}
	return m.tx(), api.OK
}

// meantUndo is what the document says of Undo: the last change, and the savepoints behind it, are gone.
func meantUndo(x api.Tx) (api.Tx, api.Change, api.Errno) {
	if !meantMay(x) {
		return api.Tx{}, api.Change{}, api.ErrArg
	}
	m := meantOf(x)
	for i := len(m.steps) - 1; i >= 0; i-- {
		if s := m.steps[i]; !s.save {
			m.steps = m.steps[:i]
			return m.tx(), s.c, api.OK
		}
	}
	return api.Tx{}, api.Change{}, api.ErrNone
}

// meantSave is what the document says of Save.
func meantSave(x api.Tx) (api.Tx, int, api.Errno) {
	if !meantMay(x) {
		return api.Tx{}, 0, api.ErrArg
	}
	m := meantOf(x)
	n := m.saves()
	if n == 4 {
		return api.Tx{}, 0, api.ErrFull
	}
	m.steps = append(m.steps, step{save: true})
	return m.tx(), n, api.OK
}

// meantAbove is what the document says of Above.
func meantAbove(x api.Tx, save int) (int, api.Errno) {
	if !meantMay(x) {
		return 0, api.ErrArg
	}
	if n := meantOf(x).changesAfter(save); n >= 0 {
		return n, api.OK
	}
	return 0, api.ErrNone
}

// meantSize is what the document says of the size of a value.
func meantSize(v api.Val) int {
	if v.Is {
		return 4 + len(v.B)
	}
	return 0
}

// meantKept is what the document says of Kept.
func meantKept(l []api.Tx, page int) int {
	kept := 0
	for _, x := range l {
		for _, c := range x.L {
			if before, after := meantSize(c.Old), meantSize(c.New); c.Page == page && before > after {
				kept += before - after
			}
		}
	}
	return kept
}

func wantNew(t *testing.T, id int, want api.Tx, wantE api.Errno) {
	t.Helper()
	if x, e := New(id); !same(x, want) || e != wantE {
		t.Errorf("New(%d) returned %v and %d", id, x, e)
	}
}

func wantMay(t *testing.T, what string, x api.Tx, want bool) {
	t.Helper()
	if got := May(x); got != want {
		t.Errorf("%s: May(%v) returned %t", what, x, got)
	}
}

func wantNote(t *testing.T, what string, x api.Tx, c api.Change, want api.Tx, wantE api.Errno) {
	t.Helper()
	if y, e := Note(x, c); !same(y, want) || e != wantE {
		t.Errorf("%s: Note(%v, %v) returned %v and %d", what, x, c, y, e)
	}
}

func wantUndo(t *testing.T, what string, x, want api.Tx, wantC api.Change, wantE api.Errno) {
	t.Helper()
	if y, c, e := Undo(x); !same(y, want) || !sameChange(c, wantC) || e != wantE {
		t.Errorf("%s: Undo(%v) returned %v, %v and %d", what, x, y, c, e)
	}
}

func wantSave(t *testing.T, what string, x, want api.Tx, wantN int, wantE api.Errno) {
	t.Helper()
	if y, n, e := Save(x); !same(y, want) || n != wantN || e != wantE {
		t.Errorf("%s: Save(%v) returned %v, %d and %d", what, x, y, n, e)
	}
}

func wantAbove(t *testing.T, what string, x api.Tx, save, want int, wantE api.Errno) {
	t.Helper()
	if n, e := Above(x, save); n != want || e != wantE {
		t.Errorf("%s: Above(%v, %d) returned %d and %d", what, x, save, n, e)
	}
}

func wantKept(t *testing.T, what string, l []api.Tx, page, want int) {
	t.Helper()
	if n := Kept(l, page); n != want {
		t.Errorf("%s: Kept(%v, %d) returned %d", what, l, page, n)
	}
}

// wantMeant checks all calls with x, the change c and a savepoint's number against the model, and that they change neither x nor c, and that their results share no memory with these.
func wantMeant(t *testing.T, what string, x api.Tx, c api.Change, save int) {
	t.Helper()
	before, beforeC := exact(x), exact(api.Tx{L: []api.Change{c}}).L[0]
	wantMay(t, what, x, meantMay(before))
	noteX, noteE := meantNote(before, beforeC)
	wantNote(t, what, x, c, noteX, noteE)
	undoX, undoC, undoE := meantUndo(before)
	wantUndo(t, what, x, undoX, undoC, undoE)
	saveX, saveN, saveE := meantSave(before)
	wantSave(t, what, x, saveX, saveN, saveE)
	aboveN, aboveE := meantAbove(before, save)
	wantAbove(t, what, x, save, aboveN, aboveE)
	for _, page := range []int{c.Page, 0, 1, 2, -1} {
		wantKept(t, what, []api.Tx{x, x}, page, meantKept([]api.Tx{before, before}, page))
	}
	if !same(x, before) || !sameChange(c, beforeC) {
		t.Errorf("%s: the arguments %v and %v were changed to %v and %v", what, before, beforeC, x, c)
	}
	wantApart(t, what, x, c)
}

// wantApart checks that the lists of what the calls return share no memory with their arguments, nor with each other (R3).
func wantApart(t *testing.T, what string, x api.Tx, c api.Change) {
	t.Helper()
	given := memory(x)
	given = append(given, memory(api.Tx{L: []api.Change{c}})...)
	noteX, _ := Note(x, c)
	undoX, undoC, _ := Undo(x)
	saveX, _, _ := Save(x)
	// Behind the lists of an undone transaction, up to their capacity, must be nothing of the change that is returned with it.
	undo := append(memory(undoX), memory(api.Tx{L: []api.Change{undoC}})...)
	for i, l := range [][]any{memory(noteX), undo, memory(saveX)} {
		all := map[any]bool{}
		for _, p := range given {
			all[p] = true
		}
		for _, p := range l {
			if all[p] {
				t.Errorf("%s: call %d with %v and %v returned lists that share memory", what, i, x, c)
				return
			}
			all[p] = true
		}
	}
}

// memory returns the addresses of all elements of the lists of a transaction, up to their capacity.
func memory(x api.Tx) []any {
	var l []any
	changes, saves := x.L[:cap(x.L)], x.Saves[:cap(x.Saves)]
	for i := range saves {
		l = append(l, &saves[i])
	}
	for i := range changes {
		l = append(l, &changes[i])
		for _, v := range []api.Val{changes[i].Old, changes[i].New} {
			b := v.B[:cap(v.B)]
			for j := range b {
				l = append(l, &b[j])
			}
		}
	}
	return l
}
