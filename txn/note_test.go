package txn

import (
	"testing"

	"bobbin/api"
)

// P14.1, P14.2 and P14.3: the chapter's examples.
func TestChapter(t *testing.T) {
	x := noted(t, begun(t, 1), 5)
	x = saved(t, x, 0)
	x = noted(t, x, 6, 7)
	wantAbove(t, "two changes after the savepoint", x, 0, 2, api.OK)
	x = undone(t, x, 7)
	wantAbove(t, "one of them undone", x, 0, 1, api.OK)
	x, _ = Note(begun(t, 1), api.Change{LSN: 1, Page: 3, Old: val("0123456789")})
	wantKept(t, "from 10 bytes to no value", []api.Tx{x}, 3, 14)
}

// P14.1: Note appends, and sets Last always and First once.
func TestNote(t *testing.T) {
	x := begun(t, 9)
	a, b := api.Change{LSN: 258, Page: 255, Key: 65535, Old: val("ab"), New: val("")}, api.Change{LSN: 300, New: val("c")}
	y := api.Tx{ID: 9, State: api.TxActive, First: 258, Last: 258, L: []api.Change{a}}
	wantNote(t, "the first change", x, a, y, api.OK)
	z := api.Tx{ID: 9, State: api.TxActive, First: 258, Last: 300, L: []api.Change{a, b}}
	wantNote(t, "the second change", y, b, z, api.OK)
	z.Saves, y.Saves = []int{0, 1}, []int{0, 1}
	wantNote(t, "with savepoints", y, b, z, api.OK)
}

// P14.1: Note is asked for nothing of the State, which stays as it is.
func TestNoteInAnyState(t *testing.T) {
	for _, state := range []int{api.TxActive, api.TxCommitted, api.TxAborting} {
		x := api.Tx{ID: 2, State: state, L: []api.Change{at(3)}, Saves: []int{1}}
		want := api.Tx{ID: 2, State: state, First: 4, Last: 4, L: []api.Change{at(3), at(4)}, Saves: []int{1}}
		wantNote(t, "any state", x, at(4), want, api.OK)
		wantMeant(t, "any state", x, at(4), 0)
	}
}

// P14.1: First is set if it is 0, whether there are changes or not, and is kept otherwise; Last may be greater than the new LSN before.
func TestNoteSetsFirstAndLast(t *testing.T) {
	x := api.Tx{ID: 2, State: api.TxActive, Last: 90, L: []api.Change{at(3)}}
	wantNote(t, "First is 0", x, at(4), api.Tx{ID: 2, State: api.TxActive, First: 4, Last: 4, L: []api.Change{at(3), at(4)}}, api.OK)
	x.First = 77
	wantNote(t, "First is greater", x, at(4), api.Tx{ID: 2, State: api.TxActive, First: 77, Last: 4, L: []api.Change{at(3), at(4)}}, api.OK)
	x.L = nil
	wantNote(t, "no changes", x, at(1), api.Tx{ID: 2, State: api.TxActive, First: 77, Last: 1, L: []api.Change{at(1)}}, api.OK)
	x.First = 1
	wantNote(t, "First is 1", x, at(2), api.Tx{ID: 2, State: api.TxActive, First: 1, Last: 2, L: []api.Change{at(2)}}, api.OK)
}

// P14.1: the LSN must be greater than that of the last change, and in its range.
func TestNoteLSN(t *testing.T) {
	x := noted(t, begun(t, 1), 10, 20)
	for lsn := -1; lsn <= 20; lsn++ {
		wantNote(t, "not greater", x, api.Change{LSN: lsn}, api.Tx{}, api.ErrArg)
	}
	for _, lsn := range []int{21, 22, api.MaxLSN - 1, api.MaxLSN} {
		want := api.Tx{ID: 1, State: api.TxActive, First: 10, Last: lsn, L: []api.Change{at(10), at(20), {LSN: lsn}}}
		wantNote(t, "greater", x, api.Change{LSN: lsn}, want, api.OK)
	}
	for _, lsn := range append([]int{0, api.MaxLSN + 1}, far...) {
		wantNote(t, "out of range", x, api.Change{LSN: lsn}, api.Tx{}, api.ErrArg)
		wantNote(t, "out of range", begun(t, 1), api.Change{LSN: lsn}, api.Tx{}, api.ErrArg)
	}
	last := api.Tx{ID: 1, State: api.TxActive, L: []api.Change{{LSN: api.MaxLSN}}}
	wantNote(t, "none is greater", last, api.Change{LSN: api.MaxLSN}, api.Tx{}, api.ErrArg)
	wantNote(t, "none is greater", last, api.Change{LSN: api.MaxLSN + 1}, api.Tx{}, api.ErrArg)
}

// P14.1: after an undone change its LSN may be used again, as it is not that of the last change any more.
func TestNoteAfterUndo(t *testing.T) {
	x := undone(t, noted(t, begun(t, 1), 10, 20), 20)
	want := api.Tx{ID: 1, State: api.TxActive, First: 10, Last: 11, L: []api.Change{at(10), at(11)}}
	wantNote(t, "less than Last", x, at(11), want, api.OK)
	wantNote(t, "equal to the one left", x, at(10), api.Tx{}, api.ErrArg)
	x = undone(t, x, 10)
	want = api.Tx{ID: 1, State: api.TxActive, First: 10, Last: 1, L: []api.Change{at(1)}}
	wantNote(t, "no change left", x, at(1), want, api.OK)
}

// P14.1: every number and value of the change has its range.
func TestNoteChange(t *testing.T) {
	x := noted(t, begun(t, 1), 10)
	for _, n := range append([]int{-1, 0, 1, 254, 255, 256, 257, 65534, 65535, 65536, 65537, api.MaxLSN}, far...) {
		for _, c := range []api.Change{{LSN: 11, Page: n}, {LSN: 11, Key: n}, {LSN: n}} {
			wantMeant(t, "a number", x, c, 0)
		}
		if n < 0 || n > 255 {
			wantNote(t, "page", x, api.Change{LSN: 11, Page: n}, api.Tx{}, api.ErrArg)
		}
		if n < 0 || n > 65535 {
			wantNote(t, "key", x, api.Change{LSN: 11, Key: n}, api.Tx{}, api.ErrArg)
		}
	}
	for n := range 40 {
		v, w := filled(n), filled(n)
		w.Is = false
		for _, c := range []api.Change{{LSN: 11, Old: v}, {LSN: 11, New: v}, {LSN: 11, Old: w}, {LSN: 11, New: w}} {
			wantMeant(t, "a value", x, c, 0)
			if n > 32 || n > 0 && c.Old.Is == c.New.Is {
				wantNote(t, "too many bytes", x, c, api.Tx{}, api.ErrArg)
			}
		}
	}
}

// P14.1 and R2: ErrFull for a seventh change, but ErrArg comes first.
func TestNoteFull(t *testing.T) {
	x := full()
	wantNote(t, "a seventh", x, at(61), api.Tx{}, api.ErrFull)
	wantNote(t, "not greater", x, at(60), api.Tx{}, api.ErrArg)
	wantNote(t, "not valid", x, api.Change{LSN: 61, Page: 256}, api.Tx{}, api.ErrArg)
	wantNote(t, "too long", x, api.Change{LSN: 61, New: filled(33)}, api.Tx{}, api.ErrArg)
	x.ID = 0
	wantNote(t, "no transaction", x, at(61), api.Tx{}, api.ErrArg)
	x.ID = 1
	x.L = append(x.L, at(61))
	wantNote(t, "seven already", x, at(62), api.Tx{}, api.ErrArg)
	wantNote(t, "the sixth", noted(t, begun(t, 7), 10, 20, 30, 40, 50), at(60), api.Tx{ID: 7, State: api.TxActive, First: 10, Last: 60, L: full().L}, api.OK)
}
