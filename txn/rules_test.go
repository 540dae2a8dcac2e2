package txn

import (
	"testing"

	"bobbin/api"
)

// roomy returns a valid transaction whose lists and values have other elements behind them, in the same memory.
func roomy() api.Tx {
	x := full()
	all := append(x.L, at(70), at(80))
	for i := range all {
		b := []byte{1, 2, 3, 4, 5, 6, 7, 8, 9}
		all[i].Old, all[i].New = api.Val{Is: true, B: b[1:3]}, api.Val{Is: true, B: b[2:6]}
	}
	x.L = all[:4]
	x.Saves = []int{9, 0, 2, 2, 4, 8, 8}[1:4]
	return x
}

// R3: no call changes its arguments, nor what is behind their lists.
func TestArgumentsStay(t *testing.T) {
	x, c := roomy(), roomy().L[:6][4]
	behind := func(x api.Tx) api.Tx {
		return api.Tx{L: x.L[:cap(x.L)], Saves: x.Saves[:cap(x.Saves)]}
	}
	before, beforeC := exact(x), exact(api.Tx{L: []api.Change{c}}).L[0]
	for range 3 {
		if _, e := Note(x, c); e != api.OK {
			t.Errorf("Note returned %d", e)
		}
		if _, _, e := Undo(x); e != api.OK {
			t.Errorf("Undo returned %d", e)
		}
		if _, _, e := Save(x); e != api.OK {
			t.Errorf("Save returned %d", e)
		}
		wantMay(t, "roomy", x, true)
		wantAbove(t, "roomy", x, 0, 4, api.OK)
		Kept([]api.Tx{x, x}, 1)
		Size(c.Old)
	}
	if !same(behind(x), behind(before)) || !sameChange(c, beforeC) {
		t.Errorf("the arguments %v and %v were changed to %v and %v", behind(before), beforeC, behind(x), c)
	}
}

// R3: the list of Kept is not changed, nor what is behind it.
func TestListStays(t *testing.T) {
	l := []api.Tx{full(), roomy(), full(), changed(1, filled(3), api.Val{})}
	wantKept(t, "two of four", l[:2], 1, meantKept(l[:2], 1))
	for i, x := range []api.Tx{full(), roomy(), full(), changed(1, filled(3), api.Val{})} {
		if !same(l[i], x) {
			t.Errorf("the transaction %d was changed to %v", i, l[i])
		}
	}
}

// R3: what is returned shares no memory with arguments, nor its parts with each other, also if those of the arguments do.
func TestResultsAreApart(t *testing.T) {
	one := filled(32)
	x := full()
	for i := range x.L {
		x.L[i].Old, x.L[i].New = one, one
	}
	x.L, x.Saves = x.L[:4], x.Saves[:3]
	wantApart(t, "one value", x, api.Change{LSN: 55, Old: one, New: one})
	wantApart(t, "with others behind", roomy(), roomy().L[:6][4])
	y := roomy()
	wantApart(t, "a change of its own memory", y, y.L[:6][5])
	wantApart(t, "full", full(), at(61))
	wantApart(t, "new", begun(t, 1), at(61))
	wantApart(t, "one change", noted(t, begun(t, 1), 33), at(61))
}

// spoil overwrites all that the transaction's lists have, and what is behind them.
func spoil(x api.Tx) {
	l := x.L[:cap(x.L)]
	for i := range l {
		for _, v := range []api.Val{l[i].Old, l[i].New} {
			for j := range v.B[:cap(v.B)] {
				v.B[:cap(v.B)][j] = 99
			}
		}
		l[i] = api.Change{LSN: 99, Page: 99, Key: 99, Old: val("99"), New: val("99")}
	}
	for i := range x.Saves[:cap(x.Saves)] {
		x.Saves[:cap(x.Saves)][i] = 99
	}
}

// R3: what was returned stays as it is when the argument changes, and the argument when that changes.
func TestLaterChanges(t *testing.T) {
	c := api.Change{LSN: 55, Old: filled(3), New: filled(4)}
	calls := map[string]func(x api.Tx) api.Tx{
		"Note": func(x api.Tx) api.Tx { y, _ := Note(x, c); return y },
		"Undo": func(x api.Tx) api.Tx { y, _, _ := Undo(x); return y },
		"Save": func(x api.Tx) api.Tx { y, _, _ := Save(x); return y },
	}
	for name, call := range calls {
		x, fresh := roomy(), roomy()
		y := call(x)
		want := exact(y)
		spoil(x)
		if !same(y, want) {
			t.Errorf("%s: the result became %v with the argument", name, y)
		}
		z := call(fresh)
		spoil(z)
		if !same(fresh, roomy()) || !sameChange(c, api.Change{LSN: 55, Old: filled(3), New: filled(4)}) {
			t.Errorf("%s: the argument became %v with the result", name, fresh)
		}
	}
}

// R3 and the way of this layer: a change that is noted, or appended by the caller, to a list that was shortened does not overwrite the lists that were returned before, nor the change.
func TestNotedLater(t *testing.T) {
	x := noted(t, begun(t, 1), 10, 20, 30)
	y, c, e := Undo(x)
	if e != api.OK {
		t.Fatalf("Undo(%v) returned %d", x, e)
	}
	a := noted(t, y, 21)
	b := noted(t, y, 22, 23)
	appended := append(y.L, at(24))
	saves := append(y.Saves, 1)
	z := undone(t, b, 23)
	d := noted(t, z, 25)
	for i, want := range [][]int{{10, 20, 30}, {10, 20}, {10, 20, 21}, {10, 20, 22, 23}, {10, 20, 24}, {10, 20, 22}, {10, 20, 22, 25}} {
		l := [][]api.Change{x.L, y.L, a.L, b.L, appended, z.L, d.L}[i]
		if len(l) != len(want) {
			t.Errorf("the list %d is %v", i, l)
			continue
		}
		for j, lsn := range want {
			if !sameChange(l[j], at(lsn)) {
				t.Errorf("the list %d is %v", i, l)
			}
		}
	}
	if !sameChange(c, at(30)) || len(saves) != 1 {
		t.Errorf("the change that was undone is %v", c)
	}
}

// R3: a savepoint that is added to a list that was shortened does not overwrite the lists that were returned before.
func TestSavedLater(t *testing.T) {
	x := saved(t, noted(t, saved(t, begun(t, 1), 0), 10, 20), 1)
	y := undone(t, x, 20)
	z := saved(t, y, 1)
	u := append(y.Saves, 0)
	wantAbove(t, "as before", x, 1, 0, api.OK)
	wantAbove(t, "the new one", z, 1, 0, api.OK)
	if x.Saves[1] != 2 || z.Saves[1] != 1 || u[1] != 0 || len(y.Saves) != 1 {
		t.Errorf("the savepoints are %v, %v, %v and %v", x.Saves, y.Saves, z.Saves, u)
	}
}

// R5: a call depends only on its arguments, whatever was called before.
func TestNothingIsKept(t *testing.T) {
	for range 3 {
		x := begun(t, 3)
		y := begun(t, 4)
		x = saved(t, noted(t, x, 5), 0)
		wantAbove(t, "another one", y, 0, 0, api.ErrNone)
		wantUndo(t, "another one", y, api.Tx{}, api.Change{}, api.ErrNone)
		y = noted(t, y, 4)
		wantNote(t, "the first one", x, at(5), api.Tx{}, api.ErrArg)
		wantNote(t, "the other one", y, at(5), api.Tx{ID: 4, State: api.TxActive, First: 4, Last: 5, L: []api.Change{at(4), at(5)}}, api.OK)
		wantNote(t, "the same again", y, at(5), api.Tx{ID: 4, State: api.TxActive, First: 4, Last: 5, L: []api.Change{at(4), at(5)}}, api.OK)
		x = undone(t, x, 5)
		wantKept(t, "nothing is left", []api.Tx{x}, 2, 0)
	}
}

// R1: lists of any length are only counted, if they are too long.
func TestLongLists(t *testing.T) {
	x := full()
	for n := range 1 << 16 {
		x.L = append(x.L, api.Change{LSN: 61 + n})
	}
	y := full()
	y.Saves = make([]int, 1<<16)
	for range 100000 {
		if May(x) || May(y) {
			t.Fatal("a transaction with many changes or savepoints is valid")
		}
	}
	wantUndo(t, "many", api.Tx{ID: 1, State: api.TxActive, L: x.L}, api.Tx{}, api.Change{}, api.ErrArg)
	wantAbove(t, "many", y, 0, 0, api.ErrArg)
	z := full()
	z.L[2].New = api.Val{Is: true, B: make([]byte, 1<<20)}
	wantMay(t, "a long value", z, false)
	wantKept(t, "a long value", []api.Tx{z}, z.L[2].Page, meantKept([]api.Tx{z}, z.L[2].Page))
}
