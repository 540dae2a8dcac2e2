package txn

import (
	"math"
	"testing"

	"bobbin/api"
)

// P14.3: the size of a value.
func TestSize(t *testing.T) {
	for n := range 33 {
		if got := Size(filled(n)); got != 4+n {
			t.Errorf("the size of %d bytes is %d", n, got)
		}
	}
	for _, v := range []api.Val{{}, {B: []byte{}}, {B: []byte{1, 2, 3}}, {B: make([]byte, 100)}} {
		if got := Size(v); got != 0 {
			t.Errorf("the size of %v is %d", v, got)
		}
	}
	if got := Size(api.Val{Is: true}) + Size(val("")); got != 8 {
		t.Errorf("the sizes of two empty values are %d", got)
	}
	for _, n := range []int{33, 255, 256, 1000, 65536, 1 << 20} {
		if got := Size(filled(n)); got != 4+n {
			t.Errorf("the size of %d bytes is %d", n, got)
		}
	}
}

// changed returns a transaction with one change of the page.
func changed(page int, old, new api.Val) api.Tx {
	return api.Tx{ID: 1, State: api.TxActive, First: 1, Last: 1, L: []api.Change{{LSN: 1, Page: page, Key: 5, Old: old, New: new}}}
}

// P14.3: one change reserves what its undoing adds, and nothing if that adds nothing.
func TestKept(t *testing.T) {
	sizes := []api.Val{{}}
	for n := range 33 {
		sizes = append(sizes, filled(n))
	}
	for i, old := range sizes {
		for j, new := range sizes {
			want := 0
			switch {
			case i > j && j > 0:
				want = i - j
			case i > j:
				want = 4 + i - 1
			}
			wantKept(t, "one change", []api.Tx{changed(3, old, new)}, 3, want)
			wantKept(t, "another page", []api.Tx{changed(3, old, new)}, 2, 0)
		}
	}
}

// P14.3: the sum goes over all changes of the page, of all transactions; those that add nothing are not set off.
func TestKeptSum(t *testing.T) {
	x := api.Tx{ID: 1, State: api.TxActive, L: []api.Change{
		{LSN: 1, Page: 3, Key: 1, Old: filled(10), New: filled(4)},
		{LSN: 2, Page: 4, Key: 2, Old: filled(30)},
		{LSN: 3, Page: 3, Key: 1, Old: filled(4), New: filled(32)},
		{LSN: 4, Page: 3, Key: 1, Old: filled(32)},
		{LSN: 5, Page: 3, Key: 7, New: filled(32)},
	}}
	y := api.Tx{ID: 2, State: api.TxAborting, L: []api.Change{{LSN: 6, Page: 3, Key: 9, Old: filled(0)}, {LSN: 7, Page: 5, Key: 9, Old: filled(1), New: filled(0)}}}
	wantKept(t, "one", []api.Tx{x}, 3, 6+36)
	wantKept(t, "two", []api.Tx{x, y}, 3, 6+36+4)
	wantKept(t, "the other way", []api.Tx{y, x}, 3, 6+36+4)
	wantKept(t, "another page", []api.Tx{x, y}, 4, 34)
	wantKept(t, "another page", []api.Tx{x, y}, 5, 1)
	wantKept(t, "no change", []api.Tx{x, y}, 6, 0)
	wantKept(t, "twice", []api.Tx{y, y, y}, 3, 12)
	wantKept(t, "one without changes", []api.Tx{{}, y, begun(t, 3)}, 3, 4)
	wantKept(t, "no transactions", nil, 3, 0)
	wantKept(t, "no transactions", []api.Tx{}, 3, 0)
}

// P14.3: the space of a deleted record of 32 bytes is reserved while its transaction is there, whatever its state.
func TestKeptByStates(t *testing.T) {
	for _, state := range []int{api.TxActive, api.TxCommitted, api.TxAborting} {
		x := changed(2, filled(32), api.Val{})
		x.State = state
		wantKept(t, "deleted", []api.Tx{begun(t, 2), x}, 2, 36)
		wantKept(t, "gone", []api.Tx{begun(t, 2)}, 2, 0)
	}
}

// R1 and P14.3: Kept is not asked for valid transactions; any pages, values and numbers of changes count as they are.
func TestKeptOfAny(t *testing.T) {
	for _, page := range append([]int{0, 255, 256, 65535}, far...) {
		l := []api.Tx{changed(page, filled(100), filled(1)), changed(page/2+1, filled(7), api.Val{})}
		l[0].ID, l[0].State = 0, 99
		wantKept(t, "any page", l, page, 99)
		wantKept(t, "any page", l, page/2+1, 11)
		wantKept(t, "any page", l, 12345, 0)
	}
	wantKept(t, "bytes without a value", []api.Tx{changed(1, api.Val{B: make([]byte, 9)}, api.Val{})}, 1, 0)
	wantKept(t, "bytes without a value", []api.Tx{changed(1, filled(2), api.Val{B: make([]byte, 9)})}, 1, 6)
	many := api.Tx{}
	for range 1000 {
		many.L = append(many.L, api.Change{LSN: math.MinInt, Page: -7, Old: filled(3)}, api.Change{Page: 7, Old: filled(3)})
	}
	wantKept(t, "many", []api.Tx{many, many, {}, many}, -7, 21000)
}

// space is a page of a simulated store: the values of its records.
type space map[int]api.Val

// used returns how many bytes the records take.
func (s space) used() int {
	n := 0
	for _, v := range s {
		n += meantSize(v)
	}
	return n
}

// undoAll undoes all transactions in every order, one change of one of them at a time, and checks that the space that is used and reserved never grows.
func undoAll(t *testing.T, s space, l []api.Tx) {
	t.Helper()
	most := s.used() + Kept(l, 0)
	for i := range l {
		y, c, e := Undo(l[i])
		if e == api.ErrNone {
			continue
		}
		if e != api.OK || !sameVal(s[c.Key], c.New) {
			t.Fatalf("Undo(%v) returned %v and %d, where the value is %v", l[i], c, e, s[c.Key])
		}
		next := space{}
		for k, v := range s {
			next[k] = v
		}
		next[c.Key] = c.Old
		left := append([]api.Tx(nil), l...)
		left[i] = y
		if n := next.used() + Kept(left, 0); n > most {
			t.Fatalf("%d bytes are used and reserved, and %d after Undo(%v)", most, n, l[i])
		}
		undoAll(t, next, left)
	}
}

// P14.4: undoing never needs more space than is reserved: two transactions write two records each, two or three times, with all values of three sizes, and are undone in every order.
func TestSpaceForUndoing(t *testing.T) {
	sizes := []api.Val{{}, filled(0), filled(7)}
	eachList(4, 0, 2, func(first []int) {
		s := space{1: sizes[first[0]], 2: sizes[first[1]], 3: sizes[first[2]], 4: sizes[first[3]]}
		eachList(5, 0, 2, func(values []int) {
			now, l := space{}, []api.Tx{begun(t, 1), begun(t, 2)}
			for k, v := range s {
				now[k] = v
			}
			for i, n := range values {
				k, by := []int{1, 3, 2, 4, 1}[i], i%2
				if k == 1 {
					by = 0
				}
				x, e := Note(l[by], api.Change{LSN: i + 1, Key: k, Old: now[k], New: sizes[n]})
				if e != api.OK {
					t.Fatalf("Note(%v, ..) returned %d", l[by], e)
				}
				now[k], l[by] = sizes[n], x
			}
			undoAll(t, now, l)
		})
	})
}
