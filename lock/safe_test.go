package lock

import (
	"slices"
	"testing"

	"bobbin/api"
)

// P12.3: two locks, with all sums of modes: they are not safe if they clash and are of different transactions on the same resource.
func TestSafeOfTwo(t *testing.T) {
	for a := range 16 {
		for b := range 16 {
			clash := meantClash(a, b)
			wantSafe(t, "two transactions", held(1, 7, a, 2, 7, b), !clash)
			wantSafe(t, "two transactions, the greater one first", held(2, 7, a, 1, 7, b), !clash)
			wantSafe(t, "on Whole", held(1, -1, a, 2, -1, b), !clash)
			wantSafe(t, "higher bits", held(1, 7, a+16, 2, 7, b-32), !clash)
			wantSafe(t, "the same transaction", held(1, 7, a, 1, 7, b), true)
			wantSafe(t, "another resource", held(1, 7, a, 2, 8, b), true)
			wantSafe(t, "Whole and a record", held(1, -1, a, 2, 7, b), true)
		}
	}
	wantSafe(t, "nothing", nil, true)
	wantSafe(t, "nothing", []api.Held{}, true)
	wantSafe(t, "one", held(1, 7, 15), true)
}

// P12.3: the two locks may be anywhere in the list, with locks that do not clash among them.
func TestSafeOfAnyTwo(t *testing.T) {
	l := held(1, 7, 1, 2, 7, 1, 3, 7, 1, 1, 8, 2, 2, -1, 4, 3, -1, 4, 1, 9, 8, 2, 9, 8, 1, -1, 4, 3, 6, 15, 1, 7, 1)
	wantSafe(t, "these", l, true)
	for i := range len(l) + 1 {
		for _, h := range held(4, 7, 2, 1, 7, 2, 4, 8, 1, 4, -1, 8, 3, 9, 4, 5, 6, 8) {
			wantSafe(t, "and one that clashes", slices.Insert(slices.Clone(l), i, h), false)
		}
		for _, h := range held(4, 7, 1, 1, 7, 12, 4, 8, 4, 4, -1, 7, 3, 9, 3, 5, 6, 0, 5, 5, 15, 3, 6, 15) {
			wantSafe(t, "and one that does not", slices.Insert(slices.Clone(l), i, h), true)
		}
	}
}

// P12.3: all orders of three transactions' locks, of which one clashes with only one of the others, or with none.
func TestSafeInEveryOrder(t *testing.T) {
	modes := []int{0, 1, 2, 4, 8, 5, 9}
	for i := range 7 * 7 * 7 {
		for _, p := range [][3]int{{1, 2, 3}, {1, 3, 2}, {2, 1, 3}, {2, 3, 1}, {3, 1, 2}, {3, 2, 1}} {
			l := held(p[0], 7, modes[i%7], p[1], 7, modes[i/7%7], p[2], 7, modes[i/49])
			wantSafe(t, "three transactions", l, meantSafe(l))
			l = held(p[0], 7, modes[i%7], p[1], 8, modes[i/7%7], p[2], 7, modes[i/49])
			wantSafe(t, "the second one elsewhere", l, meantSafe(l))
			l = held(p[0], 7, modes[i%7], p[1], 7, modes[i/7%7], p[0], 7, modes[i/49])
			wantSafe(t, "two of the same transaction", l, meantSafe(l))
		}
	}
}

// P12.3 and R1: transactions and resources with any numbers are told apart.
func TestSafeOfAnyNumbers(t *testing.T) {
	for i, a := range far {
		for j, b := range far {
			wantSafe(t, "transactions", held(a, 7, 2, b, 7, 1), i == j)
			wantSafe(t, "resources", held(1, a, 2, 2, b, 1), i != j)
			wantSafe(t, "both", held(a, b, 2, b, a, 1), true)
			wantSafe(t, "no modes", held(a, 7, 16, b, 7, 48), true)
		}
	}
}

// R1: every call returns, also with long lists: of many transactions on one resource, of one on many, and of many on many.
func TestLongLists(t *testing.T) {
	const n = 300000
	var one, many, each []api.Held
	for i := range n {
		one = append(one, api.Held{Tx: i * 7 % n, Res: 7, Mode: api.LockS})
		many = append(many, api.Held{Tx: 1, Res: i * 7 % n, Mode: api.LockX})
		each = append(each, api.Held{Tx: 1 + i%255, Res: i * 7 % n / 255, Mode: api.LockS + api.LockT})
	}
	for _, l := range [][]api.Held{one, many, each} {
		if !Safe(l) {
			t.Errorf("a long list of locks that do not clash is not safe")
		}
		if h := l[len(l)/2]; Safe(append(slices.Clone(l), api.Held{Tx: h.Tx + n, Res: h.Res, Mode: api.LockX})) {
			t.Errorf("a long list with one lock that clashes is safe")
		}
		if m, e := Grant(l, 255, 65535, api.LockT); e != api.OK || len(m) != len(l)+1 {
			t.Errorf("a lock in a long list: %d locks and the error %d", len(m), e)
		}
		if m := Drop(l, n); len(m) != n {
			t.Errorf("%d locks are left of a long list", len(m))
		}
	}
	b := Blockers(one, 5, 7, api.LockX)
	if len(b) != n-1 || !slices.IsSorted(b) || slices.Contains(b, 5) {
		t.Errorf("%d blockers in a long list", len(b))
	}
	if m := Holds(each, 1, 0); m != 9 {
		t.Errorf("the modes %d in a long list", m)
	}
}
