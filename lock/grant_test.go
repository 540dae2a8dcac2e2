package lock

import (
	"slices"
	"testing"

	"bobbin/api"
)

// granted returns l with locks that must be granted.
func granted(t *testing.T, l []api.Held, tx, res, mode int) []api.Held {
	t.Helper()
	m, e := Grant(l, tx, res, mode)
	if e != api.OK {
		t.Fatalf("Grant(%v, %d, %d, %d) returned the error %d", l, tx, res, mode, e)
	}
	return m
}

// P12.2: the chapter's first example: readers share a record, and block a writer.
func TestExampleReaders(t *testing.T) {
	l := granted(t, nil, 1, 7, api.LockS)
	wantGranted(t, "2 reads", l, 2, 7, api.LockS, held(1, 7, 1, 2, 7, 1))
	wantRefused(t, "2 writes", l, 2, 7, api.LockX, api.ErrState)
	wantBlockers(t, "2 writes", l, 2, 7, api.LockX, 1)
}

// P12.2: the chapter's second example: of two readers none can write, until the other one's locks are dropped.
func TestExampleUpgrade(t *testing.T) {
	l := granted(t, granted(t, nil, 1, 7, api.LockS), 2, 7, api.LockS)
	wantRefused(t, "1 writes", l, 1, 7, api.LockX, api.ErrState)
	wantBlockers(t, "1 writes", l, 1, 7, api.LockX, 2)
	wantRefused(t, "2 writes", l, 2, 7, api.LockX, api.ErrState)
	wantBlockers(t, "2 writes", l, 2, 7, api.LockX, 1)
	wantGranted(t, "1 writes after 2", Drop(l, 2), 1, 7, api.LockX, held(1, 7, 3))
}

// P12.2: writers of some record share Whole, and so do scans, but not these with those.
func TestGrantOnWhole(t *testing.T) {
	l := granted(t, granted(t, nil, 1, api.Whole, api.LockW), 2, api.Whole, api.LockW)
	wantRefused(t, "a scan", l, 3, api.Whole, api.LockT, api.ErrState)
	wantRefused(t, "a scan of one of them", l, 1, api.Whole, api.LockT, api.ErrState)
	l = Drop(l, 2)
	wantGranted(t, "a scan of the only writer", l, 1, api.Whole, api.LockT, held(1, -1, 12))
	l = granted(t, granted(t, nil, 1, api.Whole, api.LockT), 2, api.Whole, api.LockT)
	wantRefused(t, "a writer beside scans", l, 2, api.Whole, api.LockW, api.ErrState)
	wantGranted(t, "a scan of one record", l, 2, 5, api.LockW, held(1, -1, 8, 2, -1, 8, 2, 5, 4))
}

// P12.2: the lock that is granted stands where the first one of this transaction and resource stood, or at the end, and the others are removed.
func TestGrantPosition(t *testing.T) {
	l := held(2, 7, 1, 1, 8, 2, 1, 7, 1, 3, 7, 1, 1, 7, 4, 1, -1, 4, 1, 7, 1, 2, 9, 2)
	wantGranted(t, "in place of three", l, 1, 7, 8, held(2, 7, 1, 1, 8, 2, 1, 7, 13, 3, 7, 1, 1, -1, 4, 2, 9, 2))
	wantGranted(t, "in place of the first", l, 2, 7, 1, held(2, 7, 1, 1, 8, 2, 1, 7, 1, 3, 7, 1, 1, 7, 4, 1, -1, 4, 1, 7, 1, 2, 9, 2))
	wantGranted(t, "in place of the last", l, 2, 9, 4, append(slices.Clone(l[:7]), held(2, 9, 6)...))
	wantGranted(t, "at the end", l, 3, 8, 1<<3, append(slices.Clone(l), held(3, 8, 8)...))
	wantGranted(t, "at the end for another transaction", l, 4, 7, 1, append(slices.Clone(l), held(4, 7, 1)...))
	wantGranted(t, "in place of all", held(5, 0, 1, 5, 0, 2, 5, 0, 4), 5, 0, 8, held(5, 0, 15))
	wantGranted(t, "in an empty list", []api.Held{}, 5, 0, 8, held(5, 0, 8))
	wantGranted(t, "in no list", nil, 5, 0, 8, held(5, 0, 8))
}

// P12.2: the modes held before and the granted one are added up, each once, for all sums of modes; what is held with other bits has the four modes alone.
func TestGrantAddsModes(t *testing.T) {
	for a := range 16 {
		for b := 1; b < 16; b++ {
			sum := meantHolds(held(1, 7, a, 1, 7, b), 1, 7)
			wantGranted(t, "all modes", held(1, 7, a), 1, 7, b, held(1, 7, sum))
			wantGranted(t, "with higher bits", held(1, 7, a+48), 1, 7, b, held(1, 7, sum))
			wantGranted(t, "below zero", held(1, 7, a-16), 1, 7, b, held(1, 7, sum))
			wantGranted(t, "in two locks", held(1, 7, a, 1, 7, 1), 1, 7, b, held(1, 7, meantHolds(held(1, 7, sum, 1, 7, 1), 1, 7)))
		}
	}
	wantGranted(t, "the locks of others", held(2, 7, 0, 2, 8, 99, -1, -9, -7), 1, 7, 2, held(2, 7, 0, 2, 8, 99, -1, -9, -7, 1, 7, 2))
	wantGranted(t, "a lock without a mode", held(1, 7, 0, 2, 7, 1), 1, 7, 1, held(1, 7, 1, 2, 7, 1))
}

// P12.2: what is in its range at the least and at the most, and what is not.
func TestGrantRanges(t *testing.T) {
	for _, tx := range []int{1, 2, 254, 255} {
		wantGranted(t, "a transaction", nil, tx, 7, 1, held(tx, 7, 1))
	}
	for _, tx := range append([]int{0, -1, -255}, far...) {
		wantRefused(t, "no transaction", nil, tx, 7, 1, api.ErrArg)
		wantRefused(t, "no transaction, but it holds this", held(tx, 7, 1), tx, 7, 1, api.ErrArg)
	}
	for _, res := range []int{-1, 0, 1, 256, 65534, 65535} {
		wantGranted(t, "a resource", nil, 1, res, 1, held(1, res, 1))
	}
	for _, res := range far {
		if res < -1 || res > 65535 {
			wantRefused(t, "no resource", nil, 1, res, 1, api.ErrArg)
			wantRefused(t, "no resource, but it is held", held(1, res, 1), 1, res, 1, api.ErrArg)
		}
	}
	for mode := 1; mode <= 15; mode++ {
		wantGranted(t, "a mode", nil, 1, 7, mode, held(1, 7, mode))
	}
	for _, mode := range append([]int{0, -1, -15, 16, 17, 31, 32}, far...) {
		wantRefused(t, "no mode", nil, 1, 7, mode, api.ErrArg)
	}
}

// P12.2 and R2: an argument that is not in its range is reported before a blocker.
func TestGrantErrorsInOrder(t *testing.T) {
	l := held(2, 7, 15, 2, -2, 15, 2, 65536, 15)
	wantRefused(t, "blocked", l, 1, 7, 1, api.ErrState)
	for _, c := range [][3]int{{0, 7, 1}, {256, 7, 1}, {-1, 7, 1}, {1, -2, 1}, {1, 65536, 1}, {1, 7, 0}, {1, 7, 16}, {1, 7, 17}, {1, 7, -1}, {0, -2, 0}} {
		wantRefused(t, "blocked, and not in its range", l, c[0], c[1], c[2], api.ErrArg)
	}
}

// P12.2: only the granted mode is held against those of others: in a list that is not safe, what a transaction holds already does not block it.
func TestGrantInAnUnsafeList(t *testing.T) {
	l := held(1, 7, 2, 2, 7, 2)
	wantSafe(t, "two writers", l, false)
	wantRefused(t, "one more reader", l, 1, 7, 1, api.ErrState)
	wantGranted(t, "another mode", l, 1, 7, 8, held(1, 7, 10, 2, 7, 2))
	wantGranted(t, "another resource", l, 1, 8, 2, held(1, 7, 2, 2, 7, 2, 1, 8, 2))
}

// P12.2: all locks of a transaction are dropped, on any resources, and those of others stay in their order.
func TestDrop(t *testing.T) {
	l := held(1, 7, 1, 2, 7, 1, 1, -1, 4, 3, -1, 4, 1, 7, 8, 2, 7, 1, 1, 0, 0, 0, 5, 5, -7, 9, 99)
	wantDropped(t, "1", l, 1, held(2, 7, 1, 3, -1, 4, 2, 7, 1, 0, 5, 5, -7, 9, 99))
	wantDropped(t, "2", l, 2, held(1, 7, 1, 1, -1, 4, 3, -1, 4, 1, 7, 8, 1, 0, 0, 0, 5, 5, -7, 9, 99))
	wantDropped(t, "3", l, 3, append(slices.Clone(l[:3]), l[4:]...))
	wantDropped(t, "the number 0", l, 0, append(slices.Clone(l[:7]), l[8]))
	wantDropped(t, "a number below zero", l, -7, l[:8])
	for _, tx := range append([]int{4, 255}, far...) {
		wantDropped(t, "one without locks", l, tx, l)
	}
	wantDropped(t, "all", held(1, 7, 1, 1, 8, 1), 1, nil)
	wantDropped(t, "of nothing", nil, 1, nil)
	wantDropped(t, "of nothing", []api.Held{}, 1, nil)
}

// R3: no call changes the list or the memory behind it, and what is returned shares none with it.
func TestNoMemoryIsShared(t *testing.T) {
	whole := held(1, 7, 1, 2, 7, 1, 1, 7, 4, 3, -1, 8, 1, -1, 8, 9, 9, 9, 8, 8, 8, 7, 7, 7)
	before := slices.Clone(whole)
	l := whole[:5]
	for _, result := range []func() []api.Held{
		func() []api.Held { m, _ := Grant(l, 1, 7, api.LockW); return m },
		func() []api.Held { m, _ := Grant(l, 1, 7, api.LockS); return m },
		func() []api.Held { m, _ := Grant(l, 4, 4, api.LockX); return m },
		func() []api.Held { return Drop(l, 1) },
		func() []api.Held { return Drop(l, 4) },
		func() []api.Held { Safe(l); Holds(l, 1, 7); Blockers(l, 1, 7, 15); return nil },
	} {
		m, want := result(), result()
		if !slices.Equal(whole, before) {
			t.Fatalf("the list %v was changed to %v", before, whole)
		}
		m = append(m, api.Held{})
		for i := range m {
			m[i] = api.Held{Tx: -1, Res: -1, Mode: -1}
		}
		if !slices.Equal(whole, before) {
			t.Fatalf("a change of what was returned changed the list to %v", whole)
		}
		kept := result()
		for i := range whole {
			whole[i] = api.Held{Tx: -2, Res: -2, Mode: -2}
		}
		if !slices.Equal(kept, want) {
			t.Errorf("a change of the list changed what was returned to %v", kept)
		}
		copy(whole, before)
	}
	a, b := Blockers(l, 9, 7, api.LockX), Blockers(l, 9, 7, api.LockX)
	a[0] = 77
	if !slices.Equal(b, []int{1, 2}) {
		t.Errorf("two lists of blockers share memory: %v", b)
	}
}
