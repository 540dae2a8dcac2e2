package lock

import (
	"math"
	"slices"
	"testing"

	"bobbin/api"
)

// far are numbers beyond the ranges of transactions, resources and modes.
var far = []int{math.MinInt, math.MinInt + 1, -1 << 32, -65536, -256, -17, -16, -2, 256, 257, 65536, 65537, 1 << 32, 1<<32 + 1, 1<<62 + 5, math.MaxInt - 1, math.MaxInt}

// held returns a list of locks, of which each three numbers are a transaction, a resource and a mode.
func held(n ...int) []api.Held {
	var l []api.Held
	for i := 0; i+2 < len(n); i += 3 {
		l = append(l, api.Held{Tx: n[i], Res: n[i+1], Mode: n[i+2]})
	}
	return l
}

// modesOf returns those of the four modes that the number n contains: its four low-order bits are its remainder.
func modesOf(n int) []int {
	left := (n%16 + 16) % 16
	var l []int
	for _, m := range []int{8, 4, 2, 1} {
		if left >= m {
			left -= m
			l = append(l, m)
		}
	}
	return l
}

// meantClash is what the document says of Clash: 1 reads a record, 2 writes it, 4 writes some record, 8 scans all.
func meantClash(a, b int) bool {
	pairs := [][2]int{{2, 2}, {2, 1}, {1, 2}, {4, 8}, {8, 4}}
	for _, m := range modesOf(a) {
		for _, n := range modesOf(b) {
			if slices.Contains(pairs, [2]int{m, n}) {
				return true
			}
		}
	}
	return false
}

// meantHolds is what the document says of Holds.
func meantHolds(l []api.Held, tx, res int) int {
	once := map[int]int{}
	for _, h := range l {
		for _, m := range modesOf(h.Mode) {
			if h.Tx == tx && h.Res == res {
				once[m] = m
			}
		}
	}
	return once[1] + once[2] + once[4] + once[8]
}

// meantBlockers is what the document says of Blockers: with what each transaction holds in all.
func meantBlockers(l []api.Held, tx, res, mode int) []int {
	least := math.MinInt
	var blockers []int
	for {
		next, is := 0, false
		for _, h := range l {
			if h.Tx >= least && h.Tx != tx && (!is || h.Tx < next) && meantClash(meantHolds(l, h.Tx, res), mode) {
				next, is = h.Tx, true
			}
		}
		if !is {
			return blockers
		}
		blockers = append(blockers, next)
		if next == math.MaxInt {
			return blockers
		}
		least = next + 1
	}
}

// meantGrant is what the document says of Grant.
func meantGrant(l []api.Held, tx, res, mode int) ([]api.Held, api.Errno) {
	if tx < 1 || tx > 255 || res < -1 || res > 65535 || mode < 1 || mode > 15 {
		return nil, api.ErrArg
	}
	if len(meantBlockers(l, tx, res, mode)) > 0 {
		return nil, api.ErrState
	}
	all := append(slices.Clone(l), api.Held{Tx: tx, Res: res, Mode: mode})
	granted := api.Held{Tx: tx, Res: res, Mode: meantHolds(all, tx, res)}
	var m []api.Held
	stands := false
	for _, h := range all {
		switch {
		case h.Tx != tx || h.Res != res:
			m = append(m, h)
		case !stands:
			stands = true
			m = append(m, granted)
		}
	}
	return m, api.OK
}

// meantDrop is what the document says of Drop.
func meantDrop(l []api.Held, tx int) []api.Held {
	return slices.DeleteFunc(slices.Clone(l), func(h api.Held) bool { return h.Tx == tx })
}

// meantSafe is what the document says of Safe.
func meantSafe(l []api.Held) bool {
	for _, a := range l {
		for _, b := range l {
			if a.Tx != b.Tx && a.Res == b.Res && meantClash(a.Mode, b.Mode) {
				return false
			}
		}
	}
	return true
}

func wantClash(t *testing.T, what string, a, b int, want bool) {
	t.Helper()
	if got := Clash(a, b); got != want {
		t.Errorf("%s: Clash(%d, %d) returned %t", what, a, b, got)
	}
}

func wantBlockers(t *testing.T, what string, l []api.Held, tx, res, mode int, want ...int) {
	t.Helper()
	if got := Blockers(l, tx, res, mode); !slices.Equal(got, want) {
		t.Errorf("%s: Blockers(%v, %d, %d, %d) returned %v, want %v", what, l, tx, res, mode, got, want)
	}
}

func wantHolds(t *testing.T, what string, l []api.Held, tx, res, want int) {
	t.Helper()
	if got := Holds(l, tx, res); got != want {
		t.Errorf("%s: Holds(%v, %d, %d) returned %d, want %d", what, l, tx, res, got, want)
	}
}

func wantGranted(t *testing.T, what string, l []api.Held, tx, res, mode int, want []api.Held) {
	t.Helper()
	if got, e := Grant(l, tx, res, mode); e != api.OK || !slices.Equal(got, want) {
		t.Errorf("%s: Grant(%v, %d, %d, %d) returned %v and the error %d, want %v", what, l, tx, res, mode, got, e, want)
	}
}

func wantRefused(t *testing.T, what string, l []api.Held, tx, res, mode int, want api.Errno) {
	t.Helper()
	if got, e := Grant(l, tx, res, mode); e != want || len(got) != 0 {
		t.Errorf("%s: Grant(%v, %d, %d, %d) returned %v and the error %d, want the error %d", what, l, tx, res, mode, got, e, want)
	}
}

func wantDropped(t *testing.T, what string, l []api.Held, tx int, want []api.Held) {
	t.Helper()
	if got := Drop(l, tx); !slices.Equal(got, want) {
		t.Errorf("%s: Drop(%v, %d) returned %v, want %v", what, l, tx, got, want)
	}
}

func wantSafe(t *testing.T, what string, l []api.Held, want bool) {
	t.Helper()
	if got := Safe(l); got != want {
		t.Errorf("%s: Safe(%v) returned %t", what, l, got)
	}
}

// wantMeant checks all calls with these arguments against the model, and P12.4, and that the calls do not change the list.
func wantMeant(t *testing.T, what string, l []api.Held, tx, res, mode int) {
	t.Helper()
	before := slices.Clone(l)
	wantBlockers(t, what, l, tx, res, mode, meantBlockers(l, tx, res, mode)...)
	wantHolds(t, what, l, tx, res, meantHolds(l, tx, res))
	wantDropped(t, what, l, tx, meantDrop(l, tx))
	wantSafe(t, what, l, meantSafe(l))
	if m, e := meantGrant(l, tx, res, mode); e == api.OK {
		wantGranted(t, what, l, tx, res, mode, m)
	} else {
		wantRefused(t, what, l, tx, res, mode, e)
	}
	wantSafeStill(t, what, l, tx, res, mode)
	if !slices.Equal(l, before) {
		t.Errorf("%s: the list %v was changed to %v", what, before, l)
	}
}

// wantSafeStill checks P12.4: safe locks stay safe, a lock without blockers is granted, and one that is held is granted again.
func wantSafeStill(t *testing.T, what string, l []api.Held, tx, res, mode int) {
	t.Helper()
	if !Safe(l) {
		return
	}
	if m := Drop(l, tx); !Safe(m) {
		t.Errorf("%s: %v is safe, but %v without %d is not", what, l, m, tx)
	}
	m, e := Grant(l, tx, res, mode)
	if e == api.ErrArg {
		return
	}
	if free := len(Blockers(l, tx, res, mode)) == 0; free != (e == api.OK) {
		t.Errorf("%s: Grant(%v, %d, %d, %d) returned the error %d, but that there is no blocker is %t", what, l, tx, res, mode, e, free)
	}
	if !Safe(m) {
		t.Errorf("%s: %v is safe, but with (%d, %d, %d) %v is not", what, l, tx, res, mode, m)
	}
	if all := Holds(l, tx, res); all != 0 {
		if m, e := Grant(l, tx, res, all); e != api.OK || Holds(m, tx, res) != all {
			t.Errorf("%s: %d holds %d on %d in %v, but Grant returned the error %d for it", what, tx, all, res, l, e)
		}
	}
}
