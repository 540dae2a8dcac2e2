package txn

import (
	"slices"
	"testing"

	"bobbin/api"
)

// P14.1: New returns an active transaction that has changed nothing, for the numbers 1 to 255.
func TestNew(t *testing.T) {
	for id := 1; id <= 255; id++ {
		want := api.Tx{ID: id, State: api.TxActive}
		wantNew(t, id, want, api.OK)
		wantMay(t, "new", want, true)
	}
	for _, id := range append([]int{0, -1, 256, 257, 511, 512, 65536, 65537}, far...) {
		wantNew(t, id, api.Tx{}, api.ErrArg)
	}
}

// full returns a valid transaction with the most changes and savepoints.
func full() api.Tx {
	x := api.Tx{ID: 7, State: api.TxActive, First: 10, Last: 60, Saves: []int{0, 2, 2, 6}}
	for lsn := 10; lsn <= 60; lsn += 10 {
		x.L = append(x.L, at(lsn))
	}
	return x
}

// P14.1: a zero transaction is not valid, one with the most of everything is.
func TestMay(t *testing.T) {
	wantMay(t, "zero", api.Tx{}, false)
	wantMay(t, "full", full(), true)
	wantMay(t, "empty lists", api.Tx{ID: 1, State: api.TxActive, L: []api.Change{}, Saves: []int{}}, true)
}

// ranged is a number of a transaction, and the range in which it must be.
type ranged struct {
	name        string
	of          func(x *api.Tx) *int
	least, most int
}

// ranges returns all numbers of the full transaction that do not depend on other ones.
func ranges() []ranged {
	l := []ranged{
		{"ID", func(x *api.Tx) *int { return &x.ID }, 1, 255},
		{"State", func(x *api.Tx) *int { return &x.State }, api.TxActive, api.TxAborting},
		{"First", func(x *api.Tx) *int { return &x.First }, 0, api.MaxLSN},
		{"Last", func(x *api.Tx) *int { return &x.Last }, 0, api.MaxLSN},
	}
	for i := range full().L {
		l = append(l, ranged{"Page", func(x *api.Tx) *int { return &x.L[i].Page }, 0, 255}, ranged{"Key", func(x *api.Tx) *int { return &x.L[i].Key }, 0, 65535})
	}
	return l
}

// P14.1: each number has its range, at each change; with others every call that asks for a valid transaction returns ErrArg.
func TestRanges(t *testing.T) {
	for _, r := range ranges() {
		for _, n := range append([]int{r.least - 1, r.least, r.least + 1, r.most - 1, r.most, r.most + 1}, far...) {
			x := full()
			*r.of(&x) = n
			wantMay(t, r.name, x, n >= r.least && n <= r.most)
			wantMeant(t, r.name, x, at(61), 0)
		}
	}
}

// P14.1: the States are just these three.
func TestStates(t *testing.T) {
	for state := -3; state <= 10; state++ {
		x := full()
		x.State = state
		wantMay(t, "state", x, slices.Contains([]int{api.TxActive, api.TxCommitted, api.TxAborting}, state))
	}
}

// P14.1: First and Last need not be LSNs of changes.
func TestFirstAndLast(t *testing.T) {
	for _, first := range []int{0, 1, 10, 61, api.MaxLSN} {
		for _, last := range []int{0, 1, 59, 60, api.MaxLSN} {
			x := full()
			x.First, x.Last = first, last
			wantMay(t, "first and last", x, true)
			wantMeant(t, "first and last", x, at(100), 1)
			x.L, x.Saves = nil, nil
			wantMay(t, "without changes", x, true)
			wantMeant(t, "without changes", x, at(1), 0)
		}
	}
}

// P14.1: a value has at most 32 bytes, and none if Is is false, in each change.
func TestValues(t *testing.T) {
	for i := range full().L {
		for n := 0; n <= 40; n++ {
			for _, is := range []bool{true, false} {
				v := filled(n)
				v.Is = is
				want := is && n <= 32 || n == 0
				x, y := full(), full()
				x.L[i].Old, y.L[i].New = v, v
				wantMay(t, "Old", x, want)
				wantMay(t, "New", y, want)
				wantMeant(t, "Old", x, at(61), 0)
				wantMeant(t, "New", y, at(61), 0)
			}
		}
	}
	x := full()
	x.L[0].Old = api.Val{B: []byte{}}
	wantMay(t, "no bytes", x, true)
}

// P14.1: LSNs are in their range and strictly increase: three changes with any of these.
func TestLSNs(t *testing.T) {
	lsns := append([]int{0, 1, 2, 3, 4, api.MaxLSN - 1, api.MaxLSN, api.MaxLSN + 1}, far...)
	for _, a := range lsns {
		for _, b := range lsns {
			for _, c := range lsns {
				x := api.Tx{ID: 1, State: api.TxActive, L: []api.Change{{LSN: a}, {LSN: b}, {LSN: c}}}
				wantMay(t, "three LSNs", x, a >= 1 && a < b && b < c && c <= api.MaxLSN)
			}
		}
	}
}

// P14.1: two equal or decreasing LSNs anywhere are not valid.
func TestLSNsIncrease(t *testing.T) {
	for i := 1; i < 6; i++ {
		x, y, z := full(), full(), full()
		x.L[i].LSN = x.L[i-1].LSN
		y.L[i].LSN = y.L[i-1].LSN - 1
		z.L[i].LSN = z.L[i-1].LSN + 1
		wantMay(t, "equal", x, false)
		wantMay(t, "less", y, false)
		wantMay(t, "greater", z, true)
	}
}

// P14.1: there are at most 6 changes and 4 savepoints.
func TestCounts(t *testing.T) {
	for n := range 12 {
		x, y := begun(t, 1), full()
		y.Saves = nil
		for i := range n {
			x.L = append(x.L, at(i+1))
			y.Saves = append(y.Saves, i/2)
		}
		wantMay(t, "changes", x, n <= 6)
		wantMay(t, "savepoints", y, n <= 4)
		wantMeant(t, "changes", x, at(100), 0)
		wantMeant(t, "savepoints", y, at(100), 4)
	}
}

// eachList calls do with each list of n numbers of the range least to most.
func eachList(n, least, most int, do func(l []int)) {
	l := slices.Repeat([]int{least}, n)
	for {
		do(slices.Clone(l))
		i := 0
		for i < n && l[i] == most {
			l[i] = least
			i++
		}
		if i == n {
			return
		}
		l[i]++
	}
}

// P14.1: savepoints are in the range 0 to the number of changes and do not decrease: all short lists.
func TestSavepoints(t *testing.T) {
	for changes := range 4 {
		for n := range 6 {
			eachList(n, -1, changes+1, func(l []int) {
				x := api.Tx{ID: 1, State: api.TxActive, L: full().L[:changes], Saves: l}
				wantMay(t, "savepoints", x, n <= 4 && slices.IsSorted(l) && !slices.Contains(l, -1) && !slices.Contains(l, changes+1))
			})
		}
	}
	for _, n := range far {
		for i := range 4 {
			x := full()
			x.Saves[i] = n
			wantMay(t, "far", x, false)
		}
	}
}
