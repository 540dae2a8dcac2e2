package wait

import (
	"math"
	"slices"
	"testing"

	"bobbin/api"
)

// far are numbers of transactions that no store gives, but any list may contain.
var far = []int{math.MinInt, math.MinInt + 1, -1 << 32, -256, -2, -1, 0, 255, 256, 65536, 1 << 32, 1<<32 + 1, 1<<62 + 5, math.MaxInt - 1, math.MaxInt}

// pair is two transactions, of which the first one waits for the second one, or reaches it.
type pair struct{ a, b int }

// waits returns a list with an element for each two numbers, of which the first one waits for the second one.
func waits(n ...int) []api.Wait {
	var l []api.Wait
	for i := 0; i+1 < len(n); i += 2 {
		l = append(l, api.Wait{Tx: n[i], For: []int{n[i+1]}})
	}
	return l
}

// joined returns the same waits in one element for each transaction.
func joined(l []api.Wait) []api.Wait {
	var m []api.Wait
	for _, w := range l {
		i := slices.IndexFunc(m, func(v api.Wait) bool { return v.Tx == w.Tx })
		if i < 0 {
			i = len(m)
			m = append(m, api.Wait{Tx: w.Tx})
		}
		m[i].For = append(m[i].For, w.For...)
	}
	return m
}

// backward returns the same waits in the opposite order.
func backward(l []api.Wait) []api.Wait {
	m := copied(l)
	slices.Reverse(m)
	for _, w := range m {
		slices.Reverse(w.For)
	}
	return m
}

// copied returns a copy of the list that shares no memory with it.
func copied(l []api.Wait) []api.Wait {
	m := slices.Clone(l)
	for i := range m {
		m[i].For = slices.Clone(m[i].For)
	}
	return m
}

// same reports whether two lists have the same elements.
func same(l, m []api.Wait) bool {
	return slices.EqualFunc(l, m, func(v, w api.Wait) bool { return v.Tx == w.Tx && slices.Equal(v.For, w.For) })
}

// named returns the numbers of all transactions of the list, each once.
func named(l []api.Wait) []int {
	var n []int
	for _, w := range l {
		n = append(append(n, w.Tx), w.For...)
	}
	slices.Sort(n)
	return slices.Compact(n)
}

// meantWaits is what the document says of waiting: the pairs of which the first one waits for the second one.
func meantWaits(l []api.Wait) map[pair]bool {
	m := map[pair]bool{}
	for _, w := range l {
		for _, b := range w.For {
			m[pair{w.Tx, b}] = true
		}
	}
	return m
}

// meantReach is what the document says of reaching: a reaches b if it waits for b, or for one that reaches b.
func meantReach(l []api.Wait) map[pair]bool {
	direct, all := meantWaits(l), meantWaits(l)
	n := named(l)
	for more := true; more; {
		more = false
		for w := range direct {
			for _, b := range n {
				if all[pair{w.b, b}] && !all[pair{w.a, b}] {
					all[pair{w.a, b}] = true
					more = true
				}
			}
		}
	}
	return all
}

// meantStill is what the document says of Still.
func meantStill(l []api.Wait) bool {
	for p, is := range meantReach(l) {
		if is && p.a == p.b {
			return false
		}
	}
	return true
}

func wantReach(t *testing.T, what string, l []api.Wait, from, to int, want bool) {
	t.Helper()
	if got := Reach(l, from, to); got != want {
		t.Errorf("%s: Reach(%v, %d, %d) returned %t", what, l, from, to, got)
	}
}

func wantCircle(t *testing.T, what string, l []api.Wait, tx int, want bool) {
	t.Helper()
	if got := Circle(l, tx); got != want {
		t.Errorf("%s: Circle(%v, %d) returned %t", what, l, tx, got)
	}
}

func wantStill(t *testing.T, what string, l []api.Wait, want bool) {
	t.Helper()
	if got := Still(l); got != want {
		t.Errorf("%s: Still(%v) returned %t", what, l, got)
	}
}

// wantReached checks that, of the transactions of the list and others, tx reaches just these.
func wantReached(t *testing.T, what string, l []api.Wait, tx int, these ...int) {
	t.Helper()
	for _, to := range append(append(named(l), 1000, tx), these...) {
		wantReach(t, what, l, tx, to, slices.Contains(these, to))
	}
	wantCircle(t, what, l, tx, slices.Contains(these, tx))
}

// wantMeant checks all calls with all transactions of the list, and with one that it does not have, against the model, and P13.2, and that the calls do not change the list.
func wantMeant(t *testing.T, what string, l []api.Wait) {
	t.Helper()
	before := copied(l)
	all := meantReach(l)
	n := append(named(l), 1000)
	for _, a := range n {
		for _, b := range n {
			wantReach(t, what, l, a, b, all[pair{a, b}])
		}
		wantCircle(t, what, l, a, all[pair{a, a}])
	}
	wantStill(t, what, l, meantStill(l))
	wantFollows(t, what, l)
	if !same(l, before) {
		t.Errorf("%s: the list %v was changed to %v", what, before, l)
	}
}

// wantFollows checks P13.2.
func wantFollows(t *testing.T, what string, l []api.Wait) {
	t.Helper()
	direct, n := meantWaits(l), named(l)
	waiting := func(a int) bool {
		return slices.ContainsFunc(n, func(b int) bool { return direct[pair{a, b}] })
	}
	for _, a := range n {
		for _, b := range n {
			if !Reach(l, a, b) {
				continue
			}
			if !waiting(a) {
				t.Errorf("%s: %d waits for nobody in %v, but reaches %d", what, a, l, b)
			}
			for _, c := range n {
				if Reach(l, b, c) && !Reach(l, a, c) {
					t.Errorf("%s: in %v %d reaches %d, which reaches %d, but %d does not", what, l, a, b, c, a)
				}
			}
		}
	}
	next := func(a int) bool {
		return waiting(a) && !slices.ContainsFunc(n, func(b int) bool { return direct[pair{a, b}] && waiting(b) })
	}
	if Still(l) && slices.ContainsFunc(n, waiting) && !slices.ContainsFunc(n, next) {
		t.Errorf("%s: Still(%v) returned true, but each one that waits waits for one that waits", what, l)
	}
}
