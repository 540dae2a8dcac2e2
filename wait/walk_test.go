package wait

import (
	"slices"
	"testing"

	"bobbin/api"
)

// drawn returns the graph of n transactions, from 1 on, whose waits the bits of the number say.
func drawn(n, bits int) []api.Wait {
	var l []api.Wait
	for i := range n * n {
		if bits>>i&1 != 0 {
			l = append(l, waits(1+i/n, 1+i%n)...)
		}
	}
	return l
}

// P13.1 and P13.2: all graphs of at most three transactions, in several orders.
func TestAllOfThree(t *testing.T) {
	for n := range 4 {
		for bits := range 1 << (n * n) {
			l := drawn(n, bits)
			wantMeant(t, "a graph", l)
			wantMeant(t, "backward", backward(l))
			wantMeant(t, "joined", joined(l))
			wantMeant(t, "joined and backward", backward(joined(l)))
			wantMeant(t, "twice", append(l, backward(l)...))
		}
	}
}

// P13.1 and P13.2: all graphs of four transactions that do not wait for themselves in one step. Some of them are still: as many as there are graphs of four without circles.
func TestAllOfFour(t *testing.T) {
	still := 0
	for bits := range 1 << 16 {
		if bits&0b1000_0100_0010_0001 != 0 {
			continue
		}
		l := joined(drawn(4, bits))
		wantMeant(t, "a graph", l)
		if Still(l) {
			still++
		}
	}
	if still != 543 {
		t.Errorf("%d graphs of four transactions have no circle, want 543", still)
	}
}

// P13.1: a long run in which some of ten transactions begin to wait, and others end, so that nobody waits for them any more.
func TestRun(t *testing.T) {
	var l []api.Wait
	n, still, not := 1, 0, 0
	next := func(below int) int {
		n = n * 75 % 65537 // numbers that recur late
		return n * n % 65537 % below
	}
	for range 1500 {
		l = append(l, api.Wait{Tx: next(10), For: []int{next(10), next(10)}[:next(3)]})
		if next(2) == 0 {
			l = without(l, next(10))
		}
		wantMeant(t, "a run", l)
		if Still(l) {
			still++
		} else {
			not++
		}
		if t.Failed() {
			return
		}
	}
	if still < 100 || not < 100 {
		t.Errorf("%d lists were still, %d were not", still, not)
	}
}

// without returns the list after a transaction has ended.
func without(l []api.Wait, tx int) []api.Wait {
	is := func(b int) bool { return b == tx }
	m := slices.DeleteFunc(copied(l), func(w api.Wait) bool { return w.Tx == tx })
	for i := range m {
		m[i].For = slices.DeleteFunc(m[i].For, is)
	}
	return m
}

// P13.2: in a list that is still, those that wait only for transactions that wait for nobody can be taken away again and again, until nobody waits; in one that is not still, some are left.
func TestTakenAway(t *testing.T) {
	for bits := range 1 << 16 {
		l := drawn(4, bits)
		if bits%7 != 0 || len(l) == 0 {
			continue
		}
		still := Still(l)
		for range 4 {
			l = slices.DeleteFunc(l, func(w api.Wait) bool {
				return !slices.ContainsFunc(l, func(v api.Wait) bool { return v.Tx == w.For[0] })
			})
		}
		if still != (len(l) == 0) {
			t.Errorf("the graph %d: Still returned %t, but %v are left", bits, still, l)
		}
	}
}

// R1: every call returns, also with long lists: a long chain, the same with a circle at an end, many elements of one transaction, one long element, and so many ways that they cannot be followed one by one.
func TestLongLists(t *testing.T) {
	const n = 60000
	var chain, one, ways []api.Wait
	long := api.Wait{Tx: n}
	for i := range n {
		chain = append(chain, waits(i, i+1)...)
		one = append(one, waits(n, i)...)
		ways = append(ways, api.Wait{Tx: i, For: []int{i + 1, i + 1, i + 2}})
		long.For = append(long.For, i, n/2)
	}
	for _, l := range [][]api.Wait{chain, backward(chain), one, {long}, ways, backward(ways)} {
		wantLong(t, l, min(l[0].Tx, l[len(l)-1].Tx), n)
	}
}

// wantLong checks a long list without circles, in which the greatest number is reached from the least one if this one waits, or else waits for all others.
func wantLong(t *testing.T, l []api.Wait, least, greatest int) {
	t.Helper()
	from, to := least, greatest
	if least == greatest {
		from, to = greatest, 0
	}
	for _, c := range []struct {
		name string
		is   bool
		want bool
	}{
		{"there", Reach(l, from, to), true},
		{"back", Reach(l, to, from), false},
		{"a circle at the start", Circle(l, from), false},
		{"a circle at the end", Circle(l, to), false},
		{"still", Still(l), true},
	} {
		if c.is != c.want {
			t.Errorf("%d elements: %s: %t", len(l), c.name, c.is)
		}
	}
	for _, w := range [][2]int{{to, from}, {to, to}, {from, from}} {
		if m := append(copied(l), waits(w[0], w[1])...); Still(m) || !Circle(m, w[0]) {
			t.Errorf("%d elements: there is no circle, though %d also waits for %d", len(l), w[0], w[1])
		}
	}
}
