package wait

import (
	"slices"
	"testing"

	"bobbin/api"
)

// P13.1: the chapter's examples.
func TestChapter(t *testing.T) {
	l := waits(1, 2, 2, 3)
	wantReach(t, "1 reaches 3", l, 1, 3, true)
	wantStill(t, "no transaction reaches itself", l, true)
	for tx := 1; tx <= 3; tx++ {
		wantCircle(t, "no transaction reaches itself", l, tx, false)
	}
	l = append(l, waits(3, 1)...)
	wantStill(t, "3 also waits for 1", l, false)
	for tx := 1; tx <= 3; tx++ {
		wantCircle(t, "3 also waits for 1", l, tx, true)
	}
}

// P13.1: a transaction reaches those that it waits for, and those that these reach, in this direction only.
func TestReach(t *testing.T) {
	l := []api.Wait{{Tx: 1, For: []int{2, 3}}, {Tx: 3, For: []int{4}}, {Tx: 4, For: []int{5, 6}}, {Tx: 7, For: []int{3}}, {Tx: 8, For: []int{9}}}
	wantReached(t, "two ways", l, 1, 2, 3, 4, 5, 6)
	wantReached(t, "nobody", l, 2)
	wantReached(t, "from the middle", l, 3, 4, 5, 6)
	wantReached(t, "the last waits", l, 4, 5, 6)
	wantReached(t, "nobody", l, 5)
	wantReached(t, "nobody", l, 6)
	wantReached(t, "in the middle", l, 7, 3, 4, 5, 6)
	wantReached(t, "elsewhere", l, 8, 9)
	wantReached(t, "nobody", l, 9)
	wantReached(t, "not in the list", l, 10)
	wantStill(t, "these", l, true)
	wantMeant(t, "these", l)
}

// P13.1: a transaction does not reach itself unless it waits for itself in the end, in one step or in many.
func TestReachItself(t *testing.T) {
	wantReached(t, "nobody waits", nil, 1)
	wantReached(t, "a wait for another one", waits(1, 2), 1, 2)
	wantReached(t, "a wait for itself", waits(1, 1), 1, 1)
	wantReached(t, "among others", waits(1, 2, 1, 1, 1, 3), 1, 1, 2, 3)
	wantReached(t, "another one for itself", waits(1, 2, 2, 2), 1, 2)
	wantReached(t, "another one for itself", waits(1, 2, 2, 2), 2, 2)
	wantReached(t, "two for each other", waits(1, 2, 2, 1), 1, 1, 2)
	wantReached(t, "two for each other", waits(1, 2, 2, 1), 2, 1, 2)
	wantReached(t, "before the circle", waits(1, 2, 2, 3, 3, 2, 3, 4), 1, 2, 3, 4)
	wantReached(t, "in the circle", waits(1, 2, 2, 3, 3, 2, 3, 4), 2, 2, 3, 4)
	wantReached(t, "behind the circle", waits(1, 2, 2, 3, 3, 2, 3, 4), 4)
}

// P13.1: all elements of a transaction count, wherever they are in the list.
func TestSeveralElements(t *testing.T) {
	l := []api.Wait{{Tx: 1, For: []int{2}}, {Tx: 2, For: []int{3}}, {Tx: 1, For: []int{4, 5}}, {Tx: 2}, {Tx: 5, For: []int{6}}, {Tx: 1, For: []int{7}}, {Tx: 2, For: []int{8}}}
	for range l {
		l = append(slices.Clone(l[1:]), l[0])
		wantReached(t, "all elements", l, 1, 2, 3, 4, 5, 6, 7, 8)
		wantReached(t, "two elements", l, 2, 3, 8)
		wantReached(t, "one element", l, 5, 6)
		wantStill(t, "several elements", l, true)
		wantMeant(t, "several elements", joined(l))
		wantStill(t, "and a circle", append(slices.Clone(l), waits(8, 1)...), false)
	}
}

// P13.1: elements without transactions to wait for, and duplicates in lists and of elements, change nothing.
func TestEmptyAndDouble(t *testing.T) {
	l := []api.Wait{{Tx: 4}, {Tx: 1, For: []int{2, 2, 3, 2}}, {Tx: 2, For: []int{}}, {Tx: 1, For: []int{2}}, {Tx: 3, For: []int{2, 2}}, {Tx: 4}, {}}
	wantReached(t, "doubles", l, 1, 2, 3)
	wantReached(t, "doubles", l, 3, 2)
	wantReached(t, "empty", l, 2)
	wantReached(t, "nil", l, 4)
	wantReached(t, "zero", l, 0)
	wantStill(t, "these", l, true)
	wantMeant(t, "these", l)
	wantStill(t, "nobody waits", nil, true)
	wantStill(t, "nobody waits", []api.Wait{}, true)
	wantStill(t, "a zero element", []api.Wait{{}}, true)
	wantStill(t, "elements without waits", []api.Wait{{Tx: 1}, {Tx: 2, For: []int{}}, {Tx: 1}}, true)
	wantStill(t, "a double circle", waits(1, 2, 1, 2, 2, 1, 2, 1), false)
	wantStill(t, "a double wait for itself", waits(1, 1, 1, 1), false)
}

// P13.1 and R1: the numbers of transactions may be any, and are told apart.
func TestAnyNumbers(t *testing.T) {
	for i, a := range far {
		for j, b := range far {
			wantReach(t, "another start", waits(a, 7), b, 7, i == j)
			wantReach(t, "another end", waits(7, a), 7, b, i == j)
			wantReach(t, "two steps", waits(7, a, b, 8), 7, 8, i == j)
			wantCircle(t, "a circle", waits(7, a, b, 7), 7, i == j)
			wantCircle(t, "a wait for itself", waits(a, b), a, i == j)
			wantStill(t, "a wait for itself", waits(a, b), i != j)
			wantStill(t, "a circle", waits(7, a, b, 7), i != j)
		}
	}
	var ring []int
	for i, a := range far {
		ring = append(ring, a, far[(i+1)%len(far)])
	}
	wantMeant(t, "a ring of all", waits(ring...))
	wantMeant(t, "a chain of all", waits(ring[2:]...))
}

// P13.1: a way to each transaction of a graph in which some are reached by several ways, among them circles.
func TestSeveralWays(t *testing.T) {
	l := []api.Wait{{Tx: 1, For: []int{2, 3}}, {Tx: 2, For: []int{4}}, {Tx: 3, For: []int{4, 2}}, {Tx: 4, For: []int{5, 6}}, {Tx: 5, For: []int{7}}, {Tx: 6, For: []int{7, 5}}}
	wantReached(t, "diamonds", l, 1, 2, 3, 4, 5, 6, 7)
	wantStill(t, "diamonds", l, true)
	for a := 1; a <= 7; a++ {
		for b := 1; b <= 7; b++ {
			m := append(copied(l), waits(a, b)...)
			wantStill(t, "and another wait", m, a != b && !Reach(l, b, a))
			wantMeant(t, "and another wait", m)
			wantMeant(t, "and another wait", backward(joined(m)))
		}
	}
}
