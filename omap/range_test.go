package omap

import (
	"iter"
	"math"
	"slices"
	"testing"
)

// P4.2: All yields everything in increasing order of the keys, as often as it is ranged over.
func TestAll(t *testing.T) {
	m := texts(t, text{5, "c"}, text{-2, "a"}, text{9, "d"}, text{0, "b"})
	all := m.All()
	for range 2 {
		wantSeq(t, "All", all, text{-2, "a"}, text{0, "b"}, text{5, "c"}, text{9, "d"})
	}
}

// P4.2: From yields the keys that are not less than its own, whether that is in the map or not.
func TestFrom(t *testing.T) {
	m := texts(t, text{5, "c"}, text{-2, "a"}, text{9, "d"}, text{0, "b"})
	all := []text{{-2, "a"}, {0, "b"}, {5, "c"}, {9, "d"}}
	cases := []struct {
		what string
		k    int
		want []text
	}{
		{"the first key", -2, all},
		{"a key in the middle", 0, all[1:]},
		{"a key in the middle", 5, all[2:]},
		{"the last key", 9, all[3:]},
		{"between two keys", -1, all[1:]},
		{"between two keys", 1, all[2:]},
		{"between two keys", 4, all[2:]},
		{"between two keys", 8, all[3:]},
		{"below the first key", -3, all},
		{"the least number", math.MinInt, all},
		{"above the last key", 10, nil},
		{"the greatest number", math.MaxInt, nil},
	}
	for _, c := range cases {
		from := m.From(c.k)
		for range 2 {
			wantSeq(t, c.what, from, c.want...)
		}
	}
}

// P4.2: From of a text goes by the order of texts.
func TestFromText(t *testing.T) {
	m := &Map[string, int]{}
	for i, k := range []string{"b", "a", "ab"} {
		wantSet(t, "a text", m, k, i, true)
	}
	wantSeq(t, "below the first one", m.From(""), pair[string, int]{"a", 1}, pair[string, int]{"ab", 2}, pair[string, int]{"b", 0})
	wantSeq(t, "between two", m.From("aa"), pair[string, int]{"ab", 2}, pair[string, int]{"b", 0})
	wantSeq(t, "in the map", m.From("b"), pair[string, int]{"b", 0})
	wantSeq(t, "above the last one", m.From("ba"))
}

// P4.2: an iteration stops where the loop body ends it, and the next one begins at the first key again.
func TestLoopBodyEndsTheIteration(t *testing.T) {
	all := []text{{1, "a"}, {2, "b"}, {3, "c"}}
	m := texts(t, all...)
	for n := 1; n <= 3; n++ {
		wantTaken(t, "All", m.All(), n, all[:n])
		wantTaken(t, "From below the first key", m.From(0), n, all[:n])
	}
	wantTaken(t, "From the second key", m.From(2), 1, all[1:2])
	wantMap(t, "after the iterations", m, all...)
}

// wantTaken checks an iteration that ends after n pairs, twice, and that nothing is yielded to a body that has ended it.
func wantTaken(t *testing.T, what string, s iter.Seq2[int, string], n int, want []text) {
	t.Helper()
	for range 2 {
		i := 0
		s(func(k int, v string) bool {
			if i >= n {
				t.Errorf("%s: %d was yielded after the end", what, k)
				return false
			}
			if want[i] != (text{k, v}) {
				t.Errorf("%s: got %d with %s, want %v", what, k, v, want[i])
			}
			i++
			return i < n
		})
		if i != n {
			t.Errorf("%s: %d were yielded, want %d", what, i, n)
		}
	}
}

// P4.2: a return from within a loop ends the iteration, too.
func TestReturnEndsTheIteration(t *testing.T) {
	m := texts(t, text{1, "a"}, text{2, "b"}, text{3, "c"})
	first := func(k int) string {
		for _, v := range m.From(k) {
			return v
		}
		return "none"
	}
	for k, want := range []string{"a", "a", "b", "c", "none"} {
		if got := first(k); got != want {
			t.Errorf("the first from %d on is %s, want %s", k, got, want)
		}
	}
}

// changes are what may happen to the map with the keys 2, 4 and 6 during an iteration.
var changes = []struct {
	what string
	do   func(*Map[int, string])
	left []text
}{
	{"nothing", func(m *Map[int, string]) {}, []text{{2, "a"}, {4, "b"}, {6, "c"}}},
	{"the first key is removed", func(m *Map[int, string]) { m.Del(2) }, []text{{4, "b"}, {6, "c"}}},
	{"a key in the middle is removed", func(m *Map[int, string]) { m.Del(4) }, []text{{2, "a"}, {6, "c"}}},
	{"the last key is removed", func(m *Map[int, string]) { m.Del(6) }, []text{{2, "a"}, {4, "b"}}},
	{"every key is removed", func(m *Map[int, string]) { m.Del(6); m.Del(2); m.Del(4) }, nil},
	{"a value is set", func(m *Map[int, string]) { m.Set(4, "x") }, []text{{2, "a"}, {4, "x"}, {6, "c"}}},
	{"the last value is set", func(m *Map[int, string]) { m.Set(6, "x") }, []text{{2, "a"}, {4, "b"}, {6, "x"}}},
	{"a first key is new", func(m *Map[int, string]) { m.Set(1, "x") }, []text{{1, "x"}, {2, "a"}, {4, "b"}, {6, "c"}}},
	{"a key between two is new", func(m *Map[int, string]) { m.Set(5, "x") }, []text{{2, "a"}, {4, "b"}, {5, "x"}, {6, "c"}}},
	{"a last key is new", func(m *Map[int, string]) { m.Set(7, "x") }, []text{{2, "a"}, {4, "b"}, {6, "c"}, {7, "x"}}},
	{"a key is replaced", func(m *Map[int, string]) { m.Del(4); m.Set(3, "x") }, []text{{2, "a"}, {3, "x"}, {6, "c"}}},
	{"a key is removed and set again", func(m *Map[int, string]) { m.Del(6); m.Set(6, "x") }, []text{{2, "a"}, {4, "b"}, {6, "x"}}},
	{"all is another map", func(m *Map[int, string]) { *m = Map[int, string]{} }, nil},
}

// P4.2: an iteration yields what the map contained when it began, whatever happens to the map at any point of it; the map itself has changed.
func TestChangesDuringAnIteration(t *testing.T) {
	began := []text{{2, "a"}, {4, "b"}, {6, "c"}}
	for _, c := range changes {
		for at := range began {
			for k := 1; k <= 6; k++ {
				m := texts(t, began...)
				want := began[(k-1)/2:]
				wantDuring(t, c.what+": From", m, m.From(k), at, c.do, want)
			}
			m := texts(t, began...)
			wantDuring(t, c.what+": All", m, m.All(), at, c.do, began)
			wantMap(t, c.what, m, c.left...)
		}
	}
}

// wantDuring checks what is yielded while the map is changed after the pair with the number at.
func wantDuring(t *testing.T, what string, m *Map[int, string], s iter.Seq2[int, string], at int, do func(*Map[int, string]), want []text) {
	t.Helper()
	i := 0
	changed := func(yield func(int, string) bool) {
		for k, v := range s {
			if i == at {
				do(m)
			}
			i++
			if !yield(k, v) {
				return
			}
		}
	}
	wantSeq(t, what, changed, want...)
}

// P4.2: a map that grows with every step of an iteration does not keep it going.
func TestIterationOverAGrowingMapEnds(t *testing.T) {
	m := texts(t, text{1, "a"}, text{2, "b"})
	n := 0
	for k := range m.All() {
		n++
		m.Set(k+10, "new")
		m.Set(k+20, "new")
	}
	for range m.From(11) {
		n++
		m.Set(100+n, "new")
	}
	if n != 2+4 || m.Len() != 10 {
		t.Errorf("%d were yielded and %d are there, want 6 and 10", n, m.Len())
	}
}

// P4.2: an iterator that is kept yields what the map contains when an iteration begins, not what it contained when the iterator was made.
func TestKeptIterators(t *testing.T) {
	m := &Map[int, string]{}
	all, from := m.All(), m.From(2)
	wantSeq(t, "All of an empty map", all)
	wantSeq(t, "From of an empty map", from)
	for i, k := range []int{3, 1, 2} {
		wantSet(t, "kept", m, k, string(rune('a'+i)), true)
	}
	for range 2 {
		wantSeq(t, "All after Set", all, text{1, "b"}, text{2, "c"}, text{3, "a"})
		wantSeq(t, "From after Set", from, text{2, "c"}, text{3, "a"})
	}
	wantSet(t, "kept", m, 3, "d", false)
	wantDel(t, "kept", m, 2, true)
	wantDel(t, "kept", m, 1, true)
	wantSeq(t, "All after Del", all, text{3, "d"})
	wantSeq(t, "From after Del", from, text{3, "d"})
	wantDel(t, "kept", m, 3, true)
	wantSeq(t, "All after the last Del", all)
	wantSeq(t, "From after the last Del", from)
}

// P4.2: of two iterations with one iterator, the inner one begins when the outer one has changed the map already.
func TestIterationWithinAnIteration(t *testing.T) {
	m := texts(t, text{1, "a"}, text{2, "b"}, text{3, "c"})
	all := m.All()
	var outer, inner []int
	for k := range all {
		outer = append(outer, k)
		m.Del(k)
		m.Set(k+10, "new")
		for k := range all {
			inner = append(inner, k)
		}
	}
	wantKeys(t, "outer", outer, 1, 2, 3)
	wantKeys(t, "inner", inner, 2, 3, 11, 3, 11, 12, 11, 12, 13)
}

func wantKeys(t *testing.T, what string, got []int, want ...int) {
	t.Helper()
	if !slices.Equal(got, want) {
		t.Errorf("%s: got %v, want %v", what, got, want)
	}
}

// P4.2 and R5: ranging over a map does not change it, whatever the loop body does with what it gets.
func TestIterationChangesNothing(t *testing.T) {
	m := texts(t, text{1, "a"}, text{2, "b"})
	for k, v := range m.All() {
		k, v = k+1, v+"x"
		_, _ = k, v
	}
	for range m.From(2) {
	}
	wantMap(t, "after iterations", m, text{1, "a"}, text{2, "b"})
}

// P4.2: iterators of a nil *Map yield nothing, also after its Set.
func TestNilMapYieldsNothing(t *testing.T) {
	var m *Map[string, int]
	all, from := m.All(), m.From("")
	if all == nil || from == nil {
		t.Fatalf("a nil *Map has no iterator")
	}
	m.Set("a", 1)
	wantSeq(t, "All", all)
	wantSeq(t, "From", from)
}
