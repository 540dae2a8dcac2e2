package omap

import (
	"cmp"
	"iter"
	"maps"
	"slices"
	"testing"
)

// pair is a key with the value that it should have.
type pair[K cmp.Ordered, V comparable] struct {
	k K
	v V
}

// text is a pair as most tests need it.
type text = pair[int, string]

// texts returns a map in which the pairs were set in order, each with a new key.
func texts(t *testing.T, pairs ...text) *Map[int, string] {
	t.Helper()
	m := &Map[int, string]{}
	for _, p := range pairs {
		wantSet(t, "a map is filled", m, p.k, p.v, true)
	}
	return m
}

// taken returns the first n pairs that a sequence yields, or all of them if n is negative.
func taken[K cmp.Ordered, V comparable](s iter.Seq2[K, V], n int) []pair[K, V] {
	var l []pair[K, V]
	if n == 0 {
		return l
	}
	for k, v := range s {
		l = append(l, pair[K, V]{k, v})
		if len(l) == n {
			break
		}
	}
	return l
}

func wantSet[K cmp.Ordered, V comparable](t *testing.T, what string, m *Map[K, V], k K, v V, want bool) {
	t.Helper()
	if got := m.Set(k, v); got != want {
		t.Errorf("%s: Set(%v, %v) returned %t, want %t", what, k, v, got, want)
	}
}

func wantDel[K cmp.Ordered, V comparable](t *testing.T, what string, m *Map[K, V], k K, want bool) {
	t.Helper()
	if got := m.Del(k); got != want {
		t.Errorf("%s: Del(%v) returned %t, want %t", what, k, got, want)
	}
}

func wantGet[K cmp.Ordered, V comparable](t *testing.T, what string, m *Map[K, V], k K, want V) {
	t.Helper()
	if v, is := m.Get(k); !is || v != want {
		t.Errorf("%s: Get(%v) returned %v and %t, want %v and true", what, k, v, is, want)
	}
}

func wantNone[K cmp.Ordered, V comparable](t *testing.T, what string, m *Map[K, V], k K) {
	t.Helper()
	var zero V
	if v, is := m.Get(k); is || v != zero {
		t.Errorf("%s: Get(%v) returned %v and %t, want %v and false", what, k, v, is, zero)
	}
}

func wantSeq[K cmp.Ordered, V comparable](t *testing.T, what string, s iter.Seq2[K, V], want ...pair[K, V]) {
	t.Helper()
	if got := taken(s, -1); !slices.Equal(got, want) {
		t.Errorf("%s: got %v, want %v", what, got, want)
	}
}

// wantMap checks all that can be seen of a map that has exactly these pairs, which are in increasing order.
func wantMap[K cmp.Ordered, V comparable](t *testing.T, what string, m *Map[K, V], want ...pair[K, V]) {
	t.Helper()
	if m.Len() != len(want) {
		t.Errorf("%s: Len returned %d, want %d", what, m.Len(), len(want))
	}
	wantSeq(t, what+": All", m.All(), want...)
	for i, p := range want {
		wantGet(t, what, m, p.k, p.v)
		wantSeq(t, what+": From", m.From(p.k), want[i:]...)
	}
}

// model is a map in its plainest form: one of Go's, which it sorts for each iteration.
type model map[byte]int

func (m model) all() []pair[byte, int] {
	var l []pair[byte, int]
	for _, k := range slices.Sorted(maps.Keys(m)) {
		l = append(l, pair[byte, int]{k, m[k]})
	}
	return l
}

func (m model) from(k byte) []pair[byte, int] {
	return slices.DeleteFunc(m.all(), func(p pair[byte, int]) bool { return p.k < k })
}

// program is what a fuzz test does: numbers, of which there are zeros after its end.
type program []byte

func (p *program) next() byte {
	if len(*p) == 0 {
		return 0
	}
	b := (*p)[0]
	*p = (*p)[1:]
	return b
}

// running is a map with its model and an iterator that is kept, and what is still to be done to them.
type running struct {
	t    *testing.T
	m    *Map[byte, int]
	is   model
	left program
	n    int // the value that is set next: no two are the same
	kept iter.Seq2[byte, int]
	want func() []pair[byte, int]
}

// change sets or deletes a key, in the map and in its model.
func (r *running) change() {
	k := r.left.next()
	_, there := r.is[k]
	if r.left.next()%3 == 0 {
		wantDel(r.t, "a step", r.m, k, there)
		delete(r.is, k)
		return
	}
	r.n++
	wantSet(r.t, "a step", r.m, k, r.n, !there)
	r.is[k] = r.n
}

// ask checks the answers about a key.
func (r *running) ask() {
	k := r.left.next()
	if v, there := r.is[k]; there {
		wantGet(r.t, "a step", r.m, k, v)
	} else {
		wantNone(r.t, "a step", r.m, k)
	}
	wantSeq(r.t, "a step: From", r.m.From(k), r.is.from(k)...)
}

// keep takes an iterator that later steps range over.
func (r *running) keep() {
	k := r.left.next()
	r.kept, r.want = r.m.From(k), func() []pair[byte, int] { return r.is.from(k) }
	if k%2 == 0 {
		r.kept, r.want = r.m.All(), func() []pair[byte, int] { return r.is.all() }
	}
}

// iterate ranges over the kept iterator, changes the map in the meantime, and may end before it has yielded everything.
func (r *running) iterate() {
	want := r.want()
	n := min(int(r.left.next()), len(want))
	var got []pair[byte, int]
	for k, v := range r.kept {
		got = append(got, pair[byte, int]{k, v})
		r.change()
		if len(got) == n {
			break
		}
	}
	if n > 0 {
		want = want[:n]
	}
	if !slices.Equal(got, want) {
		r.t.Errorf("a map that is changed in the meantime: got %v, want %v", got, want)
	}
}

// P4.1, P4.2, P4.3: whatever is done to a map, also while it is iterated over, each answer is that of the model.
func FuzzMap(f *testing.F) {
	f.Add([]byte{0, 5, 1, 0, 3, 1, 1, 4, 2, 2, 3, 0, 9, 1, 9, 0, 3, 1, 7, 2})
	f.Add([]byte{0, 9, 1, 0, 8, 1, 0, 7, 1, 0, 7, 0, 0, 8, 0, 1, 7, 1, 8, 1, 9})
	f.Add([]byte{2, 1, 0, 1, 1, 0, 2, 1, 0, 3, 1, 3, 2, 1, 0, 2, 0, 3, 0, 255, 1, 0, 1})
	f.Add(slices.Repeat([]byte{0, 200, 1, 0, 17, 2, 3, 0, 99, 0, 17, 3, 1, 50, 2, 31}, 8))
	f.Fuzz(func(t *testing.T, left []byte) {
		r := &running{t: t, m: &Map[byte, int]{}, is: model{}, left: left}
		r.kept, r.want = r.m.All(), func() []pair[byte, int] { return r.is.all() }
		for len(r.left) > 0 && !t.Failed() {
			switch r.left.next() % 4 {
			case 0:
				r.change()
			case 1:
				r.ask()
			case 2:
				r.keep()
			case 3:
				r.iterate()
			}
		}
		wantMap(t, "at the end", r.m, r.is.all()...)
	})
}
