package omap

import (
	"cmp"
	"math"
	"slices"
	"testing"
)

// P4.1 and P4.2: the chapter's example.
func TestExample(t *testing.T) {
	m := texts(t, text{3, "a"}, text{1, "b"})
	wantSet(t, "3 again", m, 3, "c", false)
	wantSeq(t, "All", m.All(), text{1, "b"}, text{3, "c"})
	wantSeq(t, "From(2)", m.From(2), text{3, "c"})
}

// P4.1: the zero value is empty in every call, and can be used at once.
func TestZeroMapIsEmpty(t *testing.T) {
	var m Map[int, string]
	wantMap(t, "a zero Map", &m)
	wantNone(t, "a zero Map", &m, 0)
	wantSeq(t, "From of a zero Map", m.From(0))
	wantSeq(t, "From of a zero Map", m.From(math.MinInt))
	wantDel(t, "a zero Map", &m, 0, false)
	wantSet(t, "a zero Map", &m, 0, "", true)
	wantMap(t, "a zero Map that was set", &m, text{0, ""})
}

// P4.1, P1 and R1: a nil *Map is empty in every call, also after a Set, which reports nothing new.
func TestNilMapIsEmpty(t *testing.T) {
	var m *Map[int, string]
	for range 2 {
		wantSet(t, "a nil *Map", m, 1, "a", false)
		wantNone(t, "a nil *Map", m, 1)
		wantDel(t, "a nil *Map", m, 1, false)
		wantMap(t, "a nil *Map", m)
		wantSeq(t, "From of a nil *Map", m.From(1))
		wantSeq(t, "From of a nil *Map", m.From(math.MinInt))
	}
}

// P4.1: Set reports whether the key was new, and sets the value in both cases.
func TestSetReportsNewKeys(t *testing.T) {
	m := texts(t, text{5, "a"})
	wantMap(t, "one key", m, text{5, "a"})
	wantSet(t, "the key is there", m, 5, "b", false)
	wantMap(t, "set twice", m, text{5, "b"})
	wantSet(t, "the same value again", m, 5, "b", false)
	wantSet(t, "the zero value", m, 5, "", false)
	wantMap(t, "set to the zero value", m, text{5, ""})
	wantSet(t, "another key", m, 6, "c", true)
	wantMap(t, "two keys", m, text{5, ""}, text{6, "c"})
}

// P4.1: a key that was removed is new again, and does not have its old value.
func TestSetAfterDel(t *testing.T) {
	m := texts(t, text{1, "a"}, text{2, "b"})
	wantDel(t, "the key is there", m, 1, true)
	wantNone(t, "removed", m, 1)
	wantSet(t, "removed", m, 1, "c", true)
	wantMap(t, "set again", m, text{1, "c"}, text{2, "b"})
}

// P4.1: Get changes nothing, and tells a key that is not there from one with the zero value.
func TestGet(t *testing.T) {
	m := texts(t, text{2, ""}, text{4, "d"})
	for range 2 {
		wantGet(t, "the zero value", m, 2, "")
		wantGet(t, "a value", m, 4, "d")
		for _, k := range []int{math.MinInt, -4, 0, 1, 3, 5, math.MaxInt} {
			wantNone(t, "not in the map", m, k)
		}
		wantMap(t, "after Get", m, text{2, ""}, text{4, "d"})
	}
}

// P4.1: Del removes exactly the key, whichever of them it is, and has no effect on a map without it.
func TestDel(t *testing.T) {
	all := []text{{1, "a"}, {3, "b"}, {5, "c"}, {7, "d"}}
	for i, p := range all {
		m := texts(t, all...)
		for _, k := range []int{0, 2, 4, 6, 8} {
			wantDel(t, "not in the map", m, k, false)
		}
		wantMap(t, "nothing removed", m, all...)
		wantDel(t, "in the map", m, p.k, true)
		rest := slices.Delete(slices.Clone(all), i, i+1)
		wantMap(t, "one removed", m, rest...)
		wantDel(t, "removed already", m, p.k, false)
		wantMap(t, "one removed twice", m, rest...)
	}
}

// P4.1: a map from which everything was removed is empty, and can be used again.
func TestDelEverything(t *testing.T) {
	m := texts(t, text{1, "a"}, text{2, "b"})
	wantDel(t, "the last key", m, 2, true)
	wantDel(t, "the only key", m, 1, true)
	wantMap(t, "nothing left", m)
	wantNone(t, "nothing left", m, 1)
	wantSet(t, "nothing left", m, 3, "c", true)
	wantMap(t, "used again", m, text{3, "c"})
}

// P4.3: in whichever order the keys are set, they are strictly increasing, and each has the value that was set last.
func TestEveryOrderOfSets(t *testing.T) {
	keys := []int{10, 20, 30, 40, 50}
	orders(keys, func(order []int) {
		m := &Map[int, string]{}
		for _, k := range order {
			wantSet(t, "first", m, k, "old", true)
		}
		var want []text
		for i, k := range keys {
			want = append(want, text{k, string(rune('a' + i))})
		}
		for _, k := range order {
			wantSet(t, "second", m, k, string(rune('a'+k/10-1)), false)
		}
		wantMap(t, "set in some order", m, want...)
	})
}

// orders calls visit with every order of the list.
func orders(l []int, visit func([]int)) {
	if len(l) == 0 {
		visit(nil)
		return
	}
	for i, first := range l {
		rest := slices.Delete(slices.Clone(l), i, i+1)
		orders(rest, func(order []int) { visit(append([]int{first}, order...)) })
	}
}

// P4.3: the same holds for many keys, of which half are removed again.
func TestManyKeys(t *testing.T) {
	const n = 5003 // a prime: the multiples of another number reach every key
	m := &Map[int, int]{}
	for i := range n {
		wantSet(t, "many", m, i*1999%n, i, true)
	}
	for i := range n {
		if k := i * 733 % n; k%2 == 0 {
			wantDel(t, "many", m, k, true)
		} else {
			wantSet(t, "many", m, k, 10*k, false)
		}
	}
	if m.Len() != n/2 {
		t.Errorf("Len returned %d, want %d", m.Len(), n/2)
	}
	k := 1
	for got, v := range m.All() {
		if got != k || v != 10*k {
			t.Fatalf("got %d with %d, want %d with %d", got, v, k, 10*k)
		}
		k += 2
	}
	wantSeq(t, "the last keys", m.From(n-5), pair[int, int]{n - 4, 10 * (n - 4)}, pair[int, int]{n - 2, 10 * (n - 2)})
}

// R5: one map knows nothing of another.
func TestMapsAreSeparate(t *testing.T) {
	a, b := texts(t, text{1, "a"}), texts(t, text{1, "b"}, text{2, "c"})
	wantDel(t, "the second map", b, 1, true)
	wantSet(t, "the first map", a, 2, "d", true)
	wantMap(t, "the first map", a, text{1, "a"}, text{2, "d"})
	wantMap(t, "the second map", b, text{2, "c"})
}

// number and name are ordered types that are not the language's own.
type (
	number int16
	name   string
)

// point is a value of several fields.
type point struct{ x, y int }

// P4.1, P4.2 and P4.3: keys of every ordered type, with values of several types.
func TestTypes(t *testing.T) {
	one, two := 1, 1
	eachWith(t, []int{math.MinInt, -1, 0, 1, math.MaxInt}, true)
	eachWith(t, []int8{math.MinInt8, -1, 0, 1, math.MaxInt8}, "text")
	eachWith(t, []int16{math.MinInt16, -1, 0, math.MaxInt16}, 2.5)
	eachWith(t, []int32{math.MinInt32, -1, 0, math.MaxInt32}, 'x')
	eachWith(t, []int64{math.MinInt64, -1, 0, math.MaxInt64}, [2]int{1, 2})
	eachWith(t, []uint{0, 1, math.MaxInt, math.MaxInt + 1, math.MaxUint}, point{1, 2})
	eachWith(t, []uint8{0, 127, 128, 255}, &one)
	eachWith(t, []uint16{0, 1, math.MaxUint16}, &two)
	eachWith(t, []uint32{0, 1, math.MaxUint32}, any(7))
	eachWith(t, []uint64{0, 1, math.MaxInt64 + 1, math.MaxUint64}, error(nil))
	eachWith(t, []uintptr{0, 1, 1 << 40}, struct{}{})
	eachWith(t, []float32{-math.MaxFloat32, -0.5, 0, math.SmallestNonzeroFloat32, 3}, byte(1))
	eachWith(t, []float64{math.Inf(-1), -0.5, 0, math.SmallestNonzeroFloat64, 3, math.Inf(1)}, "")
	eachWith(t, []string{"", "\x00", "B", "a", "aa", "ab", "b", "ä", "\xff"}, 1)
	eachWith(t, []number{-300, 0, 300}, name("v"))
	eachWith(t, []name{"", "a", "b"}, number(3))
}

// eachWith checks maps with these keys, which are in increasing order: they are set in either direction, and removed one after the other.
func eachWith[K cmp.Ordered, V comparable](t *testing.T, keys []K, v V) {
	t.Helper()
	back := slices.Clone(keys)
	slices.Reverse(back)
	for _, order := range [][]K{keys, back} {
		m := &Map[K, V]{}
		for _, k := range order {
			wantNone(t, "before Set", m, k)
			wantSet(t, "the zero value", m, k, *new(V), true)
			wantGet(t, "the zero value", m, k, *new(V))
			wantSet(t, "a value", m, k, v, false)
		}
		for i, k := range keys {
			var want []pair[K, V]
			for _, k := range keys[i:] {
				want = append(want, pair[K, V]{k, v})
			}
			wantMap(t, "keys of another type", m, want...)
			wantDel(t, "keys of another type", m, k, true)
			wantNone(t, "after Del", m, k)
		}
		wantMap(t, "all keys removed", m)
	}
}

// P4.1: a value may be of a type that cannot be compared; without a key it is nil.
func TestValuesThatCannotBeCompared(t *testing.T) {
	m := &Map[string, []byte]{}
	m.Set("b", []byte{1, 2})
	m.Set("a", nil)
	if v, is := m.Get("b"); !is || !slices.Equal(v, []byte{1, 2}) {
		t.Errorf("Get returned %v and %t", v, is)
	}
	if v, is := m.Get("c"); is || v != nil {
		t.Errorf("Get returned %v and %t, want nothing", v, is)
	}
	f := &Map[int, func() int]{}
	f.Set(1, func() int { return 8 })
	if v, is := f.Get(1); !is || v() != 8 {
		t.Errorf("Get did not return the function that was set")
	}
	if v, is := f.Get(2); is || v != nil {
		t.Errorf("Get returned a function for a key that is not there")
	}
}

// P1 and R1: keys are never NaN, yet the calls return with it, and the other keys are not lost.
func TestNaNDoesNotHarm(t *testing.T) {
	m := &Map[float64, string]{}
	nan := math.NaN()
	wantSet(t, "a number", m, 2, "two", true)
	wantSet(t, "a number", m, 1, "one", true)
	m.Get(nan)
	m.Del(nan)
	taken(m.From(nan), -1)
	wantMap(t, "asked for NaN", m, pair[float64, string]{1, "one"}, pair[float64, string]{2, "two"})
	m.Set(nan, "none")
	wantGet(t, "with NaN", m, 1, "one")
	wantGet(t, "with NaN", m, 2, "two")
	wantSeq(t, "with NaN", m.From(1), pair[float64, string]{1, "one"}, pair[float64, string]{2, "two"})
	taken(m.All(), -1)
}
