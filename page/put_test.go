package page

import (
	"bytes"
	"math"
	"slices"
	"testing"

	"bobbin/api"
)

// P5.2: Get tells a record with an empty value from none, and finds nothing for a key that no record can have.
func TestGet(t *testing.T) {
	p := with(t, fresh(t, 7), text{0, ""}, text{5, "ab"}, text{65535, "c"})
	for range 2 {
		wantVal(t, "an empty value", p, 0, "")
		wantVal(t, "a value", p, 5, "ab")
		wantVal(t, "the greatest key", p, 65535, "c")
		for _, k := range []int{1, 4, 6, 255, 256, 261, 65534} {
			wantNone(t, "no such record", p, k)
		}
		for _, k := range []int{math.MinInt, -65536, -65531, -1, 65536, 65541, 131071, 1 << 32, 1<<32 + 5, math.MaxInt} {
			wantNone(t, "no such key", p, k)
		}
	}
}

// P5.2: Put adds a record, replaces one, and removes one, and leaves the ID, the LSN and the other records as they are.
func TestPut(t *testing.T) {
	p := stamped(t, with(t, fresh(t, 300), text{2, "b"}, text{4, "dd"}, text{6, ""}), 77)
	for _, c := range []struct {
		what string
		k    int
		v    api.Val
		want []text
	}{
		{"a first record", 1, value("a"), []text{{1, "a"}, {2, "b"}, {4, "dd"}, {6, ""}}},
		{"a record between two", 3, value(""), []text{{2, "b"}, {3, ""}, {4, "dd"}, {6, ""}}},
		{"a last record", 65535, value("z"), []text{{2, "b"}, {4, "dd"}, {6, ""}, {65535, "z"}}},
		{"a longer value", 2, value("bcd"), []text{{2, "bcd"}, {4, "dd"}, {6, ""}}},
		{"a shorter value", 4, value("d"), []text{{2, "b"}, {4, "d"}, {6, ""}}},
		{"an empty value", 4, value(""), []text{{2, "b"}, {4, ""}, {6, ""}}},
		{"an empty value that is nil", 4, api.Val{Is: true}, []text{{2, "b"}, {4, ""}, {6, ""}}},
		{"a value in place of an empty one", 6, value("f"), []text{{2, "b"}, {4, "dd"}, {6, "f"}}},
		{"the same value", 4, value("dd"), []text{{2, "b"}, {4, "dd"}, {6, ""}}},
		{"zeros", 4, value("\x00\x00\x00"), []text{{2, "b"}, {4, "\x00\x00\x00"}, {6, ""}}},
		{"the first record removed", 2, api.Val{}, []text{{4, "dd"}, {6, ""}}},
		{"a record between two removed", 4, api.Val{}, []text{{2, "b"}, {6, ""}}},
		{"the last record removed", 6, api.Val{}, []text{{2, "b"}, {4, "dd"}}},
		{"no record removed", 5, api.Val{}, []text{{2, "b"}, {4, "dd"}, {6, ""}}},
	} {
		q, e := Put(p, c.k, c.v)
		if e != api.OK {
			t.Errorf("%s: got the error %d", c.what, e)
		}
		wantPage(t, c.what, q, 300, 77, c.want...)
	}
	wantPage(t, "the page before", p, 300, 77, text{2, "b"}, text{4, "dd"}, text{6, ""})
}

// P5.2: values of every length up to 32 are put and returned, with every byte.
func TestEveryLength(t *testing.T) {
	for n := range 33 {
		for b := range 256 {
			v := string(bytes.Repeat([]byte{byte(b)}, n))
			p := with(t, fresh(t, 1), text{5, v}, text{6, "x"})
			wantPage(t, "a value", p, 1, 0, text{5, v}, text{6, "x"})
		}
	}
}

// P5.2: Put returns ErrLong for a value of more than 32 bytes, whether there is room for it or not.
func TestPutRefusesLongValues(t *testing.T) {
	most, _ := full(t, 240)
	for _, p := range [][]byte{fresh(t, 1), with(t, fresh(t, 1), text{5, "ab"}), most} {
		for _, n := range []int{33, 34, 255, 256, 257, 289, 512, 70000} {
			for _, k := range []int{0, 5, 65535} {
				q, e := Put(p, k, value(long(n)))
				wantRefused(t, "a long value", q, e, api.ErrLong)
			}
		}
	}
}

// P5.2: Put returns ErrArg for a key that no record can have, also if the value is too long, if there is no room, and if nothing is put.
func TestPutRefusesOtherKeys(t *testing.T) {
	most, _ := full(t, 240)
	for _, p := range [][]byte{fresh(t, 1), with(t, fresh(t, 1), text{0, "a"}, text{65535, "b"}), most} {
		for _, k := range []int{math.MinInt, -65536, -2, -1, 65536, 65537, 131071, 1 << 32, 1<<32 + 5, math.MaxInt} {
			for _, v := range []api.Val{{}, {B: []byte("a")}, value(""), value("ab"), value(long(32)), value(long(33))} {
				q, e := Put(p, k, v)
				wantRefused(t, "such a key", q, e, api.ErrArg)
			}
		}
	}
}

// P5.2: without a value the bytes of v do not matter, however many they are.
func TestPutOfNoValueIgnoresBytes(t *testing.T) {
	most, l := full(t, 240)
	for _, n := range []int{1, 32, 33, 300} {
		q, e := Put(most, 2, api.Val{B: []byte(long(n))})
		if e != api.OK {
			t.Errorf("%d bytes: got the error %d", n, e)
		}
		wantPage(t, "a record removed", q, 1, 0, slices.Delete(slices.Clone(l), 2, 3)...)
		q, e = Put(most, 99, api.Val{B: []byte(long(n))})
		if e != api.OK {
			t.Errorf("%d bytes: got the error %d", n, e)
		}
		wantPage(t, "no record removed", q, 1, 0, l...)
	}
}

// P5.2: a new record is put as long as the sizes add up to at most 240, and otherwise the error is ErrFull, for every size of both.
func TestPutOfANewRecordUntilThePageIsFull(t *testing.T) {
	for used := 4; used <= 240; used++ {
		p, l := full(t, used)
		for n := range 33 {
			for _, k := range []int{len(l), 65535} {
				q, e := Put(p, k, value(long(n)))
				if used+4+n > 240 {
					wantRefused(t, "too little room", q, e, api.ErrFull)
				} else if e != api.OK || Used(q) != used+4+n {
					t.Errorf("%d used, %d bytes more: got the error %d", used, n, e)
				}
			}
		}
	}
}

// P5.2: a value that replaces another one needs only what it is longer.
func TestPutInPlaceOfAValue(t *testing.T) {
	for used := 200; used <= 240; used++ {
		p, l := full(t, used)
		for i, r := range l {
			for n := range 33 {
				q, e := Put(p, r.k, value(long(n)))
				if used-len(r.v)+n > 240 {
					wantRefused(t, "too little room", q, e, api.ErrFull)
					continue
				}
				want := slices.Clone(l)
				want[i].v = long(n)
				if e != api.OK {
					t.Errorf("%d used, %d bytes for %d: got the error %d", used, n, len(r.v), e)
				}
				wantPage(t, "replaced", q, 1, 0, want...)
			}
		}
	}
}

// P5.2: 60 records with empty values fill a page; the next one is refused until one is removed.
func TestSixtyRecords(t *testing.T) {
	p := fresh(t, 65535)
	var l []text
	for i := range 60 {
		l = append(l, text{1000*i + 7, ""})
		p = with(t, p, l[i])
	}
	wantPage(t, "60 records", p, 65535, 0, l...)
	q, e := Put(p, 8, value(""))
	wantRefused(t, "one more", q, e, api.ErrFull)
	q, e = Put(p, 7, value("a"))
	wantRefused(t, "one more byte", q, e, api.ErrFull)
	p = with(t, without(t, p, 7), text{65535, ""})
	wantPage(t, "60 other records", p, 65535, 0, append(l[1:], text{65535, ""})...)
}

// P5.4: the room of records that were removed or shortened can be used again, as often as one wants.
func TestRoomIsUsedAgain(t *testing.T) {
	p, l := full(t, 240)
	for round := range 300 {
		k := round % len(l)
		p = without(t, p, k)
		q, e := Put(p, 100, value(l[k].v+"x"))
		if len(l[k].v) < 32 {
			wantRefused(t, "a byte too many", q, e, api.ErrFull)
		} else {
			wantRefused(t, "a byte too many", q, e, api.ErrLong)
		}
		p = with(t, p, text{100, l[k].v})
		if Used(p) != 240 {
			t.Fatalf("%d used, want 240", Used(p))
		}
		p = with(t, without(t, p, 100), l[k], text{k, ""}, l[k])
	}
	wantPage(t, "after many changes", p, 1, 0, l...)
}

// P5.4: pages with the same content are the same bytes, whatever was put and removed before.
func TestTheWayDoesNotMatter(t *testing.T) {
	want := stamped(t, with(t, fresh(t, 9), text{1, "a"}, text{2, ""}, text{700, long(32)}), 5)
	ways := map[string][]byte{
		"another order":      stamped(t, with(t, fresh(t, 9), text{700, long(32)}, text{2, ""}, text{1, "a"}), 5),
		"stamped first":      with(t, stamped(t, fresh(t, 9), 5), text{2, ""}, text{1, "a"}, text{700, long(32)}),
		"stamped twice":      stamped(t, with(t, stamped(t, fresh(t, 9), 1<<32-1), text{1, "a"}, text{2, ""}, text{700, long(32)}), 5),
		"replaced values":    stamped(t, with(t, fresh(t, 9), text{1, long(32)}, text{2, long(31)}, text{700, ""}, text{700, long(32)}, text{2, ""}, text{1, "a"}), 5),
		"removed and put":    stamped(t, with(t, without(t, want, 700, 1, 2), text{1, "a"}, text{700, long(32)}, text{2, ""}), 5),
		"others in between":  without(t, with(t, want, text{0, long(32)}, text{3, long(32)}, text{65535, long(20)}), 65535, 0, 3),
		"removed for naught": without(t, want, 0, 3, 699, 65535),
	}
	for what, p := range ways {
		wantSame(t, what, p, want)
	}
}

// P5.4: a page from which every record was removed is as new.
func TestEverythingRemoved(t *testing.T) {
	p, l := full(t, 240)
	for i, r := range l {
		p = without(t, p, r.k)
		wantPage(t, "some removed", p, 1, 0, l[i+1:]...)
	}
	wantSame(t, "all removed", p, fresh(t, 1))
}

// R3: no call modifies the page or the value that it is given.
func TestArgumentsAreNotModified(t *testing.T) {
	p := stamped(t, with(t, fresh(t, 7), text{1, "a"}, text{5, long(32)}), 9)
	was := bytes.Clone(p)
	v := value("xyz")
	for _, k := range []int{0, 1, 5, 6} {
		for _, given := range []api.Val{v, {}, value(long(33))} {
			Put(p, k, given)
			Get(p, k)
		}
	}
	Stamped(p, 8)
	All(p)
	May(p)
	ID(p)
	LSN(p)
	Used(p)
	wantSame(t, "the page", p, was)
	wantSame(t, "the value", v.B, []byte("xyz"))
}

// R3: a page does not change with the value or the page that it was made from, also if it equals that page.
func TestResultsDoNotShareArguments(t *testing.T) {
	p, v := stamped(t, with(t, fresh(t, 7), text{1, "abc"}), 3), value("xyz")
	put, _ := Put(p, 5, v)
	same, _ := Put(p, 1, value("abc"))
	removed, _ := Put(p, 1, api.Val{})
	none, _ := Put(p, 6, api.Val{})
	later, again := stamped(t, p, 4), stamped(t, p, 3)
	clear(v.B)
	clear(p)
	wantPage(t, "Put", put, 7, 3, text{1, "abc"}, text{5, "xyz"})
	wantPage(t, "Put of the same value", same, 7, 3, text{1, "abc"})
	wantPage(t, "Put of no value", removed, 7, 3)
	wantPage(t, "Put of no value for no record", none, 7, 3, text{1, "abc"})
	wantPage(t, "Stamped", later, 7, 4, text{1, "abc"})
	wantPage(t, "Stamped with the same LSN", again, 7, 3, text{1, "abc"})
}

// R3: what Get and All return is the caller's: changes of it change neither the page nor other results.
func TestValuesAreOwnedByTheCaller(t *testing.T) {
	p := with(t, fresh(t, 7), text{1, "abc"}, text{2, "def"})
	v, w := Get(p, 1), Get(p, 1)
	clear(v.B)
	if string(w.B) != "abc" {
		t.Errorf("another value changed to %q", w.B)
	}
	l := All(p)
	_ = append(l[0].V, 'x', 'x', 'x', 'x')
	if string(l[1].V) != "def" {
		t.Errorf("the value behind it changed to %q", l[1].V)
	}
	clear(l[0].V)
	l[1] = api.KV{}
	wantPage(t, "the page", p, 7, 0, text{1, "abc"}, text{2, "def"})
	one, other := fresh(t, 7), fresh(t, 7)
	clear(one)
	wantPage(t, "another new page", other, 7, 0)
}

// R5: the same call returns the same, whatever was called before.
func TestCallsKeepNothing(t *testing.T) {
	p := with(t, fresh(t, 7), text{1, "abc"})
	first, _ := Put(p, 2, value("def"))
	with(t, fresh(t, 8), text{2, "other"})
	Put(p, 2, value(long(32)))
	Put(p, 1, api.Val{})
	again, _ := Put(p, 2, value("def"))
	wantSame(t, "the same call", again, first)
}
