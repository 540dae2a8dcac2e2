package table

import (
	"testing"

	"bobbin/api"
)

// putted returns the table after Put, which must not return an error.
func putted(t *testing.T, x api.Table, page, at int) api.Table {
	t.Helper()
	y, e := Put(x, page, at)
	if e != api.OK {
		t.Fatalf("Put(%v, %d, %d) returned the error %d", x, page, at, e)
	}
	return y
}

// P10.2 and P10.4: the chapter's example.
func TestExample(t *testing.T) {
	x := fresh(t, 2, 2, 2)
	wantNext(t, "at first", x, 0, 0)
	x = putted(t, x, 0, 10)
	wantTable(t, "the page 0", x, api.OK, api.Table{Pages: []api.Place{place(0, 0, 10), none}, Segs: []api.Segment{open(1, 1), unused()}, Slots: 2, Now: 1})
	wantNext(t, "the page 0", x, 0, 1)
	x = putted(t, x, 1, 11)
	wantTable(t, "the page 1", x, api.OK, api.Table{Pages: []api.Place{place(0, 0, 10), place(0, 1, 11)}, Segs: []api.Segment{full(2, 2), unused()}, Slots: 2, Now: 2})
	wantNext(t, "the page 1", x, 1, 0)
	x = putted(t, x, 0, 12)
	wantTable(t, "the page 0 again", x, api.OK, api.Table{Pages: []api.Place{place(1, 0, 12), place(0, 1, 11)}, Segs: []api.Segment{full(2, 2), open(1, 3)}, Slots: 2, Now: 3})
	if n := Live(x, 0); n != 1 {
		t.Errorf("Live returned %d, want 1", n)
	}
	y, e := Free(x, 0)
	wantRefused(t, "with a live image", y, e, api.ErrState)
	x = putted(t, x, 1, 13)
	wantTable(t, "the page 1 again", x, api.OK, api.Table{Pages: []api.Place{place(1, 0, 12), place(1, 1, 13)}, Segs: []api.Segment{full(2, 2), full(2, 4)}, Slots: 2, Now: 4})
	if n := Live(x, 0); n != 0 {
		t.Errorf("Live returned %d, want 0", n)
	}
	wantNoNext(t, "two full segments", x, api.ErrFull)
	x, e = Free(x, 0)
	wantTable(t, "freed", x, e, api.Table{Pages: []api.Place{place(1, 0, 12), place(1, 1, 13)}, Segs: []api.Segment{unused(), full(2, 4)}, Slots: 2, Now: 4})
	wantNext(t, "freed", x, 0, 0)
}

// P10.2: Next returns the open segment and its Used, also if free ones are before it, or the first free segment and 0.
func TestNext(t *testing.T) {
	for _, c := range []struct {
		what      string
		segs      []api.Segment
		seg, slot int
	}{
		{"all free", []api.Segment{unused(), unused(), unused()}, 0, 0},
		{"the first one open", []api.Segment{open(1, 1), unused(), unused()}, 0, 1},
		{"the second one open", []api.Segment{unused(), open(2, 1), unused()}, 1, 2},
		{"the last one open", []api.Segment{unused(), unused(), open(3, 1)}, 2, 3},
		{"open after full", []api.Segment{full(4, 1), full(4, 2), open(1, 3)}, 2, 1},
		{"open before full", []api.Segment{open(3, 3), full(4, 1), full(4, 2)}, 0, 3},
		{"free after full", []api.Segment{full(4, 1), unused(), unused()}, 1, 0},
		{"free between full", []api.Segment{full(4, 1), unused(), full(4, 2)}, 1, 0},
		{"only the last one free", []api.Segment{full(4, 1), full(4, 2), unused()}, 2, 0},
	} {
		x := api.Table{Pages: []api.Place{none}, Segs: c.segs, Slots: 4, Now: 9}
		wantNext(t, c.what, x, c.seg, c.slot)
		y := putted(t, x, 0, 77)
		wantSame(t, c.what, api.Table{Pages: y.Pages}, api.Table{Pages: []api.Place{place(c.seg, c.slot, 77)}})
	}
}

// P10.2: Next returns ErrFull if all segments are full, and Put then too, also for a page that has a place.
func TestFull(t *testing.T) {
	x := api.Table{Pages: []api.Place{none, place(1, 2, 4)}, Segs: []api.Segment{full(4, 1), full(4, 2)}, Slots: 4, Now: 9}
	wantNoNext(t, "full", x, api.ErrFull)
	for page := range 2 {
		y, e := Put(x, page, 5)
		wantRefused(t, "full", y, e, api.ErrFull)
	}
}

// P10.2: a segment becomes open with each image, and full with the last one of its slots, for all numbers of slots and segments.
func TestPutFillsSegments(t *testing.T) {
	for slots := 1; slots <= 16; slots++ {
		for _, segs := range []int{2, 3, 7, 32} {
			x := fresh(t, 16, segs, slots)
			for n := range segs * slots {
				seg, slot, page := n/slots, n%slots, n*5%16
				wantNext(t, "filling", x, seg, slot)
				x = putted(t, x, page, 1000-n)
				want := open(slot+1, n+1)
				if slot == slots-1 {
					want = full(slots, n+1)
				}
				if x.Segs[seg] != want || x.Pages[page] != place(seg, slot, 1000-n) || x.Now != n+1 || !May(x) {
					t.Fatalf("%d slots, the image %d: got %v", slots, n, x)
				}
			}
			wantNoNext(t, "filled", x, api.ErrFull)
		}
	}
}

// P10.2: Put changes one page, one segment and Now, and nothing else.
func TestPut(t *testing.T) {
	x := base()
	for page, want := range []api.Table{
		{Pages: []api.Place{place(1, 2, 9), none, place(2, 3, maxAt), place(1, 1, 5)}},
		{Pages: []api.Place{place(1, 0, 5), place(1, 2, 9), place(2, 3, maxAt), place(1, 1, 5)}},
		{Pages: []api.Place{place(1, 0, 5), none, place(1, 2, 9), place(1, 1, 5)}},
		{Pages: []api.Place{place(1, 0, 5), none, place(2, 3, maxAt), place(1, 2, 9)}},
	} {
		want.Segs, want.Slots, want.Now = []api.Segment{unused(), open(3, 8), full(4, 3), unused()}, 4, 8
		y, e := Put(x, page, 9)
		wantTable(t, "base", y, e, want)
	}
	wantSame(t, "the argument", x, base())
}

// P10.2: each At in the range is assigned, also one that is less than that of the place before.
func TestPutEveryAt(t *testing.T) {
	x := fresh(t, 1, 32, 16)
	for _, at := range []int{0, 1, maxAt, 255, 256, 65535, 65536, 1<<31 - 1, 1 << 31, maxAt - 1, 0} {
		if x = putted(t, x, 0, at); x.Pages[0].At != at || !May(x) {
			t.Errorf("the At %d: got %v", at, x)
		}
	}
	for _, at := range append(far, -1, -258, 1<<32+258) {
		y, e := Put(x, 0, at)
		wantRefused(t, "At", y, e, api.ErrArg)
	}
}

// P10.2: Put refuses pages that there are not, also those that a greater table has.
func TestPutRefusesOtherPages(t *testing.T) {
	for _, x := range valids() {
		for _, page := range append(far, -1, len(x.Pages), len(x.Pages)+1, 16, 17, 1<<32, 1<<16) {
			y, e := Put(x, page, 5)
			wantRefused(t, "another page", y, e, api.ErrArg)
		}
	}
}

// P10.2: Put is refused if Now is 2^40, and not before.
func TestPutUntilTheLastTick(t *testing.T) {
	x := fresh(t, 2, 2, 2)
	x.Now = maxNow - 1
	wantNext(t, "the last tick but one", x, 0, 0)
	x = putted(t, x, 1, 5)
	wantTable(t, "the last tick", x, api.OK, api.Table{Pages: []api.Place{none, place(0, 0, 5)}, Segs: []api.Segment{open(1, maxNow), unused()}, Slots: 2, Now: maxNow})
	wantNext(t, "the last tick", x, 0, 1)
	y, e := Put(x, 1, 5)
	wantRefused(t, "the last tick", y, e, api.ErrArg)
}

// P10.2, with R2: ErrArg comes before ErrFull, whichever argument it is.
func TestPutNamesErrArgFirst(t *testing.T) {
	x := api.Table{Pages: []api.Place{none}, Segs: []api.Segment{full(1, 1), full(1, 2)}, Slots: 1, Now: maxNow - 1}
	for _, c := range [][2]int{{-1, 5}, {1, 5}, {0, -1}, {0, maxAt + 1}} {
		y, e := Put(x, c[0], c[1])
		wantRefused(t, "full, with another argument", y, e, api.ErrArg)
	}
	y, e := Put(x, 0, 5)
	wantRefused(t, "full", y, e, api.ErrFull)
	x.Now = maxNow
	y, e = Put(x, 0, 5)
	wantRefused(t, "full, at the last tick", y, e, api.ErrArg)
	wantNoNext(t, "full, at the last tick", x, api.ErrFull)
}
