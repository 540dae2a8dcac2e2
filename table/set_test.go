package table

import (
	"testing"

	"bobbin/api"
)

// P10.3: Set assigns a place in a segment of any state, which becomes full; its Age becomes Now only if it was free.
func TestSet(t *testing.T) {
	pages := func(p api.Place) []api.Place {
		return []api.Place{place(1, 0, 5), p, place(2, 3, maxAt), place(1, 1, 5)}
	}
	for _, c := range []struct {
		what string
		p    api.Place
		segs []api.Segment
	}{
		{"nowhere", none, base().Segs},
		{"a free segment", place(0, 0, 0), []api.Segment{full(4, 7), open(2, 6), full(4, 3), unused()}},
		{"the last slot of the last segment, which is free", place(3, 3, maxAt), []api.Segment{unused(), open(2, 6), full(4, 3), full(4, 7)}},
		{"the next slot of the open segment", place(1, 2, 8), []api.Segment{unused(), full(4, 6), full(4, 3), unused()}},
		{"the last slot of the open segment", place(1, 3, 8), []api.Segment{unused(), full(4, 6), full(4, 3), unused()}},
		{"a full segment", place(2, 0, 8), base().Segs},
	} {
		x := base()
		y, e := Set(x, 1, c.p)
		wantTable(t, c.what, y, e, api.Table{Pages: pages(c.p), Segs: c.segs, Slots: 4, Now: 7})
		wantSame(t, c.what+": the argument", x, base())
	}
}

// P10.3: a page that has a place gets another one, or none, and the segment of the one before stays as it is.
func TestSetMoves(t *testing.T) {
	for _, c := range []struct {
		what string
		page int
		p    api.Place
		want api.Table
	}{
		{"from an open segment to a full one", 0, place(2, 0, 6), api.Table{Pages: []api.Place{place(2, 0, 6), none, place(2, 3, maxAt), place(1, 1, 5)}, Segs: base().Segs}},
		{"from a full segment to a free one", 2, place(3, 1, 6), api.Table{Pages: []api.Place{place(1, 0, 5), none, place(3, 1, 6), place(1, 1, 5)}, Segs: []api.Segment{unused(), open(2, 6), full(4, 3), full(4, 7)}}},
		{"from an open segment to nowhere", 3, none, api.Table{Pages: []api.Place{place(1, 0, 5), none, place(2, 3, maxAt), none}, Segs: base().Segs}},
		{"from a full segment to nowhere", 2, none, api.Table{Pages: []api.Place{place(1, 0, 5), none, none, place(1, 1, 5)}, Segs: base().Segs}},
		{"within a full segment", 2, place(2, 0, 0), api.Table{Pages: []api.Place{place(1, 0, 5), none, place(2, 0, 0), place(1, 1, 5)}, Segs: base().Segs}},
		{"to where it is, with another At", 2, place(2, 3, 0), api.Table{Pages: []api.Place{place(1, 0, 5), none, place(2, 3, 0), place(1, 1, 5)}, Segs: base().Segs}},
		{"to where it is, in an open segment", 3, place(1, 1, 5), api.Table{Pages: base().Pages, Segs: []api.Segment{unused(), full(4, 6), full(4, 3), unused()}}},
	} {
		c.want.Slots, c.want.Now = 4, 7
		x := base()
		y, e := Set(x, c.page, c.p)
		wantTable(t, c.what, y, e, c.want)
		wantSame(t, c.what+": the argument", x, base())
	}
}

// P10.3: any number of pages may have the empty place.
func TestSetNowhere(t *testing.T) {
	x := base()
	for page := range x.Pages {
		y, e := Set(x, page, none)
		wantErrno(t, "nowhere", e, api.OK)
		x = y
	}
	wantTable(t, "all nowhere", x, api.OK, api.Table{Pages: []api.Place{none, none, none, none}, Segs: base().Segs, Slots: 4, Now: 7})
}

// P10.3: the Age of a segment that was free becomes Now, also if this is 0 or 2^40, and stays so with the next image there.
func TestSetAge(t *testing.T) {
	for _, now := range []int{0, 1, 5, maxNow - 1, maxNow} {
		x := fresh(t, 2, 2, 2)
		x.Now = now
		y, e := Set(x, 0, place(1, 1, 3))
		wantTable(t, "Now", y, e, api.Table{Pages: []api.Place{place(1, 1, 3), none}, Segs: []api.Segment{unused(), full(2, now)}, Slots: 2, Now: now})
		if now == maxNow {
			continue
		}
		y.Now++
		y, e = Set(y, 1, place(1, 0, 3))
		wantTable(t, "Now", y, e, api.Table{Pages: []api.Place{place(1, 1, 3), place(1, 0, 3)}, Segs: []api.Segment{unused(), full(2, now)}, Slots: 2, Now: now + 1})
	}
}

// P10.3: Set refuses pages that there are not.
func TestSetRefusesOtherPages(t *testing.T) {
	for _, x := range valids() {
		for _, page := range append(far, -1, len(x.Pages), len(x.Pages)+1, 16, 17, 1<<32, 1<<16) {
			for _, p := range append(places(x), none) {
				y, e := Set(x, page, p)
				wantRefused(t, "another page", y, e, api.ErrArg)
			}
		}
	}
}

// P10.3: Set refuses places that are neither the empty one nor in the table.
func TestSetRefusesOtherPlaces(t *testing.T) {
	l := []api.Place{place(-1, 0, 1), place(-1, 0, maxAt), place(-1, 1, 0), place(-1, -1, 0), place(-1, 0, -1), place(-2, 0, 0), place(4, 0, 0), place(32, 0, 0), place(2, -1, 0), place(2, 4, 0), place(2, 16, 0), place(2, 0, -1), place(2, 0, maxAt+1)}
	for _, n := range far {
		l = append(l, place(n, 0, 0), place(2, n, 0), place(2, 0, n), place(n, n, n))
	}
	for _, p := range l {
		for page := range 4 {
			x := base()
			y, e := Set(x, page, p)
			wantRefused(t, "another place", y, e, api.ErrArg)
			wantSame(t, "another place: the argument", x, base())
		}
	}
}

// P10.3: Set returns ErrState if another page has this segment and slot, whatever the At is, and with R2 after ErrArg.
func TestSetRefusesTakenSlots(t *testing.T) {
	for owner, p := range base().Pages {
		if p == none {
			continue
		}
		for page := range 4 {
			for _, at := range []int{0, p.At, 6, maxAt} {
				x := base()
				y, e := Set(x, page, place(p.Seg, p.Slot, at))
				if page == owner {
					wantErrno(t, "its own slot", e, api.OK)
				} else {
					wantRefused(t, "a taken slot", y, e, api.ErrState)
				}
				wantSame(t, "a taken slot: the argument", x, base())
			}
			for _, at := range []int{-1, maxAt + 1} {
				y, e := Set(base(), page, place(p.Seg, p.Slot, at))
				wantRefused(t, "a taken slot and another At", y, e, api.ErrArg)
			}
		}
		y, e := Set(base(), 4, p)
		wantRefused(t, "a taken slot and another page", y, e, api.ErrArg)
	}
}

// P10.3: a slot that a page had is free for others as soon as it has another place.
func TestSetAfterMoving(t *testing.T) {
	x, e := Set(base(), 2, none)
	wantErrno(t, "nowhere", e, api.OK)
	x, e = Set(x, 1, place(2, 3, 4))
	wantTable(t, "the slot of another one", x, e, api.Table{Pages: []api.Place{place(1, 0, 5), place(2, 3, 4), none, place(1, 1, 5)}, Segs: base().Segs, Slots: 4, Now: 7})
}

// P10.3: Live counts the images of a segment, and returns 0 if there is no such segment, also for the Seg of the empty place.
func TestLive(t *testing.T) {
	for seg, want := range []int{0, 2, 1, 0, 0, 0} {
		if n := Live(base(), seg); n != want {
			t.Errorf("Live(%d) returned %d, want %d", seg, n, want)
		}
	}
	for _, x := range append(valids(), base()) {
		sum := 0
		for seg := range x.Segs {
			sum += Live(x, seg)
		}
		for _, p := range x.Pages {
			if p == none {
				sum++
			}
		}
		if sum != len(x.Pages) {
			t.Errorf("%v: Live counts %d pages, with those without a place", x, sum)
		}
		for _, seg := range append(far, -1, len(x.Segs), 1<<32, 1<<32+1) {
			if n := Live(x, seg); n != 0 {
				t.Errorf("%v: Live(%d) returned %d, want 0", x, seg, n)
			}
		}
	}
	x := fresh(t, 16, 2, 16)
	for page := range 16 {
		x = putted(t, x, page, 3)
		if n := Live(x, 0); n != page+1 {
			t.Errorf("Live returned %d, want %d", n, page+1)
		}
	}
}

// P10.3: Frees counts the free segments.
func TestFrees(t *testing.T) {
	for _, c := range []struct {
		segs []api.Segment
		want int
	}{
		{[]api.Segment{unused(), unused()}, 2},
		{[]api.Segment{unused(), open(1, 0)}, 1},
		{[]api.Segment{full(2, 0), unused()}, 1},
		{[]api.Segment{full(2, 0), open(1, 1)}, 0},
		{[]api.Segment{full(2, 0), full(2, 0)}, 0},
		{[]api.Segment{unused(), full(2, 0), unused(), open(1, 0), unused()}, 3},
	} {
		x := api.Table{Pages: []api.Place{none}, Segs: c.segs, Slots: 2, Now: 1}
		if n := Frees(x); n != c.want {
			t.Errorf("Frees(%v) returned %d, want %d", x, n, c.want)
		}
	}
	for segs := 2; segs <= 32; segs++ {
		if n := Frees(fresh(t, 1, segs, 1)); n != segs {
			t.Errorf("Frees returned %d, want %d", n, segs)
		}
	}
}
