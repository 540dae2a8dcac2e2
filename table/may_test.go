package table

import (
	"slices"
	"testing"

	"bobbin/api"
)

// P10.1: a new table has the given numbers, no places, free segments and Now 0, for all numbers in their ranges and around them; for others the error is ErrArg.
func TestNew(t *testing.T) {
	for pages := -1; pages <= 18; pages++ {
		for segs := -1; segs <= 34; segs++ {
			for slots := -1; slots <= 18; slots++ {
				x, e := New(pages, segs, slots)
				if pages < 1 || pages > 16 || segs < 2 || segs > 32 || slots < 1 || slots > 16 {
					wantRefused(t, "New", x, e, api.ErrArg)
					continue
				}
				want := api.Table{Slots: slots}
				for range pages {
					want.Pages = append(want.Pages, none)
				}
				for range segs {
					want.Segs = append(want.Segs, unused())
				}
				wantTable(t, "New", x, e, want)
			}
		}
	}
}

// P10.1: New refuses numbers far from their ranges.
func TestNewRefusesFarNumbers(t *testing.T) {
	for _, n := range append(far, 4, -4, 1<<32+4, 1<<16+4, 260) {
		for _, c := range [][3]int{{n, 4, 4}, {4, n, 4}, {4, 4, n}, {n, n, n}} {
			if n == 4 {
				wantTable(t, "New", fresh(t, c[0], c[1], c[2]), api.OK, fresh(t, 4, 4, 4))
				continue
			}
			x, e := New(c[0], c[1], c[2])
			wantRefused(t, "New", x, e, api.ErrArg)
		}
	}
}

// P10.1, with R3: each new table has lists of its own.
func TestNewSharesNothing(t *testing.T) {
	x, y := fresh(t, 3, 4, 2), fresh(t, 3, 4, 2)
	scribble(x)
	wantTable(t, "another new table", y, api.OK, fresh(t, 3, 4, 2))
}

// P10.1: May returns true for valid tables.
func TestMay(t *testing.T) {
	for i, x := range valids() {
		if !May(x) || !valid(x) {
			t.Errorf("the table %d: May(%v) returned %t", i, x, May(x))
		}
	}
}

// base returns a valid table with a free, an open and a full segment.
func base() api.Table {
	return api.Table{
		Pages: []api.Place{place(1, 0, 5), none, place(2, 3, maxAt), place(1, 1, 5)},
		Segs:  []api.Segment{unused(), open(2, 6), full(4, 3), unused()},
		Slots: 4,
		Now:   7,
	}
}

// wrong is a change that makes base not valid, in words.
type wrong struct {
	what   string
	change func(x *api.Table)
}

// wrongs returns changes for each part of the definition.
func wrongs() []wrong {
	return []wrong{
		{"no pages", func(x *api.Table) { x.Pages = nil }},
		{"17 pages", func(x *api.Table) { x.Pages = append(x.Pages, slices.Repeat([]api.Place{none}, 13)...) }},
		{"no segments", func(x *api.Table) { x.Pages, x.Segs = []api.Place{none}, nil }},
		{"one segment", func(x *api.Table) { x.Pages, x.Segs = []api.Place{none}, []api.Segment{unused()} }},
		{"33 segments", func(x *api.Table) { x.Segs = append(x.Segs, slices.Repeat([]api.Segment{unused()}, 29)...) }},
		{"no slots", func(x *api.Table) { *x = api.Table{Pages: []api.Place{none}, Segs: []api.Segment{unused(), unused()}} }},
		{"slots below 0", func(x *api.Table) {
			*x = api.Table{Pages: []api.Place{none}, Segs: []api.Segment{unused(), unused()}, Slots: -1}
		}},
		{"17 slots", func(x *api.Table) { x.Slots, x.Segs[2].Used = 17, 17 }},
		{"Now below 0", func(x *api.Table) { x.Now = -1 }},
		{"Now beyond 2^40", func(x *api.Table) { x.Now = maxNow + 1 }},
		{"a place with the Seg -2", func(x *api.Table) { x.Pages[1] = place(-2, 0, 0) }},
		{"a place with the Seg -1 and the Slot 1", func(x *api.Table) { x.Pages[1] = place(-1, 1, 0) }},
		{"a place with the Seg -1 and the At 1", func(x *api.Table) { x.Pages[1] = place(-1, 0, 1) }},
		{"the zero place, in a free segment", func(x *api.Table) { x.Pages[1] = api.Place{} }},
		{"a place in no segment", func(x *api.Table) { x.Pages[1] = place(4, 0, 0) }},
		{"an At below 0", func(x *api.Table) { x.Pages[0].At = -1 }},
		{"an At beyond 2^32 - 1", func(x *api.Table) { x.Pages[0].At = maxAt + 1 }},
		{"a Slot below 0", func(x *api.Table) { x.Pages[0].Slot = -1 }},
		{"a Slot of Used in the open segment", func(x *api.Table) { x.Pages[0].Slot = 2 }},
		{"a Slot of Used in the full segment", func(x *api.Table) { x.Pages[2].Slot = 4 }},
		{"two pages with a slot", func(x *api.Table) { x.Pages[3] = x.Pages[0] }},
		{"two pages with a slot, with another At", func(x *api.Table) { x.Pages[1] = place(2, 3, 9) }},
		{"a free segment with the Used 1", func(x *api.Table) { x.Segs[0].Used = 1 }},
		{"a free segment with the Age 1", func(x *api.Table) { x.Segs[0].Age = 1 }},
		{"an open segment with the Used 0", func(x *api.Table) { x.Pages, x.Segs[1].Used = []api.Place{none}, 0 }},
		{"an open segment with the Used Slots", func(x *api.Table) { x.Segs[1].Used = 4 }},
		{"a full segment with a Used below Slots", func(x *api.Table) { x.Pages, x.Segs[2].Used = []api.Place{none}, 3 }},
		{"a full segment with a Used beyond Slots", func(x *api.Table) { x.Segs[2].Used = 5 }},
		{"a full segment with the Used 0", func(x *api.Table) { x.Pages, x.Segs[2].Used = []api.Place{none}, 0 }},
		{"two open segments", func(x *api.Table) { x.Segs[3] = open(1, 1) }},
		{"the State 3", func(x *api.Table) { x.Segs[2].State = 3 }},
		{"the State -1", func(x *api.Table) { x.Segs[0].State = -1 }},
		{"a state that is not free in the low byte alone", func(x *api.Table) { x.Segs[0].State = 256 }},
		{"an Age below 0 in the open segment", func(x *api.Table) { x.Segs[1].Age = -1 }},
		{"an Age below 0 in the full segment", func(x *api.Table) { x.Segs[2].Age = -1 }},
		{"an Age beyond Now in the open segment", func(x *api.Table) { x.Segs[1].Age = 8 }},
		{"an Age beyond Now in the full segment", func(x *api.Table) { x.Segs[2].Age = 8 }},
		{"everything zero", func(x *api.Table) { *x = api.Table{} }},
		{"long lists", func(x *api.Table) { x.Pages, x.Segs = make([]api.Place, 1<<16), make([]api.Segment, 1<<16) }},
	}
}

// P10.1: May returns false for each table of which one part of the definition does not hold, and P10.2 to P10.4: every call refuses it.
func TestMayOfWrongTables(t *testing.T) {
	if !May(base()) {
		t.Fatalf("May(%v) returned false", base())
	}
	for _, w := range wrongs() {
		x := base()
		w.change(&x)
		wantNothing(t, w.what, x)
	}
}

// wantNothing checks what every call returns for a table that is not valid, with arguments that would do for others.
func wantNothing(t *testing.T, what string, x api.Table) {
	t.Helper()
	before := cloned(x)
	if May(x) || valid(x) || Frees(x) != 0 {
		t.Errorf("%s: May returned %t, Frees %d", what, May(x), Frees(x))
	}
	wantNoNext(t, what, x, api.ErrArg)
	for i := range 5 {
		if n := Live(x, i); n != 0 {
			t.Errorf("%s: Live(%d) returned %d", what, i, n)
		}
		y, e := Put(x, i, 3)
		wantRefused(t, what+": Put", y, e, api.ErrArg)
		for _, p := range []api.Place{none, place(2, 0, 5), place(2, 3, 5), place(0, 0, 0)} {
			y, e = Set(x, i, p)
			wantRefused(t, what+": Set", y, e, api.ErrArg)
		}
		y, e = Free(x, i)
		wantRefused(t, what+": Free", y, e, api.ErrArg)
		y, e = Settle(x, i)
		wantRefused(t, what+": Settle", y, e, api.ErrArg)
	}
	wantSame(t, what+": the argument", x, before)
}

// P10.1: of each valid table every number is replaced by every other one that could matter.
func TestMayOfEveryChange(t *testing.T) {
	for _, x := range valids() {
		l := []int{-3, -2, -1, 0, 1, 2, 3, 4, 5, 15, 16, 17, 31, 32, 33, x.Slots - 1, x.Slots, x.Slots + 1, x.Now - 1, x.Now, x.Now + 1, len(x.Segs) - 1, len(x.Segs), maxAt, maxAt + 1, 256, 1 << 32}
		y := cloned(x)
		for _, number := range numbers(&y) {
			was := *number
			for _, n := range append(l, far...) {
				*number = n
				if May(y) != valid(y) {
					t.Errorf("May(%v) returned %t", y, May(y))
				}
			}
			*number = was
		}
		wantSame(t, "the argument", y, x)
	}
}

// numbers returns all numbers of x.
func numbers(x *api.Table) []*int {
	l := []*int{&x.Slots, &x.Now}
	for i := range x.Pages {
		l = append(l, &x.Pages[i].Seg, &x.Pages[i].Slot, &x.Pages[i].At)
	}
	for i := range x.Segs {
		l = append(l, &x.Segs[i].State, &x.Segs[i].Used, &x.Segs[i].Age)
	}
	return l
}

// P10.1: every segment that there could be, beside another one, for each number of slots.
func TestMayOfEverySegment(t *testing.T) {
	for slots := range 18 {
		for _, other := range []api.Segment{unused(), open(1, 0), full(slots, 1)} {
			for state := -1; state <= 4; state++ {
				for used := -1; used <= 18; used++ {
					for age := -1; age <= 3; age++ {
						s := api.Segment{State: state, Used: used, Age: age}
						x := api.Table{Pages: []api.Place{none}, Segs: []api.Segment{s, other}, Slots: slots, Now: 2}
						y := api.Table{Pages: []api.Place{place(0, used-1, 0)}, Segs: []api.Segment{s, other}, Slots: slots, Now: 2}
						if May(x) != valid(x) || May(y) != valid(y) {
							t.Fatalf("May(%v) returned %t, May(%v) %t", x, May(x), y, May(y))
						}
					}
				}
			}
		}
	}
}

// P10.1: every two places that there could be, in segments of each state.
func TestMayOfEveryTwoPlaces(t *testing.T) {
	var l []api.Place
	for seg := -2; seg <= 3; seg++ {
		for slot := -1; slot <= 3; slot++ {
			for at := -1; at <= 1; at++ {
				l = append(l, place(seg, slot, at))
			}
		}
	}
	for _, p := range l {
		for _, q := range l {
			x := api.Table{Pages: []api.Place{p, q}, Segs: []api.Segment{open(1, 1), full(3, 0), unused()}, Slots: 3, Now: 1}
			if May(x) != valid(x) {
				t.Fatalf("May(%v) returned %t", x, May(x))
			}
		}
	}
}

// R5: a table is valid whatever was asked before, and however long its lists could become.
func TestMayTwice(t *testing.T) {
	for range 2 {
		for _, x := range valids() {
			x.Pages, x.Segs = slices.Grow(x.Pages, 40), slices.Grow(x.Segs, 40)
			if !May(x) || May(api.Table{}) {
				t.Errorf("May(%v) returned %t, and that of the zero value %t", x, May(x), May(api.Table{}))
			}
		}
	}
}
