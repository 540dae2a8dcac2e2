package table

import (
	"testing"

	"bobbin/api"
)

// P10.4: Free makes a full segment without live images free, and changes nothing else.
func TestFree(t *testing.T) {
	x := api.Table{
		Pages: []api.Place{place(3, 0, 5), none, place(1, 1, 6)},
		Segs:  []api.Segment{full(2, 4), full(2, 6), full(2, 0), open(1, 7), unused(), full(2, 7)},
		Slots: 2,
		Now:   7,
	}
	before := cloned(x)
	for seg := range x.Segs {
		y, e := Free(x, seg)
		wantSame(t, "the argument", x, before)
		if seg != 0 && seg != 2 && seg != 5 {
			wantRefused(t, "not full, or with a live image", y, e, api.ErrState)
			continue
		}
		want := cloned(before)
		want.Segs[seg] = unused()
		wantTable(t, "full, without live images", y, e, want)
		y, e = Free(y, seg)
		wantRefused(t, "freed", y, e, api.ErrState)
	}
}

// P10.4: a segment with one live image is not freed, whichever slot and page it is of.
func TestFreeRefusesLiveImages(t *testing.T) {
	for slot := range 16 {
		for page := range 16 {
			x := fresh(t, 16, 3, 16)
			for seg := range 3 {
				y, e := Set(x, page, place(seg, slot, 0))
				wantErrno(t, "Set", e, api.OK)
				y, e = Free(y, seg)
				wantRefused(t, "a live image", y, e, api.ErrState)
			}
		}
	}
}

// P10.4: an open segment is not freed, also without live images.
func TestFreeRefusesOpenSegments(t *testing.T) {
	x := api.Table{Pages: []api.Place{none}, Segs: []api.Segment{open(3, 1), unused()}, Slots: 4, Now: 1}
	for seg := range 2 {
		y, e := Free(x, seg)
		wantRefused(t, "not full", y, e, api.ErrState)
	}
}

// P10.4: Free refuses segments that there are not.
func TestFreeRefusesOtherSegments(t *testing.T) {
	for _, x := range append(valids(), base()) {
		for _, seg := range append(far, -1, len(x.Segs), len(x.Segs)+1, 32, 33, 1<<32, 1<<32+1) {
			y, e := Free(x, seg)
			wantRefused(t, "another segment", y, e, api.ErrArg)
		}
	}
}

// P10.4: the states that Settle determines, whatever they were before.
func TestSettle(t *testing.T) {
	x := api.Table{
		Pages: []api.Place{place(1, 0, 5), place(2, 2, 5), place(4, 3, 5), place(2, 0, 5), none, place(5, 0, 5), place(5, 3, 5), place(6, 0, 5)},
		Segs:  []api.Segment{full(4, 1), full(4, 2), full(4, 3), unused(), full(4, 4), full(4, 5), open(2, 6), full(4, 9)},
		Slots: 4,
		Now:   9,
	}
	before := cloned(x)
	rest := []api.Segment{unused(), full(4, 2), full(4, 3), unused(), full(4, 4), full(4, 5), full(4, 6), unused()}
	opened := map[int]api.Segment{1: open(1, 2), 2: open(3, 3), 6: open(1, 6)}
	for _, number := range append(far, -1, 0, 1, 2, 3, 4, 5, 6, 7, 8, 9) {
		want := cloned(before)
		copy(want.Segs, rest)
		if s, is := opened[number]; is {
			want.Segs[number] = s
		}
		y, e := Settle(x, number)
		wantTable(t, "Settle", y, e, want)
		wantSame(t, "the argument", x, before)
		z, e := Settle(y, number)
		wantTable(t, "Settle again", z, e, y)
	}
}

// P10.4: an open segment without live images becomes free, also if it is the one with the number open.
func TestSettleFreesEmptySegments(t *testing.T) {
	x := api.Table{Pages: []api.Place{none, none}, Segs: []api.Segment{open(3, 1), full(4, 2)}, Slots: 4, Now: 2}
	for number := -1; number <= 2; number++ {
		y, e := Settle(x, number)
		wantTable(t, "no live images", y, e, api.Table{Pages: x.Pages, Segs: []api.Segment{unused(), unused()}, Slots: 4, Now: 2})
	}
}

// P10.4: for each set of live slots, the segment becomes open with the greatest one plus 1, or full if this is the last one.
func TestSettleEverySetOfSlots(t *testing.T) {
	for slots := 1; slots <= 5; slots++ {
		for set := range 1 << slots {
			x := fresh(t, 5, 2, slots)
			x.Now = 8
			x.Segs[1] = full(slots, 6)
			want := unused()
			for slot := range slots {
				if set>>slot&1 == 0 {
					continue
				}
				x.Pages[(slot*3+set)%5] = place(1, slot, slot)
				if want = open(slot+1, 6); slot == slots-1 {
					want = full(slots, 6)
				}
			}
			y, e := Settle(x, 1)
			wantTable(t, "the number open", y, e, api.Table{Pages: x.Pages, Segs: []api.Segment{unused(), want}, Slots: slots, Now: 8})
			if want != unused() {
				want = full(slots, 6)
			}
			y, e = Settle(x, 0)
			wantTable(t, "another number", y, e, api.Table{Pages: x.Pages, Segs: []api.Segment{unused(), want}, Slots: slots, Now: 8})
		}
	}
}

// P10.3 and P10.4: a table that is rebuilt from the places of another one goes on where this one would.
func TestSettleAfterSets(t *testing.T) {
	x := fresh(t, 4, 5, 3)
	for n := range 11 {
		page := n * 3 % 4
		x = putted(t, x, page, 100+n)
		y := fresh(t, 4, 5, 3)
		for i, p := range x.Pages {
			z, e := Set(y, i, p)
			wantErrno(t, "Set", e, api.OK)
			y = z
		}
		y, e := Settle(y, x.Pages[page].Seg)
		wantErrno(t, "Settle", e, api.OK)
		wantSame(t, "the places", api.Table{Pages: y.Pages}, api.Table{Pages: x.Pages})
		if x.Segs[x.Pages[page].Seg].State == api.SegOpen {
			wantNext(t, "rebuilt", y, x.Pages[page].Seg, x.Pages[page].Slot+1)
		}
	}
}
