package cost

import (
	"slices"
	"strconv"
	"testing"

	"bobbin/api"
	"bobbin/table"
)

// P11.1 and P11.2: the chapter's example, which is also the sixth one of the whole.
func TestExample(t *testing.T) {
	x := tableOf(t, 4, 10, want{1, 2}, want{3, 0})
	wantGain(t, "1 live image and Age 2", x, 0, 27, 5)
	wantGain(t, "3 live images and Age 0", x, 1, 11, 7)
	wantVictim(t, "the first one", x, 0)
	x = tableOf(t, 4, 10, want{3, 0}, want{1, 2})
	wantGain(t, "3 live images and Age 0", x, 0, 11, 7)
	wantGain(t, "1 live image and Age 2", x, 1, 27, 5)
	wantVictim(t, "the second one", x, 1)
}

// P11.1: the gain for all numbers of slots and live images, with the least and the greatest ages. If all slots are live, there is none.
func TestGainOfAllNumbers(t *testing.T) {
	for slots := 1; slots <= 16; slots++ {
		for live := range slots + 1 {
			for _, now := range []int{0, 1, 2, 10, 65536, 1 << 32, maxNow - 1, maxNow} {
				for _, age := range []int{0, 1, now / 2, now - 1, now} {
					if age < 0 || age > now {
						continue
					}
					x := tableOf(t, slots, now, want{live, age})
					what := strconv.Itoa(live) + " live images in " + strconv.Itoa(slots) + " slots"
					if live == slots {
						wantNoGain(t, what, x, 0)
						wantNoVictim(t, what, x)
						continue
					}
					wantGain(t, what, x, 0, (slots-live)*(now-age+1), slots+live)
					wantVictim(t, what, x, 0)
				}
			}
		}
	}
}

// P11.1: the fraction is not reduced, and the tick of the last image counts, so that a segment with Age Now has a gain too.
func TestGainIsNotReduced(t *testing.T) {
	x := tableOf(t, 4, 10, want{0, 10}, want{0, 7}, want{2, 8}, want{2, 10})
	wantGain(t, "no live images", x, 0, 4, 4)
	wantGain(t, "no live images, an Age of 3 less", x, 1, 16, 4)
	wantGain(t, "2 live images, an Age of 2 less", x, 2, 6, 6)
	wantGain(t, "2 live images", x, 3, 2, 6)
	x = tableOf(t, 1, 0, want{0, 0})
	wantGain(t, "one slot", x, 0, 1, 1)
	x = tableOf(t, 16, maxNow, want{0, 0}, want{15, 0})
	wantGain(t, "the greatest gain", x, 0, 17592186044432, 16)
	wantGain(t, "the greatest denominator", x, 1, 1099511627777, 31)
}

// P11.1: the live images are those of any pages in any slots of this segment, and of no other one.
func TestGainCountsItsOwnImages(t *testing.T) {
	for set := range 1 << 5 {
		x := api.Table{Segs: []api.Segment{full(5, 3), full(5, 4), full(5, 5)}, Slots: 5, Now: 8}
		live := 0
		for slot := range 5 {
			if set>>slot&1 == 1 {
				live++
				x.Pages = append(x.Pages, place(1, slot, 100+slot))
			}
		}
		x.Pages = append(x.Pages, place(0, 4, 1), none, place(2, 0, 2), place(2, 1, 3))
		if slices.Reverse(x.Pages); live == 5 {
			wantNoGain(t, "all slots live", x, 1)
		} else {
			wantGain(t, "some slots live", x, 1, (5-live)*5, 5+live)
		}
		wantGain(t, "another segment", x, 0, 4*6, 6)
		wantGain(t, "another segment", x, 2, 3*4, 7)
		wantMeant(t, "some slots live", x)
	}
}

// P11.1: a segment that is not full has no gain, with live images or without.
func TestGainRefusesStates(t *testing.T) {
	x := api.Table{Segs: []api.Segment{unused(), open(3, 1), full(4, 2), unused()}, Slots: 4, Now: 9}
	for _, pages := range [][]api.Place{{none}, {place(1, 0, 5)}, {place(1, 0, 5), place(1, 2, 5), place(2, 3, 5)}} {
		x.Pages = pages
		for _, seg := range []int{0, 1, 3} {
			wantNoGain(t, "not full", x, seg)
		}
		wantVictim(t, "the only full one", x, 2)
		wantMeant(t, "some not full", x)
	}
}

// P11.1: segments that there are not have no gain, also where the memory behind the list has one.
func TestGainRefusesOtherSegments(t *testing.T) {
	x := tableOf(t, 4, 10, want{1, 2}, want{3, 0}, want{0, 1}, want{0, 0})
	x.Segs = x.Segs[:2]
	for _, seg := range append(far, 2, 3, 4, -3, -4, 1<<8, 1<<8+1, 1<<16+1) {
		wantNoGain(t, "no such segment", x, seg)
	}
	wantMeant(t, "fewer segments", x)
}

// base returns a valid table with a free, an open and two full segments, which have gains.
func base() api.Table {
	return api.Table{
		Pages: []api.Place{place(1, 0, 5), none, place(2, 3, 6), place(3, 1, 5)},
		Segs:  []api.Segment{unused(), open(2, 6), full(4, 3), full(4, 5)},
		Slots: 4,
		Now:   7,
	}
}

// numbersOf returns all numbers of x.
func numbersOf(x *api.Table) []*int {
	l := []*int{&x.Slots, &x.Now}
	for i := range x.Pages {
		p := &x.Pages[i]
		l = append(l, &p.Seg, &p.Slot, &p.At)
	}
	for i := range x.Segs {
		s := &x.Segs[i]
		l = append(l, &s.State, &s.Used, &s.Age)
	}
	return l
}

// P11.1 and P11.2, with P1 and R1: whichever one or two numbers of a table are changed, it is valid still, or else no segment has a gain, and there is no victim.
func TestChangedTables(t *testing.T) {
	x := base()
	wantGain(t, "unchanged", x, 2, 15, 5)
	wantGain(t, "unchanged", x, 3, 9, 5)
	wantVictim(t, "unchanged", x, 2)
	valid, wrong := 0, 0
	for i := range numbersOf(&x) {
		for j := range i + 1 {
			for _, n := range append(far, 0, 1, 2, 3, 4, 5, 6, 7, 8, 17) {
				x := base()
				l := numbersOf(&x)
				if *l[j]++; i == j {
					*l[j]--
				}
				if *l[i] = n; table.May(x) {
					valid++
				} else {
					wrong++
				}
				wantMeant(t, "changed", x)
			}
		}
	}
	if valid < 500 || wrong < 500 {
		t.Errorf("only %d tables were valid, or only %d were not", valid, wrong)
	}
}

// P11.1 and P11.2, with P1 and R1: in a table of other sizes no segment has a gain, and there is no victim.
func TestWrongSizes(t *testing.T) {
	pages := []api.Place{none}
	for i, x := range []api.Table{
		{},
		{Slots: 4, Now: 7},
		{Pages: pages, Slots: 4, Now: 7},
		{Pages: pages, Segs: []api.Segment{full(4, 0)}, Slots: 4, Now: 7},
		{Pages: pages, Segs: slices.Repeat([]api.Segment{full(4, 0)}, 33), Slots: 4, Now: 7},
		{Pages: pages, Segs: slices.Repeat([]api.Segment{full(4, 0)}, 1<<20), Slots: 4, Now: 7},
		{Segs: []api.Segment{full(4, 0), full(4, 0)}, Slots: 4, Now: 7},
		{Pages: slices.Repeat(pages, 17), Segs: []api.Segment{full(4, 0), full(4, 0)}, Slots: 4, Now: 7},
		{Pages: pages, Segs: []api.Segment{full(17, 0), full(17, 0)}, Slots: 17, Now: 7},
		{Pages: pages, Segs: []api.Segment{full(0, 0), full(0, 0)}, Now: 7},
	} {
		if table.May(x) {
			t.Fatalf("the table %d is valid", i)
		}
		wantNoVictim(t, "another size", x)
		for _, seg := range append(far, 0, 1, len(x.Segs)-1, len(x.Segs)) {
			wantNoGain(t, "another size", x, seg)
		}
	}
}

// R5: the results depend only on the arguments, whatever was called before.
func TestNothingIsKept(t *testing.T) {
	a, b := base(), tableOf(t, 4, 10, want{3, 0}, want{1, 2})
	for range 3 {
		wantMeant(t, "a table", a)
		wantMeant(t, "another table", b)
		wantNoVictim(t, "no table", api.Table{})
	}
	a.Segs[3].Age = 0
	wantGain(t, "changed", a, 3, 24, 5)
	wantVictim(t, "changed", a, 3)
}
