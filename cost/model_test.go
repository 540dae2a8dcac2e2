package cost

import (
	"math"
	"math/big"
	"slices"
	"testing"

	"bobbin/api"
	"bobbin/table"
)

// maxNow is the greatest Now, as the document says it.
const maxNow = 1099511627776

// far are numbers that no table has a segment for.
var far = []int{math.MinInt, -maxNow, -1 << 32, -33, -2, -1, 32, 33, 1 << 16, 1 << 32, 1<<32 + 1, maxNow, math.MaxInt}

// none is the empty place.
var none = api.Place{Seg: -1}

// open, full and unused are segments.
func open(used, age int) api.Segment { return api.Segment{State: api.SegOpen, Used: used, Age: age} }
func full(used, age int) api.Segment { return api.Segment{State: api.SegFull, Used: used, Age: age} }
func unused() api.Segment            { return api.Segment{State: api.SegFree} }

func place(seg, slot, at int) api.Place { return api.Place{Seg: seg, Slot: slot, At: at} }

// want is what is meant of a segment: how many of its slots are live, and its Age.
type want struct{ live, age int }

// tableOf returns a valid table of full segments with so many live images in the first slots of each, where a page without a place is the first one.
func tableOf(t *testing.T, slots, now int, l ...want) api.Table {
	t.Helper()
	x := api.Table{Pages: []api.Place{none}, Slots: slots, Now: now}
	for i, w := range l {
		x.Segs = append(x.Segs, full(slots, w.age))
		for slot := range w.live {
			x.Pages = append(x.Pages, place(i, slot, 7))
		}
	}
	if len(x.Pages) > 1 {
		x.Pages = x.Pages[1:]
	}
	if len(l) == 1 {
		x.Segs = append(x.Segs, unused())
	}
	if !table.May(x) {
		t.Fatalf("the table %v is not valid", x)
	}
	return x
}

// cloned returns a table that shares no memory with x.
func cloned(x api.Table) api.Table {
	x.Pages, x.Segs = slices.Clone(x.Pages), slices.Clone(x.Segs)
	return x
}

// meantGain is what the document says of Gain, for any arguments.
func meantGain(x api.Table, seg int) (int, int, bool) {
	if !table.May(x) {
		return 0, 0, false
	}
	for i, s := range x.Segs {
		if i != seg || s.State != api.SegFull {
			continue
		}
		dead, den := 0, 0
		for slot := range x.Slots {
			is := slices.ContainsFunc(x.Pages, func(p api.Place) bool { return p.Seg == seg && p.Slot == slot })
			if den++; is {
				den++
			} else {
				dead++
			}
		}
		if dead > 0 {
			return dead * (x.Now - s.Age + 1), den, true
		}
	}
	return 0, 0, false
}

// meantVictim is what the document says of Victim, for any table. The gains are compared as numbers of any size.
func meantVictim(x api.Table) (int, bool) {
	var most *big.Rat
	victim := 0
	for i := len(x.Segs) - 1; i >= 0 && table.May(x); i-- {
		num, den, is := meantGain(x, i)
		if !is {
			continue
		}
		if g := big.NewRat(int64(num), int64(den)); most == nil || g.Cmp(most) >= 0 {
			most, victim = g, i
		}
	}
	return victim, most != nil
}

func wantGain(t *testing.T, what string, x api.Table, seg, num, den int) {
	t.Helper()
	if a, b, ok := Gain(x, seg); a != num || b != den || !ok {
		t.Errorf("%s: Gain(%v, %d) returned %d, %d and %t, want %d and %d", what, x, seg, a, b, ok, num, den)
	}
}

func wantNoGain(t *testing.T, what string, x api.Table, seg int) {
	t.Helper()
	if a, b, ok := Gain(x, seg); a != 0 || b != 0 || ok {
		t.Errorf("%s: Gain(%v, %d) returned %d, %d and %t, want 0, 0 and false", what, x, seg, a, b, ok)
	}
}

func wantVictim(t *testing.T, what string, x api.Table, seg int) {
	t.Helper()
	if i, ok := Victim(x); i != seg || !ok {
		t.Errorf("%s: Victim(%v) returned %d and %t, want %d", what, x, i, ok, seg)
	}
}

func wantNoVictim(t *testing.T, what string, x api.Table) {
	t.Helper()
	if i, ok := Victim(x); i != 0 || ok {
		t.Errorf("%s: Victim(%v) returned %d and %t, want 0 and false", what, x, i, ok)
	}
}

// wantMeant checks all calls with this table against the model, and that they do not change it.
func wantMeant(t *testing.T, what string, x api.Table) {
	t.Helper()
	before := cloned(x)
	for _, seg := range append(slices.Clone(far), len(x.Segs), len(x.Segs)+1) {
		if seg < 0 || seg >= len(x.Segs) {
			wantNoGain(t, what, x, seg)
		}
	}
	for seg := range x.Segs {
		if num, den, is := meantGain(x, seg); is {
			wantGain(t, what, x, seg, num, den)
		} else {
			wantNoGain(t, what, x, seg)
		}
	}
	if seg, is := meantVictim(x); is {
		wantVictim(t, what, x, seg)
	} else {
		wantNoVictim(t, what, x)
	}
	wantMost(t, what, x)
	if !slices.Equal(x.Pages, before.Pages) || !slices.Equal(x.Segs, before.Segs) {
		t.Errorf("%s: the table %v was changed to %v", what, before, x)
	}
}

// wantMost checks P11.3: that no segment has a greater gain than the victim, and that there is one if a full segment has a dead slot.
func wantMost(t *testing.T, what string, x api.Table) {
	t.Helper()
	victim, ok := Victim(x)
	num, den, is := Gain(x, victim)
	if ok && !is {
		t.Errorf("%s: of %v the victim is %d, which has no gain", what, x, victim)
	}
	for seg, s := range x.Segs {
		if !ok && s.State == api.SegFull && table.May(x) && table.Live(x, seg) < x.Slots {
			t.Errorf("%s: the full segment %d of %v has a dead slot, but there is no victim", what, seg, x)
		}
		a, b, gains := Gain(x, seg)
		if gains && (!is || big.NewRat(int64(a), int64(b)).Cmp(big.NewRat(int64(num), int64(den))) > 0) {
			t.Errorf("%s: of %v the victim is %d with the gain %d/%d, but %d has the gain %d/%d", what, x, victim, num, den, seg, a, b)
		}
	}
}
