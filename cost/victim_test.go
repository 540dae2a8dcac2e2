package cost

import (
	"math/big"
	"testing"

	"bobbin/api"
)

// permuted passes each order of l to see.
func permuted(l []want, see func(l []want)) {
	var swap func(n int)
	swap = func(n int) {
		if n == len(l) {
			see(l)
			return
		}
		for i := n; i < len(l); i++ {
			l[n], l[i] = l[i], l[n]
			swap(n + 1)
			l[n], l[i] = l[i], l[n]
		}
	}
	swap(0)
}

// P11.2: the segment with the greatest gain is the victim, wherever it is. It is neither the oldest one, nor the one with the fewest live images.
func TestVictimInEveryOrder(t *testing.T) {
	most := want{1, 40}
	l := []want{most, {0, 70}, {3, 0}, {2, 30}, {4, 0}} // 183/5, 124/4, 101/7, 142/6, none
	permuted(l, func(l []want) {
		x := tableOf(t, 4, 100, l...)
		for i, w := range l {
			if w == most {
				wantVictim(t, "in another order", x, i)
			}
		}
		wantMeant(t, "in another order", x)
	})
}

// P11.2: of several segments with the greatest gain the first one is the victim, also if the fractions are not the same.
func TestVictimFirstOfSeveral(t *testing.T) {
	l := []want{{0, 98}, {1, 96}, {2, 92}, {3, 80}, {3, 81}} // 12/4, 15/5, 18/6, 21/7 and 20/7
	permuted(l, func(l []want) {
		x := tableOf(t, 4, 100, l...)
		first := 0
		if l[0].age == 81 {
			first = 1
		}
		wantVictim(t, "equal gains", x, first)
		wantMeant(t, "equal gains", x)
	})
	for n := 2; n <= 32; n++ {
		wantVictim(t, "the same gain", tableOf(t, 4, 9, make([]want, n)...), 0)
	}
}

// P11.2: the victim may be any of the segments, up to the last one of the greatest table.
func TestVictimMayBeAny(t *testing.T) {
	for n := 2; n <= 32; n++ {
		for i := range n {
			l := make([]want, n)
			for j := range l {
				l[j] = want{0, 5}
			}
			l[i].age = 4
			x := tableOf(t, 16, 9, l...)
			wantVictim(t, "one is older", x, i)
			wantMeant(t, "one is older", x)
		}
	}
}

// P11.2: the ones before and after the victim may be free, open, or live in all slots.
func TestVictimAmongOthers(t *testing.T) {
	others := []api.Segment{unused(), full(2, 0), open(1, 3)}
	for i := range 4 {
		x := api.Table{Pages: []api.Place{none, none}, Slots: 2, Now: 9}
		x.Segs = append(append(append(x.Segs, others[:i]...), full(2, 9)), others[i:]...)
		for j, s := range x.Segs {
			if s == full(2, 0) {
				x.Pages = []api.Place{place(j, 1, 5), place(j, 0, 5)}
			}
		}
		wantVictim(t, "the only one with a gain", x, i)
		wantMeant(t, "the only one with a gain", x)
	}
}

// P11.2 and P11.3: there is no victim if no segment is full, or if all slots of the full ones are live.
func TestNoVictim(t *testing.T) {
	segs := []api.Segment{unused(), full(2, 1), unused(), open(1, 3), full(2, 0)}
	live := []api.Place{place(1, 0, 5), place(4, 1, 5), place(1, 1, 5), none, place(4, 0, 5)}
	for _, x := range []api.Table{
		{Pages: []api.Place{none}, Segs: []api.Segment{unused(), unused()}, Slots: 1},
		{Pages: []api.Place{none}, Segs: []api.Segment{unused(), open(1, 0)}, Slots: 2, Now: 9},
		{Pages: []api.Place{place(1, 0, 5)}, Segs: []api.Segment{unused(), open(3, 0)}, Slots: 4, Now: 9},
		{Pages: []api.Place{place(0, 0, 5), place(1, 0, 5)}, Segs: []api.Segment{full(1, 0), full(1, 0)}, Slots: 1, Now: 9},
		{Pages: live, Segs: segs, Slots: 2, Now: 9},
	} {
		wantNoVictim(t, "no segment has a gain", x)
		wantMeant(t, "no segment has a gain", x)
	}
	for i, p := range live {
		x := api.Table{Pages: append([]api.Place{none}, live...), Segs: segs, Slots: 2, Now: 9}
		if p == none {
			continue
		}
		x.Pages[i+1] = none
		wantVictim(t, "one slot is dead", x, p.Seg)
	}
}

// rat returns the gain of a segment as a number.
func rat(slots, now int, w want) *big.Rat {
	return big.NewRat(int64((slots-w.live)*(now-w.age+1)), int64(slots+w.live))
}

// wantPair checks the victim of two segments that have gains, in both orders.
func wantPair(t *testing.T, slots, now int, a, b want) {
	t.Helper()
	c := rat(slots, now, a).Cmp(rat(slots, now, b))
	for i, l := range [][]want{{a, b}, {b, a}} {
		victim := i
		switch {
		case c == 0:
			victim = 0
		case c < 0:
			victim = 1 - i
		}
		wantVictim(t, "two segments", tableOf(t, slots, now, l...), victim)
	}
}

// P11.2: small gains are compared exactly, for all numbers of live images of two segments, and many ages.
func TestVictimOfTwo(t *testing.T) {
	for slots := 1; slots <= 6; slots++ {
		for i := range slots * slots {
			for j := range 15 * 15 {
				wantPair(t, slots, 14, want{i / slots, j / 15}, want{i % slots, j % 15})
			}
		}
	}
}

// nearest passes numbers of ticks with which a and b live images of 16 slots have gains that differ as little as they can, at most most.
func nearest(a, b, most int, see func(m, n int)) {
	// The gains of m and n ticks are equal if p*m is q*n.
	p, q := (16-a)*(16+b), (16-b)*(16+a)
	g := int(new(big.Int).GCD(nil, nil, big.NewInt(int64(p)), big.NewInt(int64(q))).Int64())
	p, q = p/g, q/g
	for n := 1; n <= p; n++ {
		for d := -1; d <= 1; d++ {
			m := (q*n + d) / p
			if p*m != q*n+d || m < 1 {
				continue
			}
			see(m, n)
			if k := (most - max(m, n)) / max(p, q); k > 0 {
				see(m+k*q, n+k*p)
			}
		}
	}
}

// P11.2: gains are compared exactly, also the greatest ones: if they are equal, and if they differ as little as they can.
func TestVictimOfNearestGains(t *testing.T) {
	const oldest = maxNow + 1 // the ticks of a segment whose Age is 0
	for i := range 16 * 16 {
		a, b := i/16, i%16
		if a+b > 16 {
			continue
		}
		for _, most := range []int{1000, 1 << 32, oldest} {
			nearest(a, b, most, func(m, n int) {
				wantPair(t, 16, maxNow, want{a, oldest - m}, want{b, oldest - n})
			})
		}
	}
}
