package lock

import (
	"slices"
	"testing"

	"bobbin/api"
)

// known tells apart the lists that a walk has met.
type known map[[6]api.Held]bool

// add reports whether the list is a new one, which has at most six locks.
func (k known) add(t *testing.T, l []api.Held) bool {
	var a [6]api.Held
	if copy(a[:], l) < len(l) {
		t.Fatalf("%d locks of transactions and resources that make six: %v", len(l), l)
	}
	if k[a] {
		return false
	}
	k[a] = true
	return true
}

// P12.1 to P12.4: all lists that grants and drops lead to, for a few transactions, resources and modes. All of them are safe, and have one lock for each transaction and resource.
func TestWalk(t *testing.T) {
	for _, c := range []struct {
		txs, ress int
		modes     []int
	}{
		{3, 1, []int{1, 2, 4, 8}},
		{2, 2, []int{1, 2, 12}},
		{2, 2, []int{3, 4, 8}},
		{3, 2, []int{1, 2}},
		{3, 2, []int{4, 8}},
		{2, 3, []int{1, 3}},
	} {
		met := known{}
		met.add(t, nil)
		left := [][]api.Held{nil}
		for len(left) > 0 && !t.Failed() {
			l := left[0]
			left = left[1:]
			for tx := 1; tx <= c.txs; tx++ {
				for res := api.Whole; res < c.ress-1; res++ {
					for _, mode := range c.modes {
						wantMeant(t, "a walk", l, tx, res, mode)
						if m, e := Grant(l, tx, res, mode); e == api.OK && met.add(t, m) {
							left = append(left, m)
						}
					}
				}
				if m := Drop(l, tx); met.add(t, m) {
					left = append(left, m)
				}
			}
			wantSafe(t, "a walk", l, true)
		}
		if len(met) < 30 {
			t.Errorf("the walk %v led to only %d lists", c, len(met))
		}
	}
}

// P12.1 to P12.4: a long run of grants and drops of eight transactions.
func TestRun(t *testing.T) {
	var l []api.Held
	n, most, granted, refused := 1, 0, 0, 0
	next := func(below int) int {
		n = n * 75 % 65537 // numbers that recur late
		return n * n % 65537 % below
	}
	for range 8000 {
		tx, res, mode := 1+next(8)*36, next(14)-1, 1<<next(4)
		if next(30) == 0 {
			l = Drop(l, tx)
		}
		m, e := Grant(l, tx, res, mode)
		switch want, f := meantGrant(l, tx, res, mode); {
		case e != f || !slices.Equal(m, want):
			t.Fatalf("Grant(%v, %d, %d, %d) returned %v and the error %d, want %v and %d", l, tx, res, mode, m, e, want, f)
		case e == api.OK:
			l = m
			granted++
		default:
			wantRefused(t, "a run", l, tx, res, mode, api.ErrState)
			refused++
		}
		if !Safe(l) {
			t.Fatalf("the locks %v are not safe", l)
		}
		most = max(most, len(l))
	}
	if granted < 1000 || refused < 1000 || most < 20 {
		t.Errorf("%d locks were granted, %d refused, and at most %d held", granted, refused, most)
	}
}

// P12.4: a lock that is held is granted again, alone or with the others that are held there, and nothing changes.
func TestHeldIsGrantedAgain(t *testing.T) {
	l := held(1, 7, 1, 2, 7, 1, 2, -1, 12, 3, 8, 15, 1, 9, 3)
	wantSafe(t, "these", l, true)
	for _, h := range l {
		for mode := 1; mode <= h.Mode; mode++ {
			if mode&h.Mode == mode {
				wantGranted(t, "again", l, h.Tx, h.Res, mode, l)
			}
		}
	}
}

// R5: the results depend only on the arguments, whatever was called before.
func TestNothingIsKept(t *testing.T) {
	a, b := held(1, 7, 1, 2, 7, 1), held(1, 7, 2)
	for range 3 {
		wantRefused(t, "readers", a, 1, 7, 2, api.ErrState)
		wantGranted(t, "the writer", b, 1, 7, 1, held(1, 7, 3))
		wantMeant(t, "readers", a, 2, 7, 1)
		wantMeant(t, "the writer", b, 2, 7, 1)
		wantMeant(t, "nothing", nil, 2, 7, 1)
	}
	a[1].Res = 8
	wantGranted(t, "changed", a, 1, 7, 2, held(1, 7, 3, 2, 8, 1))
}

// numbers reads numbers from the bytes of the fuzzer; it returns 0 if there are no more.
type numbers struct{ left []byte }

func (r *numbers) next() int {
	if len(r.left) == 0 {
		return 0
	}
	b := r.left[0]
	r.left = r.left[1:]
	return int(b)
}

// number returns one of least and the few numbers that follow it, most often, or else any number.
func (r *numbers) number(least, few int) int {
	b := r.next()
	if b < 240 {
		return least + b%few
	}
	return far[(b+r.next())%len(far)] + r.next()%3
}

// P1, R1 and P12.1 to P12.4: for any list and any arguments, each call returns what the model does.
func FuzzLock(f *testing.F) {
	f.Add([]byte{1, 1, 0, 1, 1, 2, 1, 2, 1, 1, 3, 1, 1, 2, 1, 0, 1})
	f.Add([]byte{0, 0, 4, 1, 0, 4, 2, 0, 8, 2, 1, 2, 1, 1, 1, 1, 0, 4})
	f.Add([]byte{1, 1, 1, 255, 3, 1, 2, 2, 2, 250, 0, 0, 1, 1, 1, 3, 3, 3})
	f.Add([]byte{1, 1, 255, 1, 1, 0, 1, 2, 1, 250, 1, 1, 2, 2, 2})
	f.Fuzz(func(t *testing.T, left []byte) {
		r := &numbers{left[:min(len(left), 200)]}
		tx, res, mode := r.number(1, 3), r.number(-1, 3), r.number(1, 15)
		var l []api.Held
		for len(r.left) > 0 {
			h := api.Held{Tx: r.number(1, 3), Res: r.number(-1, 3), Mode: r.number(0, 16)}
			// An element that clashes is left out at times, so that many of the lists are safe.
			if r.next()%8 == 0 || meantSafe(append(slices.Clone(l), h)) {
				l = append(l, h)
			}
		}
		wantMeant(t, "any list", l, tx, res, mode)
		for _, h := range l {
			wantMeant(t, "what is held", l, h.Tx, h.Res, h.Mode)
		}
		wantClash(t, "any modes", tx, mode, meantClash(tx, mode))
	})
}
