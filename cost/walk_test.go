package cost

import (
	"testing"

	"bobbin/api"
	"bobbin/table"
)

// call is a call of package table that returns a table.
type call func(x api.Table) (api.Table, api.Errno)

// calls returns the calls that a table of these sizes could accept.
func calls(pages, segs, slots int) []call {
	var l []call
	for page := range pages {
		l = append(l, func(x api.Table) (api.Table, api.Errno) { return table.Put(x, page, 7) })
		l = append(l, func(x api.Table) (api.Table, api.Errno) { return table.Set(x, page, none) })
		for n := range segs * slots {
			l = append(l, func(x api.Table) (api.Table, api.Errno) {
				return table.Set(x, page, place(n/slots, n%slots, 8))
			})
		}
	}
	for seg := range segs {
		l = append(l, func(x api.Table) (api.Table, api.Errno) { return table.Free(x, seg) })
		l = append(l, func(x api.Table) (api.Table, api.Errno) { return table.Settle(x, seg) })
	}
	return l
}

// fresh returns a new table.
func fresh(t *testing.T, pages, segs, slots int) api.Table {
	t.Helper()
	x, e := table.New(pages, segs, slots)
	if e != api.OK {
		t.Fatalf("table.New(%d, %d, %d) returned the error %d", pages, segs, slots, e)
	}
	return x
}

// P11.1 to P11.3: all tables that so many calls lead to from a new one.
func TestWalk(t *testing.T) {
	for _, c := range [][4]int{{1, 2, 1, 4}, {1, 3, 1, 4}, {2, 2, 2, 3}, {1, 3, 2, 3}, {2, 3, 2, 3}, {3, 2, 3, 2}} {
		l := []api.Table{fresh(t, c[0], c[1], c[2])}
		victims := 0
		for range c[3] {
			var next []api.Table
			for _, x := range l {
				for _, do := range calls(c[0], c[1], c[2]) {
					if y, e := do(x); e == api.OK {
						next = append(next, y)
					}
				}
			}
			l = next
			for _, x := range l {
				if wantMeant(t, "a walk", x); t.Failed() {
					return
				}
				if _, ok := Victim(x); ok {
					victims++
				}
			}
		}
		if victims == 0 {
			t.Errorf("%v: no table of the walk has a victim", c)
		}
	}
}

// cleaned returns the table after the images of the victim have been stored elsewhere, and the victim is free.
func cleaned(t *testing.T, x api.Table, seg int) api.Table {
	t.Helper()
	for page, p := range x.Pages {
		if p.Seg == seg {
			y, e := table.Put(x, page, p.At)
			if e != api.OK {
				t.Fatalf("the page %d of %v cannot be moved: the error %d", page, x, e)
			}
			x = y
		}
	}
	x, e := table.Free(x, seg)
	if e != api.OK {
		t.Fatalf("the victim %d of %v cannot be freed: the error %d", seg, x, e)
	}
	return x
}

// P11.2 and P11.3: if a victim is cleaned whenever fewer than two segments are free, there always is one, and images can be stored without end.
func TestCleaning(t *testing.T) {
	for _, c := range [][3]int{{1, 3, 1}, {4, 4, 2}, {16, 7, 4}, {16, 4, 16}, {16, 32, 1}, {5, 32, 16}} {
		x := fresh(t, c[0], c[1], c[2])
		n, cleanings := 1, 0
		for at := range 3000 {
			for table.Frees(x) < 2 {
				wantMeant(t, "nothing is left", x)
				seg, ok := Victim(x)
				if !ok || t.Failed() {
					t.Fatalf("%v: there is no victim in %v", c, x)
				}
				x = cleaned(t, x, seg)
				cleanings++
			}
			n = n * 75 % 65537 // numbers that recur late
			y, e := table.Put(x, n*n%65537%c[0], at)
			if e != api.OK {
				t.Fatalf("%v: Put returned the error %d", c, e)
			}
			x = y
		}
		if cleanings < 20 {
			t.Errorf("%v: there were only %d cleanings", c, cleanings)
		}
	}
}

// numbers reads numbers from the bytes of the fuzzer; it returns 0 if there are no more.
type numbers struct{ left []byte }

func (r *numbers) next() int {
	if len(r.left) == 0 {
		return 0
	}
	b := r.left[0]
	r.left = r.left[1:]
	return int(b)
}

// great returns a number from 0 to most, of any size.
func (r *numbers) great(most int) int {
	n := 0
	for range 1 + r.next()%6 {
		n = n<<8 | r.next()
	}
	return n % (most + 1)
}

// wide returns a number that may be beyond all limits.
func (r *numbers) wide() int {
	if b := r.next(); b < 2*len(far) {
		return far[b/2]
	}
	return r.next() - 2
}

// anyTable returns a table that is valid, or nearly so, as the bytes say.
func (r *numbers) anyTable() api.Table {
	x := api.Table{Slots: 1 + r.next()%16, Now: r.great(maxNow)}
	segs := 2 + r.next()%31
	for range segs {
		switch b := r.next(); {
		case b < 24:
			x.Segs = append(x.Segs, unused())
		case b < 32:
			x.Segs = append(x.Segs, open(1+b%max(x.Slots-1, 1), r.great(x.Now)))
		default:
			x.Segs = append(x.Segs, full(x.Slots, r.great(x.Now)))
		}
	}
	for range 1 + r.next()%16 {
		p := none
		if b := r.next(); b > 16 {
			p = place(b%segs, r.next()%x.Slots, r.next())
		}
		x.Pages = append(x.Pages, p)
	}
	r.spoil(&x)
	return x
}

// spoil changes some numbers of the table.
func (r *numbers) spoil(x *api.Table) {
	for range r.next() % 3 {
		p, s := &x.Pages[r.next()%len(x.Pages)], &x.Segs[r.next()%len(x.Segs)]
		l := []*int{&p.Seg, &p.Slot, &p.At, &s.State, &s.Used, &s.Age, &x.Slots, &x.Now}
		*l[r.next()%len(l)] = r.wide()
	}
}

// P1, R1 and P11.1 to P11.3: for any table, valid or not, each call returns what the model does.
func FuzzCost(f *testing.F) {
	f.Add([]byte{3, 0, 10, 1, 40, 0, 2, 40, 0, 0, 3, 34, 0, 35, 0, 35, 1, 35, 3})
	f.Add([]byte{15, 5, 1, 0, 0, 0, 0, 0, 3, 40, 5, 0, 255, 255, 255, 255, 255, 40, 5, 0, 255, 255, 255, 255, 250, 40, 0, 0, 25, 0, 1, 2, 36, 3, 1, 37, 4, 1})
	f.Add([]byte{3, 0, 10, 1, 40, 0, 2, 40, 0, 0, 0, 17, 0, 0, 1, 0, 1, 6, 250, 5})
	f.Add([]byte{0, 0, 9, 30, 40, 0, 9, 40, 0, 8, 40, 0, 7, 0, 41, 0, 3})
	f.Fuzz(func(t *testing.T, left []byte) {
		wantMeant(t, "any table", (&numbers{left}).anyTable())
	})
}
