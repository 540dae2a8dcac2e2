package table

import (
	"strconv"
	"testing"

	"bobbin/api"
)

// P10.1 to P10.5, with R2 to R4: for valid tables each call returns what the model does, with arguments in and beyond their ranges.
func TestMeantOfValidTables(t *testing.T) {
	for i, x := range append(valids(), base()) {
		wantMeant(t, "the table "+strconv.Itoa(i), x, far...)
	}
}

// P1 and R1: tables that are not valid are refused by every call, also with arguments far beyond.
func TestMeantOfWrongTables(t *testing.T) {
	for _, w := range wrongs() {
		x := base()
		w.change(&x)
		if len(x.Segs) <= 33 {
			wantMeant(t, w.what, x, far...)
		}
	}
}

// call is a call that returns a table.
type call struct {
	name  string
	keeps bool // the places of all pages
	page  int  // the page whose place may change otherwise
	do    func(x api.Table) (api.Table, api.Errno)
}

// calls returns all calls with arguments that a table of these sizes could accept.
func calls(pages, segs, slots int) []call {
	var l []call
	for page := range pages {
		l = append(l, call{"Put", false, page, func(x api.Table) (api.Table, api.Errno) { return Put(x, page, 7) }})
		l = append(l, call{"Set", false, page, func(x api.Table) (api.Table, api.Errno) { return Set(x, page, none) }})
		for n := range segs * slots {
			p := place(n/slots, n%slots, 8)
			l = append(l, call{"Set", false, page, func(x api.Table) (api.Table, api.Errno) { return Set(x, page, p) }})
		}
	}
	for seg := range segs {
		l = append(l, call{"Free", true, 0, func(x api.Table) (api.Table, api.Errno) { return Free(x, seg) }})
	}
	for number := -1; number < segs; number++ {
		l = append(l, call{"Settle", true, 0, func(x api.Table) (api.Table, api.Errno) { return Settle(x, number) }})
	}
	return l
}

// wantKept checks P10.5 of one call from x to y: what is valid, the places that are kept, and the segments that are not freed.
func wantKept(t *testing.T, c call, x, y api.Table) {
	t.Helper()
	if !May(y) || !valid(y) {
		t.Fatalf("%s: from %v to %v, which is not valid", c.name, x, y)
	}
	for i, p := range y.Pages {
		if (c.keeps || i != c.page) && p != x.Pages[i] {
			t.Fatalf("%s: from %v to %v, the page %d has another place", c.name, x, y, i)
		}
		if p != none && y.Segs[p.Seg].State == api.SegFree {
			t.Fatalf("%s: from %v to %v, the segment %d is free", c.name, x, y, p.Seg)
		}
	}
}

// walk makes all calls, and after each of them all calls again, so many times, and passes each table that it meets to see, once.
func walk(t *testing.T, pages, segs, slots, steps int, see func(x api.Table)) {
	t.Helper()
	l := []api.Table{fresh(t, pages, segs, slots)}
	seen := map[string]bool{}
	for range steps {
		var next []api.Table
		for _, x := range l {
			for _, c := range calls(pages, segs, slots) {
				y, e := c.do(x)
				if e != api.OK {
					continue
				}
				wantKept(t, c, x, y)
				if k := key(y); !seen[k] {
					seen[k] = true
					next = append(next, y)
					see(y)
				}
			}
		}
		l = next
	}
}

// key is a text that tells tables of the same sizes apart.
func key(x api.Table) string {
	b := []byte(strconv.Itoa(x.Now))
	for _, n := range numbers(&x) {
		b = strconv.AppendInt(append(b, ' '), int64(*n), 10)
	}
	return string(b)
}

// P10.5: from new tables, all ways of so many calls lead to valid tables, in which each call returns what the model does.
func TestWalk(t *testing.T) {
	for _, c := range [][4]int{{1, 2, 1, 7}, {1, 2, 2, 6}, {2, 2, 1, 6}, {2, 2, 2, 5}, {1, 3, 2, 5}, {2, 3, 2, 3}, {3, 2, 2, 3}, {2, 2, 3, 3}} {
		n := 0
		walk(t, c[0], c[1], c[2], c[3], func(x api.Table) {
			if n++; !t.Failed() {
				wantMeant(t, "a walk", x)
			}
		})
		if n < 20 {
			t.Errorf("%v: the walk met only %d tables", c, n)
		}
	}
}

// numbersOf reads numbers from the bytes of the fuzzer; it returns 0 if there are no more.
type numbersOf struct{ left []byte }

func (r *numbersOf) next() int {
	if len(r.left) == 0 {
		return 0
	}
	b := r.left[0]
	r.left = r.left[1:]
	return int(b)
}

// pick returns a number below n, or less often one around, or far away.
func (r *numbersOf) pick(n int) int {
	switch b := r.next(); {
	case b >= 248:
		return far[b-248]
	case b >= 244:
		return n + b - 246
	case b >= 240:
		return b - 242
	default:
		return b % max(n, 1)
	}
}

// at returns an At, or a number that is none.
func (r *numbersOf) at() int {
	switch b := r.next(); {
	case b >= 248:
		return far[b-248]
	case b == 247:
		return -1
	case b >= 240:
		return maxAt - b + 240
	default:
		return b << (b % 25)
	}
}

// step makes one call and returns the table that the model names.
func (r *numbersOf) step(t *testing.T, x api.Table) api.Table {
	t.Helper()
	before := cloned(x)
	var got, want api.Table
	var e, f api.Errno
	c := call{name: "Put"}
	switch r.next() % 8 {
	case 0, 1, 2, 3:
		page, at := r.pick(len(x.Pages)), r.at()
		c.page = page
		got, e = Put(x, page, at)
		want, f = meantPut(x, page, at)
	case 4, 5:
		page, p := r.pick(len(x.Pages)), place(r.pick(len(x.Segs)), r.pick(x.Slots), r.at())
		if p.Slot == 3 {
			p = none
		}
		c.name, c.page = "Set", page
		got, e = Set(x, page, p)
		want, f = meantSet(x, page, p)
	case 6:
		seg := r.pick(len(x.Segs))
		c.name, c.keeps = "Free", true
		got, e = Free(x, seg)
		want, f = meantFree(x, seg)
	default:
		number := r.pick(len(x.Segs))
		c.name, c.keeps = "Settle", true
		got, e = Settle(x, number)
		want, f = meantSettle(x, number)
	}
	if f != api.OK {
		wantResult(t, c.name, x, before, got, e, want, f)
		return x
	}
	wantKept(t, c, x, want)
	wantResult(t, c.name, x, before, got, e, want, f)
	return want
}

// P10.2 to P10.5: whatever is done to a table of any sizes, each result is that of the model.
func FuzzSteps(f *testing.F) {
	f.Add([]byte{1, 0, 1, 0, 0, 10, 0, 1, 11, 0, 0, 12, 6, 0, 0, 1, 13, 6, 0, 7, 1})
	f.Add([]byte{3, 3, 3, 254, 0, 0, 1, 0, 1, 2, 4, 2, 3, 0, 5, 4, 2, 2, 2, 9, 7, 2, 0, 3, 240, 6, 1, 6, 0, 255, 5})
	f.Add([]byte{15, 30, 15, 0, 0, 3, 1, 1, 4, 2, 2, 5, 3, 3, 6, 4, 4, 7, 8, 9, 7, 7, 7, 7, 6, 6, 6, 6, 247, 1, 1, 0, 247})
	f.Add([]byte{1, 0, 0, 255, 0, 0, 1, 0, 1, 1, 0, 1, 1, 0, 0, 1, 6, 0, 0, 1, 1})
	f.Fuzz(func(t *testing.T, left []byte) {
		r := &numbersOf{left}
		x := fresh(t, 1+r.next()%16, 2+r.next()%31, 1+r.next()%16)
		if b := r.next(); b >= 250 {
			x.Now = maxNow - (255 - b)
		}
		for len(r.left) > 0 && !t.Failed() {
			x = r.step(t, x)
		}
		wantMeant(t, "at last", x)
	})
}

// anyTable returns a table that is valid or nearly so, as the bytes say.
func (r *numbersOf) anyTable() api.Table {
	x := api.Table{Slots: 1 + r.next()%16, Now: r.next()}
	segs := 2 + r.next()%6
	for range segs {
		switch b := r.next(); b % 4 {
		case 0:
			x.Segs = append(x.Segs, unused())
		case 1:
			x.Segs = append(x.Segs, open(1+b/4%max(x.Slots-1, 1), min(r.next(), x.Now)))
		default:
			x.Segs = append(x.Segs, full(x.Slots, min(r.next(), x.Now)))
		}
	}
	for range 1 + r.next()%5 {
		x.Pages = append(x.Pages, none)
		if b := r.next(); b > 64 {
			x.Pages[len(x.Pages)-1] = place(b%segs, r.next()%x.Slots, r.at())
		}
	}
	for range r.next() % 3 {
		l := numbers(&x)
		*l[r.next()%len(l)] = r.pick(5)
	}
	return x
}

// P1, R1 and P10.1 to P10.4: for any table, valid or not, each call returns what the model does.
func FuzzTable(f *testing.F) {
	f.Add([]byte{1, 2, 0, 2, 1, 1, 1, 1, 70, 0, 9, 71, 0, 12, 0})
	f.Add([]byte{3, 9, 4, 0, 2, 8, 0, 2, 0, 9, 9, 0, 4, 70, 0, 3, 0, 75, 2, 3, 76, 1, 250, 73, 0, 0, 0})
	f.Add([]byte{3, 9, 0, 2, 4, 1, 9, 2, 70, 1, 1, 71, 1, 1, 70, 0, 1, 1, 4, 3})
	f.Add([]byte{0, 0, 0, 2, 0, 0, 0, 66, 0, 0, 2, 0, 250, 1, 251})
	f.Fuzz(func(t *testing.T, left []byte) {
		wantMeant(t, "any table", (&numbersOf{left}).anyTable())
	})
}
