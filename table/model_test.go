package table

import (
	"math"
	"reflect"
	"slices"
	"testing"

	"bobbin/api"
)

// limits, as the document says them.
const (
	maxAt  = 4294967295
	maxNow = 1099511627776
)

// none is the empty place.
var none = api.Place{Seg: -1, Slot: 0, At: 0}

// far are numbers that no table has a page, a segment, a slot or an At for.
var far = []int{math.MinInt, -maxNow, -maxAt - 1, -2, maxAt + 1, maxNow, maxNow + 1, math.MaxInt}

// open, full and unused are segments.
func open(used, age int) api.Segment { return api.Segment{State: api.SegOpen, Used: used, Age: age} }
func full(used, age int) api.Segment { return api.Segment{State: api.SegFull, Used: used, Age: age} }
func unused() api.Segment            { return api.Segment{State: api.SegFree} }

func place(seg, slot, at int) api.Place { return api.Place{Seg: seg, Slot: slot, At: at} }

// fresh returns a new table.
func fresh(t *testing.T, pages, segs, slots int) api.Table {
	t.Helper()
	x, e := New(pages, segs, slots)
	if e != api.OK {
		t.Fatalf("New(%d, %d, %d) returned the error %d", pages, segs, slots, e)
	}
	return x
}

// valids returns tables that are valid, among them those with the least and the greatest numbers.
func valids() []api.Table {
	most := api.Table{Slots: 16, Now: maxNow}
	for i := range 16 {
		most.Pages = append(most.Pages, place(31-i, 15-i, maxAt-i))
	}
	for i := range 32 {
		most.Segs = append(most.Segs, full(16, maxNow-i))
	}
	pages := slices.Repeat([]api.Place{none}, 16)
	segs := slices.Repeat([]api.Segment{unused()}, 32)
	return []api.Table{
		{Pages: []api.Place{none}, Segs: []api.Segment{unused(), unused()}, Slots: 1},
		{Pages: pages, Segs: segs, Slots: 16},
		{Pages: pages[:3], Segs: segs[:4], Slots: 2, Now: maxNow},
		{Pages: pages[:3], Segs: segs[:4], Slots: 2, Now: maxNow - 1},
		{Pages: []api.Place{place(0, 0, 0)}, Segs: []api.Segment{full(1, 0), unused()}, Slots: 1},
		{Pages: []api.Place{place(1, 0, 7)}, Segs: []api.Segment{full(1, 1), full(1, 2)}, Slots: 1, Now: 2},
		{Pages: []api.Place{place(0, 1, 9), none}, Segs: []api.Segment{full(2, 5), full(2, 6)}, Slots: 2, Now: 6},
		{Pages: []api.Place{place(0, 0, 10), none}, Segs: []api.Segment{open(1, 1), unused()}, Slots: 2, Now: 1},
		{Pages: []api.Place{place(1, 0, 12), place(0, 1, 11)}, Segs: []api.Segment{full(2, 2), open(1, 3)}, Slots: 2, Now: 3},
		{Pages: []api.Place{none, none}, Segs: []api.Segment{unused(), open(1, 3)}, Slots: 2, Now: 4},
		{Pages: []api.Place{place(4, 0, 3), none, place(1, 2, 3), place(4, 1, maxAt), place(1, 0, 0)}, Segs: []api.Segment{unused(), full(4, 8), unused(), full(4, 0), open(3, 9), unused()}, Slots: 4, Now: 9},
		{Pages: []api.Place{place(0, 0, 1), place(0, 1, 1), place(0, 2, 1), place(0, 3, 1)}, Segs: []api.Segment{full(4, 4), full(4, 0), unused()}, Slots: 4, Now: 9},
		{Pages: []api.Place{place(2, 2, 1), place(2, 0, 1), place(0, 1, 1)}, Segs: []api.Segment{full(3, 4), full(3, 0), full(3, 9)}, Slots: 3, Now: 9},
		{Pages: []api.Place{place(0, 15, 1), place(1, 14, 1)}, Segs: []api.Segment{full(16, 4), open(15, 5)}, Slots: 16, Now: maxNow - 1},
		most,
	}
}

// cloned returns a table that shares no memory with x.
func cloned(x api.Table) api.Table {
	x.Pages, x.Segs = slices.Clone(x.Pages), slices.Clone(x.Segs)
	return x
}

// valid is what the document says of May.
func valid(x api.Table) bool {
	if len(x.Pages) < 1 || len(x.Pages) > 16 || len(x.Segs) < 2 || len(x.Segs) > 32 || x.Slots < 1 || x.Slots > 16 || x.Now < 0 || x.Now > maxNow {
		return false
	}
	opens := 0
	for _, s := range x.Segs {
		switch {
		case s.Age < 0 || s.Age > x.Now:
			return false
		case s.State == api.SegFree && s.Used == 0 && s.Age == 0, s.State == api.SegFull && s.Used == x.Slots:
		case s.State == api.SegOpen && s.Used >= 1 && s.Used <= x.Slots-1:
			opens++
		default:
			return false
		}
	}
	seen := map[[2]int]bool{}
	for _, p := range x.Pages {
		if p.Seg == -1 && p.Slot == 0 && p.At == 0 {
			continue
		}
		if p.At < 0 || p.At > maxAt || p.Seg < 0 || p.Seg >= len(x.Segs) || x.Segs[p.Seg].State == api.SegFree || p.Slot < 0 || p.Slot >= x.Segs[p.Seg].Used || seen[[2]int{p.Seg, p.Slot}] {
			return false
		}
		seen[[2]int{p.Seg, p.Slot}] = true
	}
	return opens <= 1
}

// model is a valid table in another form: by segment and slot, which page's image is live there.
type model struct {
	pages, slots, now int
	segs              []api.Segment
	live              map[[2]int]image
}

type image struct{ page, at int }

func modelOf(x api.Table) *model {
	m := &model{pages: len(x.Pages), slots: x.Slots, now: x.Now, segs: slices.Clone(x.Segs), live: map[[2]int]image{}}
	for i, p := range x.Pages {
		if p.Seg >= 0 {
			m.live[[2]int{p.Seg, p.Slot}] = image{i, p.At}
		}
	}
	return m
}

func (m *model) table() api.Table {
	x := api.Table{Pages: slices.Repeat([]api.Place{none}, m.pages), Segs: m.segs, Slots: m.slots, Now: m.now}
	for k, v := range m.live {
		x.Pages[v.page] = place(k[0], k[1], v.at)
	}
	return x
}

// next returns a number less than 0 for the segment if there is none.
func (m *model) next() (int, int) {
	last := -1
	for i := len(m.segs) - 1; i >= 0; i-- {
		switch m.segs[i].State {
		case api.SegOpen:
			return i, m.segs[i].Used
		case api.SegFree:
			last = i
		}
	}
	return last, 0
}

// move makes the image in this slot that of the page, in place of the one that it had.
func (m *model) move(page int, to [2]int, at int) {
	m.drop(page)
	m.live[to] = image{page, at}
}

func (m *model) drop(page int) {
	for k, v := range m.live {
		if v.page == page {
			delete(m.live, k)
		}
	}
}

// slotsOf returns the live slots of a segment in increasing order.
func (m *model) slotsOf(seg int) []int {
	var l []int
	for slot := range m.slots {
		if _, is := m.live[[2]int{seg, slot}]; is {
			l = append(l, slot)
		}
	}
	return l
}

// hasPage and hasSeg report whether there is one of this number.
func (m *model) hasPage(page int) bool { return page >= 0 && page < m.pages }
func (m *model) hasSeg(seg int) bool   { return seg >= 0 && seg < len(m.segs) }

// The meant functions are what the document says of the calls, for any arguments.

func meantNext(x api.Table) (int, int, api.Errno) {
	if !valid(x) {
		return 0, 0, api.ErrArg
	}
	seg, slot := modelOf(x).next()
	if seg < 0 {
		return 0, 0, api.ErrFull
	}
	return seg, slot, api.OK
}

func meantPut(x api.Table, page, at int) (api.Table, api.Errno) {
	if !valid(x) {
		return api.Table{}, api.ErrArg
	}
	m := modelOf(x)
	seg, slot := m.next()
	switch {
	case !m.hasPage(page), at < 0, at > maxAt, m.now == maxNow:
		return api.Table{}, api.ErrArg
	case seg < 0:
		return api.Table{}, api.ErrFull
	}
	m.move(page, [2]int{seg, slot}, at)
	m.now++
	m.segs[seg] = open(slot+1, m.now)
	if slot+1 == m.slots {
		m.segs[seg].State = api.SegFull
	}
	return m.table(), api.OK
}

func meantSet(x api.Table, page int, p api.Place) (api.Table, api.Errno) {
	if !valid(x) {
		return api.Table{}, api.ErrArg
	}
	m := modelOf(x)
	switch {
	case !m.hasPage(page):
		return api.Table{}, api.ErrArg
	case p == none:
		m.drop(page)
		return m.table(), api.OK
	case !m.hasSeg(p.Seg), p.Slot < 0, p.Slot >= m.slots, p.At < 0, p.At > maxAt:
		return api.Table{}, api.ErrArg
	}
	to := [2]int{p.Seg, p.Slot}
	if v, is := m.live[to]; is && v.page != page {
		return api.Table{}, api.ErrState
	}
	m.move(page, to, p.At)
	s := &m.segs[p.Seg]
	if s.State == api.SegFree {
		s.Age = m.now
	}
	s.State, s.Used = api.SegFull, m.slots
	return m.table(), api.OK
}

func meantLive(x api.Table, seg int) int {
	if !valid(x) {
		return 0
	}
	return len(modelOf(x).slotsOf(seg))
}

func meantFrees(x api.Table) int {
	n := 0
	for _, s := range x.Segs {
		if s.State == api.SegFree && valid(x) {
			n++
		}
	}
	return n
}

func meantFree(x api.Table, seg int) (api.Table, api.Errno) {
	if !valid(x) {
		return api.Table{}, api.ErrArg
	}
	m := modelOf(x)
	switch {
	case !m.hasSeg(seg):
		return api.Table{}, api.ErrArg
	case m.segs[seg].State != api.SegFull, len(m.slotsOf(seg)) > 0:
		return api.Table{}, api.ErrState
	}
	m.segs[seg] = unused()
	return m.table(), api.OK
}

func meantSettle(x api.Table, number int) (api.Table, api.Errno) {
	if !valid(x) {
		return api.Table{}, api.ErrArg
	}
	m := modelOf(x)
	for i, s := range m.segs {
		l := m.slotsOf(i)
		switch {
		case len(l) == 0:
			m.segs[i] = unused()
		case i == number && l[len(l)-1] != m.slots-1:
			m.segs[i] = open(l[len(l)-1]+1, s.Age)
		default:
			m.segs[i] = full(m.slots, s.Age)
		}
	}
	return m.table(), api.OK
}

func wantErrno(t *testing.T, what string, got, want api.Errno) {
	t.Helper()
	if got != want {
		t.Errorf("%s: got the error %d, want %d", what, got, want)
	}
}

// same reports whether two tables are equal, where an empty list may be nil.
func same(a, b api.Table) bool {
	return slices.Equal(a.Pages, b.Pages) && slices.Equal(a.Segs, b.Segs) && a.Slots == b.Slots && a.Now == b.Now
}

func wantSame(t *testing.T, what string, got, want api.Table) {
	t.Helper()
	if !same(got, want) {
		t.Errorf("%s: got the table %v, want %v", what, got, want)
	}
}

// wantTable checks the results of a call without an error.
func wantTable(t *testing.T, what string, got api.Table, e api.Errno, want api.Table) {
	t.Helper()
	wantErrno(t, what, e, api.OK)
	wantSame(t, what, got, want)
	if e == api.OK && (!May(got) || !valid(got)) {
		t.Errorf("%s: the table %v is not valid, or May returned %t", what, got, May(got))
	}
}

// wantRefused checks the results of a call with an error.
func wantRefused(t *testing.T, what string, got api.Table, e, want api.Errno) {
	t.Helper()
	wantErrno(t, what, e, want)
	if !reflect.DeepEqual(got, api.Table{}) {
		t.Errorf("%s: with an error it returned the table %v", what, got)
	}
}

// wantNext checks the results of Next without an error.
func wantNext(t *testing.T, what string, x api.Table, seg, slot int) {
	t.Helper()
	if i, j, e := Next(x); i != seg || j != slot || e != api.OK {
		t.Errorf("%s: Next returned %d, %d and the error %d, want %d and %d", what, i, j, e, seg, slot)
	}
}

// wantNoNext checks the results of Next with an error.
func wantNoNext(t *testing.T, what string, x api.Table, want api.Errno) {
	t.Helper()
	if i, j, e := Next(x); i != 0 || j != 0 || e != want {
		t.Errorf("%s: Next returned %d, %d and the error %d, want 0, 0 and %d", what, i, j, e, want)
	}
}

// wantResult checks the results of a call that returns a table, which was given before and should return want, and that the table that is returned shares no memory with x.
func wantResult(t *testing.T, what string, x, before, got api.Table, e api.Errno, want api.Table, wantE api.Errno) {
	t.Helper()
	wantSame(t, what+": the argument", x, before)
	if wantE != api.OK {
		wantRefused(t, what, got, e, wantE)
		return
	}
	wantTable(t, what, got, e, want)
	scribble(got)
	wantSame(t, what+": the argument, after the result was changed", x, before)
}

// scribble changes all that the lists of x have room for.
func scribble(x api.Table) {
	for i := range cap(x.Pages) {
		x.Pages[:cap(x.Pages)][i] = place(77, 88, 99)
	}
	for i := range cap(x.Segs) {
		x.Segs[:cap(x.Segs)][i] = full(77, 88)
	}
}

// some returns the numbers around 0 to n-1, and n itself.
func some(n int) []int {
	l := []int{-1}
	for i := range n + 1 {
		l = append(l, i)
	}
	return l
}

// wantMeant checks each call with this table against the model, with the arguments that it has and with others.
func wantMeant(t *testing.T, what string, x api.Table, other ...int) {
	t.Helper()
	before := cloned(x)
	if May(x) != valid(x) {
		t.Fatalf("%s: May(%v) returned %t", what, x, May(x))
	}
	seg, slot, e := Next(x)
	if i, j, f := meantNext(x); seg != i || slot != j || e != f {
		t.Errorf("%s: Next(%v) returned %d, %d and the error %d, want %d, %d and %d", what, x, seg, slot, e, i, j, f)
	}
	if n := Frees(x); n != meantFrees(x) {
		t.Errorf("%s: Frees(%v) returned %d, want %d", what, x, n, meantFrees(x))
	}
	for _, i := range append(some(len(x.Segs)), other...) {
		if n := Live(x, i); n != meantLive(x, i) {
			t.Errorf("%s: Live(%v, %d) returned %d, want %d", what, x, i, n, meantLive(x, i))
		}
		got, e := Free(x, i)
		want, f := meantFree(x, i)
		wantResult(t, what+": Free", x, before, got, e, want, f)
		got, e = Settle(x, i)
		want, f = meantSettle(x, i)
		wantResult(t, what+": Settle", x, before, got, e, want, f)
	}
	wantMeantOfPages(t, what, x, other...)
}

// wantMeantOfPages checks Put and Set.
func wantMeantOfPages(t *testing.T, what string, x api.Table, other ...int) {
	t.Helper()
	before := cloned(x)
	for _, i := range append(some(len(x.Pages)), other...) {
		for _, at := range append([]int{-1, 0, 258, maxAt, maxAt + 1}, other...) {
			got, e := Put(x, i, at)
			want, f := meantPut(x, i, at)
			wantResult(t, what+": Put", x, before, got, e, want, f)
		}
		for _, p := range places(x) {
			got, e := Set(x, i, p)
			want, f := meantSet(x, i, p)
			wantResult(t, what+": Set", x, before, got, e, want, f)
		}
	}
}

// places returns places of which some, if x is valid, are in it, and others are not.
func places(x api.Table) []api.Place {
	l := []api.Place{none, {}, place(-1, 0, 1), place(-1, 1, 0), place(-2, 0, 0), place(0, -1, 0), place(0, 0, -1), place(0, 0, maxAt), place(0, 0, maxAt+1), place(0, x.Slots, 0), place(len(x.Segs), 0, 0), place(len(x.Segs)-1, x.Slots-1, 5)}
	l = append(l, x.Pages[:min(len(x.Pages), 3)]...)
	for i, s := range x.Segs[:min(len(x.Segs), 5)] {
		l = append(l, place(i, s.Used, 6), place(i, 0, 7), place(i, x.Slots-1, 8))
	}
	return l
}
