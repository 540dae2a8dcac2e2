package page

import (
	"bytes"
	"fmt"
	"maps"
	"math"
	"slices"
	"testing"

	"bobbin/api"
)

// text is a record as the tests write it.
type text struct {
	k int
	v string
}

// String is what a test tells of a record: values need not be texts.
func (r text) String() string {
	return fmt.Sprintf("%d=%q", r.k, r.v)
}

// value returns a value with these bytes.
func value(s string) api.Val {
	return api.Val{Is: true, B: []byte(s)}
}

// long returns n bytes, of which neighbours differ.
func long(n int) string {
	b := make([]byte, n)
	for i := range b {
		b[i] = byte(i*7 + 1)
	}
	return string(b)
}

// fresh returns a new page.
func fresh(t *testing.T, id int) []byte {
	t.Helper()
	p, e := New(id)
	if e != api.OK {
		t.Fatalf("New(%d) returned the error %d", id, e)
	}
	return p
}

// with returns p after the records were put in order.
func with(t *testing.T, p []byte, records ...text) []byte {
	t.Helper()
	for _, r := range records {
		q, e := Put(p, r.k, value(r.v))
		if e != api.OK {
			t.Fatalf("Put of the key %d with %d bytes returned the error %d", r.k, len(r.v), e)
		}
		p = q
	}
	return p
}

// without returns p after the records with these keys were removed.
func without(t *testing.T, p []byte, keys ...int) []byte {
	t.Helper()
	for _, k := range keys {
		q, e := Put(p, k, api.Val{})
		if e != api.OK {
			t.Fatalf("Put of the key %d without a value returned the error %d", k, e)
		}
		p = q
	}
	return p
}

// stamped returns p with the LSN.
func stamped(t *testing.T, p []byte, lsn int) []byte {
	t.Helper()
	q, e := Stamped(p, lsn)
	if e != api.OK {
		t.Fatalf("Stamped(%d) returned the error %d", lsn, e)
	}
	return q
}

// full returns a page with the ID 1 whose sizes add up to used, by records with keys from 0 on.
func full(t *testing.T, used int) ([]byte, []text) {
	t.Helper()
	var l []text
	for used > 0 {
		size := min(used, 36)
		if left := used - size; left > 0 && left < 4 {
			size -= 4
		}
		l = append(l, text{len(l), long(size - 4)})
		used -= size
	}
	return with(t, fresh(t, 1), l...), l
}

func wantSame(t *testing.T, what string, got, want []byte) {
	t.Helper()
	if !bytes.Equal(got, want) {
		t.Errorf("%s: got the bytes %v, want %v", what, got, want)
	}
}

// wantRefused checks the results of a call with an error.
func wantRefused(t *testing.T, what string, p []byte, got, want api.Errno) {
	t.Helper()
	if got != want || p != nil {
		t.Errorf("%s: got %d bytes and the error %d, want nothing and %d", what, len(p), got, want)
	}
}

func wantVal(t *testing.T, what string, p []byte, k int, want string) {
	t.Helper()
	if v := Get(p, k); !v.Is || string(v.B) != want {
		t.Errorf("%s: Get(%d) returned %v, want the value %q", what, k, v, want)
	}
}

func wantNone(t *testing.T, what string, p []byte, k int) {
	t.Helper()
	if v := Get(p, k); v.Is || v.B != nil {
		t.Errorf("%s: Get(%d) returned %v, want no value", what, k, v)
	}
}

func wantAll(t *testing.T, what string, p []byte, want ...text) {
	t.Helper()
	var got []text
	for _, r := range All(p) {
		got = append(got, text{r.K, string(r.V)})
	}
	if !slices.Equal(got, want) {
		t.Errorf("%s: All returned %v, want %v", what, got, want)
	}
}

// wantPage checks all that can be seen of a valid page with exactly these records, which are in increasing order.
func wantPage(t *testing.T, what string, p []byte, id, lsn int, records ...text) {
	t.Helper()
	if len(p) != 248 || !May(p) {
		t.Errorf("%s: %d bytes, and May returned %t, want 248 and true", what, len(p), May(p))
	}
	if ID(p) != id || LSN(p) != lsn {
		t.Errorf("%s: the ID is %d and the LSN %d, want %d and %d", what, ID(p), LSN(p), id, lsn)
	}
	wantAll(t, what, p, records...)
	used, keys := 0, map[int]bool{}
	for _, r := range records {
		used += 4 + len(r.v)
		keys[r.k] = true
		wantVal(t, what, p, r.k, r.v)
	}
	if Used(p) != used {
		t.Errorf("%s: Used returned %d, want %d", what, Used(p), used)
	}
	for _, r := range records {
		for _, k := range []int{r.k - 1, r.k + 1, r.k ^ 256, r.k + 65536, r.k - 65536} {
			if !keys[k] {
				wantNone(t, what, p, k)
			}
		}
	}
}

// wantNotValid checks what every call returns for bytes that are no valid page.
func wantNotValid(t *testing.T, what string, p []byte) {
	t.Helper()
	if May(p) || ID(p) != 0 || LSN(p) != 0 || Used(p) != 0 || len(All(p)) != 0 {
		t.Errorf("%s: May, ID, LSN, Used and All returned %t, %d, %d, %d, %v, want nothing", what, May(p), ID(p), LSN(p), Used(p), All(p))
	}
	for _, k := range []int{-1, 0, 1, 5, 65535, 65536, math.MinInt, math.MaxInt} {
		wantNone(t, what, p, k)
		for _, v := range []api.Val{{}, value(""), value("ab"), value(long(33)), value(long(300))} {
			q, e := Put(p, k, v)
			wantRefused(t, what+": Put", q, e, api.ErrArg)
		}
	}
	for _, lsn := range []int{-1, 0, 1, 1<<32 - 1, 1 << 32} {
		q, e := Stamped(p, lsn)
		wantRefused(t, what+": Stamped", q, e, api.ErrArg)
	}
}

// model is a page in its plainest form: its records in a map of Go's.
type model struct {
	id, lsn int
	records map[int]string
}

func (m *model) used() int {
	n := 0
	for _, v := range m.records {
		n += 4 + len(v)
	}
	return n
}

func (m *model) all() []text {
	var l []text
	for _, k := range slices.Sorted(maps.Keys(m.records)) {
		l = append(l, text{k, m.records[k]})
	}
	return l
}

// put changes the model if that is possible, and returns the error that Put should.
func (m *model) put(k int, v api.Val) api.Errno {
	if k < 0 || k > 65535 {
		return api.ErrArg
	}
	if !v.Is {
		delete(m.records, k)
		return api.OK
	}
	if len(v.B) > 32 {
		return api.ErrLong
	}
	before, there := m.records[k]
	m.records[k] = string(v.B)
	if m.used() <= 240 {
		return api.OK
	}
	delete(m.records, k)
	if there {
		m.records[k] = before
	}
	return api.ErrFull
}

// stamp changes the model if that is possible, and returns the error that Stamped should.
func (m *model) stamp(lsn int) api.Errno {
	if lsn < 0 || lsn > 1<<32-1 {
		return api.ErrArg
	}
	m.lsn = lsn
	return api.OK
}

// running is a page with its model.
type running struct {
	t    *testing.T
	p    []byte
	is   model
	left []byte // numbers that say what is still to be done
}

// next returns the next number, or 0 if there are no more.
func (r *running) next() int {
	if len(r.left) == 0 {
		return 0
	}
	b := r.left[0]
	r.left = r.left[1:]
	return int(b)
}

// key returns one of a few keys, some of which no record can have.
func (r *running) key() int {
	return []int{0, 1, 2, 3, 255, 256, 257, 512, 32767, 32768, 65279, 65280, 65534, 65535, -1, 65536}[r.next()%16]
}

// after goes on with the result of a call, which should have the error want, and checks that the call has not modified the page that it was given.
func (r *running) after(what string, was, q []byte, e, want api.Errno) {
	r.t.Helper()
	wantSame(r.t, what+": the argument", r.p, was)
	if want != api.OK {
		wantRefused(r.t, what, q, e, want)
		return
	}
	if e != api.OK {
		r.t.Fatalf("%s returned the error %d", what, e)
	}
	r.p = q
}

func (r *running) step() {
	was := bytes.Clone(r.p)
	switch r.next() % 5 {
	case 0:
		k := r.key()
		q, e := Put(r.p, k, api.Val{})
		r.after("Put of no value", was, q, e, r.is.put(k, api.Val{}))
	case 1:
		lsn := []int{-1, 0, 1, 256, 1<<32 - 1, 1 << 32}[r.next()%6]
		q, e := Stamped(r.p, lsn)
		r.after("Stamped", was, q, e, r.is.stamp(lsn))
	default:
		k, b := r.key(), []byte(long(r.next()%35))
		for i := range b {
			b[i] ^= byte(len(r.left))
		}
		q, e := Put(r.p, k, api.Val{Is: true, B: b})
		r.after("Put", was, q, e, r.is.put(k, api.Val{Is: true, B: b}))
	}
	wantPage(r.t, "a step", r.p, r.is.id, r.is.lsn, r.is.all()...)
}

// P5.1 to P5.4: whatever is put, removed and stamped, each answer is that of the model.
func FuzzPage(f *testing.F) {
	f.Add([]byte{7, 2, 5, 2, 2, 3, 0, 0, 5})
	f.Add([]byte{0, 1, 4, 1, 5, 1, 0, 2, 14, 3, 0, 15, 4, 3, 33, 4, 3, 34})
	f.Add([]byte{255, 2, 0, 32, 2, 1, 32, 2, 2, 32, 2, 3, 32, 2, 4, 32, 2, 5, 32, 2, 6, 21, 2, 6, 20, 3, 0, 32, 4, 7, 0, 0, 6, 4, 7, 0, 4, 8, 16, 4, 0, 31})
	f.Add(slices.Repeat([]byte{2, 13, 9, 3, 6, 30, 1, 3, 4, 1, 0, 0, 12, 2, 9, 32, 0, 6}, 9))
	f.Fuzz(func(t *testing.T, left []byte) {
		r := &running{t: t, is: model{records: map[int]string{}}, left: left}
		r.is.id = r.next() * 257
		r.p = fresh(t, r.is.id)
		for len(r.left) > 0 && !t.Failed() {
			r.step()
		}
	})
}

// P1, R1 and P5.1: for any bytes each call returns; if they are a valid page, its content keeps to the limits, and a new page with this content is the same bytes.
func FuzzBytes(f *testing.F) {
	f.Add([]byte{0}, 0)
	f.Add([]byte{0xb0, 7, 0, 1, 2, 3, 4, 2, 3, 0, 0, 5, 0, 2, 'a', 'b'}, 0)
	f.Add([]byte{0xb0, 7, 0, 1, 2, 3, 4, 2, 5, 0, 2, 'a', 'b', 3, 0, 0}, 0)
	f.Add([]byte{0xb0, 7, 0, 1, 2, 3, 4, 200, 3, 0, 0, 5, 0, 255, 'a', 'b'}, 1)
	f.Add([]byte{0xb0, 7, 0, 1, 2, 3, 4, 1, 3, 0, 0, 5, 0, 255, 'a', 'b'}, -1)
	f.Fuzz(func(t *testing.T, b []byte, more int) {
		p := make([]byte, 248+max(min(more, 10), -248))
		copy(p, b)
		was := bytes.Clone(p)
		if !May(p) {
			wantNotValid(t, "not valid", p)
		} else {
			wantRebuilt(t, p)
		}
		wantSame(t, "the argument", p, was)
	})
}

// wantRebuilt checks that a page can be made from what a valid page tells.
func wantRebuilt(t *testing.T, p []byte) {
	t.Helper()
	var l []text
	for _, r := range All(p) {
		l = append(l, text{r.K, string(r.V)})
	}
	wantPage(t, "valid", p, ID(p), LSN(p), l...)
	wantSame(t, "made again", stamped(t, with(t, fresh(t, ID(p)), l...), LSN(p)), p)
	if !slices.IsSortedFunc(l, func(a, b text) int { return a.k - b.k }) || Used(p) > 240 {
		t.Errorf("a valid page has the records %v, of the size %d", l, Used(p))
	}
}
