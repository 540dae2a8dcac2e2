package wal

import (
	"bytes"
	"math"
	"reflect"
	"slices"
	"testing"

	"bobbin/api"
	"bobbin/disk"
	"bobbin/rec"
)

// bare is the shortest record: it takes 2 bytes of a sector.
var bare = api.Rec{Kind: api.RecBegin}

// clr returns a record that takes 11 and n bytes of a sector.
func clr(n int) api.Rec {
	return api.Rec{Kind: api.RecClr, Tx: 3, Next: 258, Page: 1, Key: 515, New: api.Val{Is: true, B: long(n)}}
}

// most returns the record with the longest encoding: it takes 76 of the 237 bytes of a sector, so that three of them fit.
func most() api.Rec {
	return api.Rec{Kind: api.RecUpdate, Tx: 255, Prev: 1<<32 - 1, Page: 255, Key: 65535, Old: api.Val{Is: true, B: long(32)}, New: api.Val{Is: true, B: long(32)}}
}

// long returns n bytes, of which neighbours differ.
func long(n int) []byte {
	b := make([]byte, n)
	for i := range b {
		b[i] = byte(i*7 + 1)
	}
	return b
}

// kinds returns a record of each kind.
func kinds() []api.Rec {
	return []api.Rec{
		{Kind: api.RecUpdate, Tx: 1, Prev: 256, Page: 2, Key: 3, New: api.Val{Is: true, B: []byte("ab")}},
		{Kind: api.RecClr, Tx: 1, Next: 770, Page: 2, Key: 3},
		{Kind: api.RecCommit, Tx: 2},
		{Kind: api.RecAbort, Tx: 3},
		{Kind: api.RecEnd, Tx: 4},
		{Kind: api.RecMap, Page: 1, Seg: 2, Slot: 3, At: 258},
		{Kind: api.RecBegin},
		{Kind: api.RecTx, Tx: 1, State: 2, Prev: 3, Next: 4},
		{Kind: api.RecDirty, Page: 5, At: 6},
		{Kind: api.RecPlace, Page: 1, Seg: 2, Slot: 3, At: 258},
		{Kind: api.RecDone, At: 1<<32 - 1},
	}
}

// wrongs returns records that are not valid.
func wrongs() []api.Rec {
	return []api.Rec{
		{},
		{Kind: -1},
		{Kind: api.Recs},
		{Kind: api.RecBegin, Tx: 1},
		{Kind: api.RecEnd, Tx: 256},
		{Kind: api.RecDone, At: 1 << 32},
		{Kind: api.RecClr, New: api.Val{Is: true, B: long(33)}},
		{Kind: api.RecClr, New: api.Val{B: []byte{0}}},
		{Kind: math.MaxInt, At: math.MinInt},
	}
}

func device(t *testing.T, n int) *disk.Disk {
	t.Helper()
	d, e := disk.New(n)
	if e != api.OK {
		t.Fatalf("disk.New(%d) returned the error %d", n, e)
	}
	return d
}

func logOf(t *testing.T, d *disk.Disk, base, n, epoch, start, next int) *Log {
	t.Helper()
	l, e := New(d, base, n, epoch, start, next)
	if e != api.OK || l == nil {
		t.Fatalf("New(d, %d, %d, %d, %d, %d) returned %v and the error %d", base, n, epoch, start, next, l, e)
	}
	return l
}

// put appends n in so many bytes, little-endian.
func put(b []byte, n, width int) []byte {
	for range width {
		b = append(b, byte(n%256))
		n /= 256
	}
	return b
}

// packed is what the document says of the 248 bytes of a batch.
func packed(x api.Batch) []byte {
	b := put(nil, x.Epoch, 2)
	b = put(b, x.Seq, 4)
	b = put(b, x.From, 4)
	b = put(b, len(x.L), 1)
	for _, r := range x.L {
		c, _ := rec.Encode(r)
		b = append(put(b, len(c), 1), c...)
	}
	return append(b, make([]byte, 248-len(b))...)
}

// sealed returns the sector of 248 bytes and a stamp.
func sealed(stamp int, b []byte) []byte {
	return put(append(put(nil, stamp, 4), b...), stamp, 4)
}

// sectorOf is what the document says of the log sector of a batch.
func sectorOf(x api.Batch) []byte {
	return sealed(16777216*x.Epoch+x.Seq, packed(x))
}

// together reports whether records fit a sector: there are at most 60, and their bytes and lengths, with 11 bytes before them, are at most 248.
func together(l []api.Rec) bool {
	n := 11
	for _, r := range l {
		b, _ := rec.Encode(r)
		n += 1 + len(b)
	}
	return len(l) <= 60 && n <= 248
}

func sameVal(a, b api.Val) bool {
	return a.Is == b.Is && bytes.Equal(a.B, b.B)
}

// same reports whether two logged records are equal; an empty list of bytes may be nil or not.
func same(a, b api.Logged) bool {
	if a.LSN != b.LSN || !sameVal(a.R.Old, b.R.Old) || !sameVal(a.R.New, b.R.New) {
		return false
	}
	a.R.Old, a.R.New, b.R.Old, b.R.New = api.Val{}, api.Val{}, api.Val{}, api.Val{}
	return reflect.DeepEqual(a.R, b.R)
}

// model is a log in its plainest form, as the document describes it, with a device of its own.
type model struct {
	d                                         *disk.Disk
	base, n, epoch, from, start, next, synced int
	unsynced                                  bool
	buffer                                    []api.Rec
}

// mayLog is what the document says of the arguments of New.
func mayLog(d *disk.Disk, base, n, epoch, start, next int) bool {
	switch {
	case d == nil, base < 0, n < 2, n > d.Len(), base > d.Len(), base+n > d.Len():
		return false
	case epoch < 1, epoch > 255:
		return false
	case next < 0, start < 0, start > next, next > 16777215, next-start > n:
		return false
	}
	return true
}

func modelOf(d *disk.Disk, base, n, epoch, start, next int) *model {
	return &model{d: d, base: base, n: n, epoch: epoch, from: next, start: start, next: next, synced: next}
}

func (m *model) write() api.Errno {
	e := m.d.Write(m.base+m.next%m.n, sectorOf(api.Batch{Epoch: m.epoch, Seq: m.next, From: m.from, L: m.buffer}))
	if e == api.OK {
		m.next++
		m.buffer = nil
		m.unsynced = true
	}
	return e
}

func (m *model) append(r api.Rec) (int, api.Errno) {
	if !rec.May(r) {
		return 0, api.ErrArg
	}
	used := m.next - m.start
	if len(m.buffer) == 0 && (m.n == used || m.next+1 > 16777215) {
		return 0, api.ErrFull
	}
	if l := append(slices.Clone(m.buffer), r); together(l) {
		m.buffer = l
		return 256*m.next + len(l) - 1, api.OK
	}
	if m.n-used < 2 || m.next+2 > 16777215 {
		return 0, api.ErrFull
	}
	if e := m.write(); e != api.OK {
		return 0, e
	}
	m.buffer = []api.Rec{r}
	return 256 * m.next, api.OK
}

func (m *model) force() api.Errno {
	if len(m.buffer) > 0 {
		if e := m.write(); e != api.OK {
			return e
		}
	}
	if m.unsynced {
		if e := m.d.Sync(); e != api.OK {
			return e
		}
		m.unsynced = false
		m.synced = m.next
	}
	return api.OK
}

func (m *model) cut(seq int) api.Errno {
	if seq < m.start || seq > m.next {
		return api.ErrArg
	}
	m.start = seq
	return api.OK
}

// numbers is what Next, Durable, Start and Free return.
type numbers struct{ next, durable, start, free int }

func numbersOf(l *Log) numbers {
	return numbers{l.Next(), l.Durable(), l.Start(), l.Free()}
}

func (m *model) numbers() numbers {
	x := numbers{256 * m.next, 256 * m.synced, m.start, m.n - (m.next - m.start)}
	if len(m.buffer) > 0 {
		x.next += 256
		x.free--
	}
	return x
}

func wantNumbers(t *testing.T, what string, l *Log, next, durable, start, free int) {
	t.Helper()
	if x, want := numbersOf(l), (numbers{next, durable, start, free}); x != want {
		t.Errorf("%s: Next, Durable, Start and Free are %v, want %v", what, x, want)
	}
}

func wantErrno(t *testing.T, what string, got, want api.Errno) {
	t.Helper()
	if got != want {
		t.Errorf("%s: got the error %d, want %d", what, got, want)
	}
}

// wantLSN checks that a record is appended, with this LSN.
func wantLSN(t *testing.T, what string, l *Log, r api.Rec, want int) {
	t.Helper()
	if n, e := l.Append(r); n != want || e != api.OK {
		t.Errorf("%s: Append returned %d and the error %d, want %d", what, n, e, want)
	}
}

// wantRefused checks that a record is refused, and that the log is as before.
func wantRefused(t *testing.T, what string, l *Log, r api.Rec, want api.Errno) {
	t.Helper()
	before := numbersOf(l)
	if n, e := l.Append(r); n != 0 || e != want {
		t.Errorf("%s: Append returned %d and the error %d, want 0 and %d", what, n, e, want)
	}
	if after := numbersOf(l); after != before {
		t.Errorf("%s: Next, Durable, Start and Free were %v and are %v", what, before, after)
	}
}

// wantForced checks that the log is forced.
func wantForced(t *testing.T, what string, l *Log) {
	t.Helper()
	wantErrno(t, what+": Force", l.Force(), api.OK)
}

// wantSame checks that two devices are alike: what is durable, what was written last, and what is pending.
func wantSame(t *testing.T, what string, d, other *disk.Disk) {
	t.Helper()
	if d.Waits() != other.Waits() || d.Dead() != other.Dead() {
		t.Errorf("%s: %d writes are pending and it is dead: %t; want %d and %t", what, d.Waits(), d.Dead(), other.Waits(), other.Dead())
	}
	for _, c := range []api.Crash{{Torn: -1}, {Keep: []bool{true}, Torn: -1}} {
		a, b := d.Crash(c), other.Crash(c)
		for i := range b.Len() {
			got, _ := a.Read(i)
			want, _ := b.Read(i)
			if !bytes.Equal(got, want) {
				t.Fatalf("%s: sector %d is %v, want %v", what, i, got, want)
			}
		}
	}
}

// wantLike checks all that can be seen of a log and its device against the model.
func wantLike(t *testing.T, what string, l *Log, d *disk.Disk, m *model) {
	t.Helper()
	if x, want := numbersOf(l), m.numbers(); x != want {
		t.Fatalf("%s: Next, Durable, Start and Free are %v, want %v", what, x, want)
	}
	wantSame(t, what, d, m.d)
}

// parsed returns the batch of a sector, if it is the log sector seq of some epoch. It tries whether the bytes are those that the batch has.
func parsed(s []byte, seq int) (api.Batch, bool) {
	x := api.Batch{
		Epoch: int(s[4]) + int(s[5])<<8,
		Seq:   int(s[6]) + int(s[7])<<8 + int(s[8])<<16 + int(s[9])<<24,
		From:  int(s[10]) + int(s[11])<<8 + int(s[12])<<16 + int(s[13])<<24,
	}
	at := 15
	for range int(s[14]) {
		if at >= 252 || at+1+int(s[at]) > 252 {
			return x, false
		}
		r, e := rec.Decode(s[at+1 : at+1+int(s[at])])
		if e != api.OK {
			return x, false
		}
		x.L = append(x.L, r)
		at += 1 + int(s[at])
	}
	if x.Seq != seq || x.Epoch < 1 || x.Epoch > 255 || x.From > x.Seq || seq > 16777215 || !together(x.L) {
		return x, false
	}
	return x, bytes.Equal(s, sectorOf(x))
}

// meant is what the document says of Read of a device that is not dead, for valid arguments.
func meant(d *disk.Disk, base, n, from int) ([]api.Logged, int, int) {
	var l []api.Logged
	var last []api.Batch
	for len(last) < n {
		seq := from + len(last)
		s, _ := d.Read(base + seq%n)
		x, is := parsed(s, seq)
		if !is {
			break
		}
		if len(last) > 0 {
			y := last[len(last)-1]
			if x.Epoch < y.Epoch || x.Epoch == y.Epoch && x.From != y.From || x.Epoch > y.Epoch && x.From != seq {
				break
			}
		}
		last = append(last, x)
		for i, r := range x.L {
			l = append(l, api.Logged{LSN: 256*seq + i, R: r})
		}
	}
	if len(last) == 0 {
		return nil, from, 0
	}
	return l, from + len(last), last[len(last)-1].Epoch
}

// wantRead checks all results of Read.
func wantRead(t *testing.T, what string, d *disk.Disk, base, n, from int, want []api.Logged, wantEnd, wantEpoch int) {
	t.Helper()
	l, end, epoch, e := Read(d, base, n, from)
	if e != api.OK || end != wantEnd || epoch != wantEpoch || !slices.EqualFunc(l, want, same) {
		t.Errorf("%s: Read(d, %d, %d, %d) returned %v, %d, %d and the error %d, want %v, %d and %d", what, base, n, from, l, end, epoch, e, want, wantEnd, wantEpoch)
	}
}

// wantNotRead checks that Read returns an error and nothing else.
func wantNotRead(t *testing.T, what string, d *disk.Disk, base, n, from int, want api.Errno) {
	t.Helper()
	l, end, epoch, e := Read(d, base, n, from)
	if e != want || l != nil || end != 0 || epoch != 0 {
		t.Errorf("%s: Read(d, %d, %d, %d) returned %v, %d, %d and the error %d, want zero values and %d", what, base, n, from, l, end, epoch, e, want)
	}
}

// crashes returns ways to crash with up to n pending writes: every choice of those that are kept, without a torn one and with each of them torn at several places.
func crashes(n int) []api.Crash {
	var l []api.Crash
	for set := range 1 << n {
		keep := make([]bool, max(n, 1))
		for i := range keep {
			keep[i] = set>>i&1 == 1
		}
		l = append(l, api.Crash{Keep: keep, Torn: -1})
		for torn := range n {
			for _, k := range []int{1, 3, 4, 8, 100, 252, 253, 255} {
				l = append(l, api.Crash{Keep: keep, Torn: torn, K: k})
			}
		}
	}
	return l
}
