package wal

import (
	"math"
	"slices"
	"strconv"
	"testing"

	"bobbin/api"
	"bobbin/disk"
)

// P8.2 and P8.3: the chapter's example.
func TestExample(t *testing.T) {
	d := device(t, 4)
	l := logOf(t, d, 0, 4, 1, 0, 0)
	wantLSN(t, "RecBegin", l, api.Rec{Kind: api.RecBegin}, 0)
	wantLSN(t, "RecCommit", l, api.Rec{Kind: api.RecCommit}, 1)
	wantForced(t, "example", l)
	wantLSN(t, "after Force", l, bare, 256)
	if n := l.Durable(); n != 256 {
		t.Errorf("Durable returned %d, want 256", n)
	}
}

// P8.1: a new log has no buffered records, and what is before next is durable. Nothing is done to the device.
func TestNew(t *testing.T) {
	for _, c := range []struct{ base, n, epoch, start, next int }{
		{0, 2, 1, 0, 0},
		{0, 10, 1, 0, 0},
		{8, 2, 255, 0, 0},
		{3, 4, 7, 5, 9},
		{3, 4, 7, 6, 9},
		{3, 4, 7, 9, 9},
		{0, 10, 1, 1<<24 - 11, 1<<24 - 1},
		{0, 10, 1, 1<<24 - 1, 1<<24 - 1},
	} {
		d := device(t, 10)
		d.Arm(0)
		l := logOf(t, d, c.base, c.n, c.epoch, c.start, c.next)
		wantNumbers(t, "new", l, 256*c.next, 256*c.next, c.start, c.n-(c.next-c.start))
		if d.Waits() != 0 || d.Dead() {
			t.Errorf("New wrote to the device")
		}
		wantErrno(t, "new: Force", l.Force(), api.OK)
	}
}

// P8.1, with R1: each argument has its range, however far it is beyond it, and the log is nil then.
func TestNewRanges(t *testing.T) {
	d := device(t, 10)
	ends := []int{math.MinInt, math.MinInt + 1, -1 << 32, -256, -10, -2, -1, 0, 1, 2, 3, 7, 8, 9, 10, 11, 254, 255, 256, 257, 65535, 1<<24 - 11, 1<<24 - 10, 1<<24 - 2, 1<<24 - 1, 1 << 24, 1 << 32, math.MaxInt - 9, math.MaxInt - 1, math.MaxInt}
	for _, a := range ends {
		for _, b := range ends {
			wantNew(t, d, a, b, 1, 0, 0)
			wantNew(t, d, a, 2, b, 0, 0)
			wantNew(t, d, 0, 10, 1, a, b)
			wantNew(t, d, 0, a, 1, 0, b)
			wantNew(t, d, 0, a, 1, b, 1<<24-1)
		}
	}
	for start := -1; start < 15; start++ {
		for next := -1; next < 15; next++ {
			for n := range 12 {
				wantNew(t, d, 0, n, 1, start, next)
			}
		}
	}
	wantNew(t, nil, 0, 2, 1, 0, 0)
	wantNew(t, &disk.Disk{}, 0, 2, 1, 0, 0)
	wantNew(t, device(t, 1), 0, 2, 1, 0, 0)
	wantNew(t, device(t, 2), 0, 2, 1, 0, 0)
	wantNew(t, device(t, 4096), 0, 4096, 1, 0, 4096)
	wantNew(t, device(t, 4096), 1, 4096, 1, 0, 0)
}

// wantNew checks that New accepts exactly what the document says.
func wantNew(t *testing.T, d *disk.Disk, base, n, epoch, start, next int) {
	t.Helper()
	l, e := New(d, base, n, epoch, start, next)
	if mayLog(d, base, n, epoch, start, next) {
		if l == nil || e != api.OK {
			t.Errorf("New(d, %d, %d, %d, %d, %d) returned the error %d", base, n, epoch, start, next, e)
		}
	} else if l != nil || e != api.ErrArg {
		t.Errorf("New(d, %d, %d, %d, %d, %d) returned %v and the error %d, want nil and ErrArg", base, n, epoch, start, next, l, e)
	}
}

// P8.1: the ranges once more, each by a number that the chapter names.
func TestNewBorders(t *testing.T) {
	d := device(t, 10)
	for _, c := range []struct {
		what                        string
		base, n, epoch, start, next int
		want                        api.Errno
	}{
		{"base 0", 0, 4, 1, 0, 0, api.OK},
		{"base negative", -1, 4, 1, 0, 0, api.ErrArg},
		{"n 2", 0, 2, 1, 0, 0, api.OK},
		{"n 1", 0, 1, 1, 0, 0, api.ErrArg},
		{"to the end of the device", 6, 4, 1, 0, 0, api.OK},
		{"beyond it", 7, 4, 1, 0, 0, api.ErrArg},
		{"beyond it by n", 6, 5, 1, 0, 0, api.ErrArg},
		{"epoch 0", 0, 4, 0, 0, 0, api.ErrArg},
		{"epoch 255", 0, 4, 255, 0, 0, api.OK},
		{"epoch 256", 0, 4, 256, 0, 0, api.ErrArg},
		{"start negative", 0, 4, 1, -1, 0, api.ErrArg},
		{"start is next", 0, 4, 1, 3, 3, api.OK},
		{"start after next", 0, 4, 1, 4, 3, api.ErrArg},
		{"the greatest next", 0, 4, 1, 1<<24 - 2, 1<<24 - 1, api.OK},
		{"next beyond it", 0, 4, 1, 1<<24 - 1, 1 << 24, api.ErrArg},
		{"a full ring", 0, 4, 1, 3, 7, api.OK},
		{"more than the ring", 0, 4, 1, 3, 8, api.ErrArg},
	} {
		if _, e := New(d, c.base, c.n, c.epoch, c.start, c.next); e != c.want {
			t.Errorf("%s: New returned the error %d, want %d", c.what, e, c.want)
		}
	}
}

// P8.1: the chapter does not except dead devices: the log is there, and its first write fails.
func TestNewOnADeadDevice(t *testing.T) {
	d := device(t, 4)
	d.Arm(0)
	d.Sync()
	l := logOf(t, d, 0, 4, 1, 0, 0)
	wantErrno(t, "nothing to force", l.Force(), api.OK)
	wantLSN(t, "buffered", l, bare, 0)
	wantErrno(t, "Force", l.Force(), api.ErrDead)
	wantNumbers(t, "after Force", l, 256, 0, 0, 3)
}

// P8.2: the LSNs of records that share a sector, and of those that do not fit any more. Nothing is written before that, and nothing is synced.
func TestAppendFills(t *testing.T) {
	d := device(t, 8)
	l := logOf(t, d, 2, 5, 9, 3, 4)
	for i, want := range []int{1024, 1025, 1026} {
		wantLSN(t, "the first sector", l, most(), want)
		wantNumbers(t, "the first sector", l, 1280, 1024, 3, 3)
		if d.Waits() != 0 {
			t.Errorf("record %d was written at once", i)
		}
	}
	wantLSN(t, "the second sector", l, most(), 1280)
	wantNumbers(t, "the second sector", l, 1536, 1024, 3, 2)
	wantSectors(t, "the first one is written", d, 1, map[int][]byte{6: sectorOf(api.Batch{Epoch: 9, Seq: 4, From: 4, L: []api.Rec{most(), most(), most()}})})
	wantLSN(t, "one that fits", l, bare, 1281)
	wantLSN(t, "and another one", l, most(), 1282)
	wantLSN(t, "and the last one", l, most(), 1283)
	wantLSN(t, "the third sector", l, most(), 1536)
	wantNumbers(t, "the third sector", l, 1792, 1024, 3, 1)
	wantSectors(t, "the second one is written", d, 2, map[int][]byte{
		6: sectorOf(api.Batch{Epoch: 9, Seq: 4, From: 4, L: []api.Rec{most(), most(), most()}}),
		2: sectorOf(api.Batch{Epoch: 9, Seq: 5, From: 4, L: []api.Rec{most(), bare, most(), most()}}),
	})
	wantForced(t, "all", l)
	wantNumbers(t, "all", l, 1792, 1792, 3, 1)
	if d.Waits() != 0 {
		t.Errorf("after Force %d writes are pending", d.Waits())
	}
}

// wantSectors checks all sectors of a device: those that are not named contain zeros.
func wantSectors(t *testing.T, what string, d *disk.Disk, waits int, sectors map[int][]byte) {
	t.Helper()
	if d.Waits() != waits {
		t.Errorf("%s: %d writes are pending, want %d", what, d.Waits(), waits)
	}
	for i := range d.Len() {
		want := sectors[i]
		if want == nil {
			want = make([]byte, 256)
		}
		if s, e := d.Read(i); e != api.OK || !slices.Equal(s, want) {
			t.Errorf("%s: sector %d is %v, want %v", what, i, s, want)
		}
	}
}

// P8.2: 60 records share a sector, the next one does not, however short it is.
func TestAppendMany(t *testing.T) {
	d := device(t, 4)
	l := logOf(t, d, 0, 4, 1, 0, 0)
	for i := range 150 {
		wantLSN(t, "record "+strconv.Itoa(i), l, bare, i/60*256+i%60)
	}
	wantNumbers(t, "150 records", l, 768, 0, 0, 1)
	if d.Waits() != 2 {
		t.Errorf("%d writes are pending, want 2", d.Waits())
	}
}

// P8.2: records fill a sector up to the last byte, and one byte more begins the next sector.
func TestAppendToTheLastByte(t *testing.T) {
	for _, c := range []struct {
		what string
		last api.Rec
		want int
	}{
		{"to the last byte", bare, 6},
		{"a byte more", api.Rec{Kind: api.RecCommit}, 256},
	} {
		l := logOf(t, device(t, 4), 0, 4, 1, 0, 0)
		for range 3 {
			l.Append(most())
		}
		for _, r := range []api.Rec{{Kind: api.RecCommit}, bare, bare} {
			l.Append(r)
		}
		wantLSN(t, c.what, l, c.last, c.want)
	}
}

// P8.2: a record of each kind is kept as it is.
func TestAppendEveryKind(t *testing.T) {
	d := device(t, 4)
	l := logOf(t, d, 0, 4, 1, 0, 0)
	var want []api.Logged
	for i, r := range kinds() {
		wantLSN(t, "kind "+strconv.Itoa(r.Kind), l, r, i)
		want = append(want, api.Logged{LSN: i, R: r})
	}
	wantForced(t, "kinds", l)
	wantRead(t, "kinds", d, 0, 4, 0, want, 1, 1)
}

// P8.2, P1 and R2: a record that is not valid is refused, also by a full log, which would return ErrFull.
func TestAppendInvalid(t *testing.T) {
	d := device(t, 4)
	for _, l := range []*Log{logOf(t, d, 0, 4, 1, 0, 0), logOf(t, d, 0, 4, 1, 0, 4), logOf(t, d, 0, 4, 1, 1<<24-1, 1<<24-1), nil, {}} {
		for _, r := range wrongs() {
			wantRefused(t, "invalid", l, r, api.ErrArg)
		}
	}
	l := logOf(t, d, 0, 4, 1, 1, 4)
	wantLSN(t, "before", l, most(), 1024)
	for _, r := range wrongs() {
		wantRefused(t, "invalid, after a record", l, r, api.ErrArg)
	}
	wantLSN(t, "after", l, most(), 1025)
	wantLSN(t, "after", l, most(), 1026)
	for _, r := range wrongs() {
		wantRefused(t, "invalid, in a full log", l, r, api.ErrArg)
	}
	wantRefused(t, "valid, in a full log", l, most(), api.ErrFull)
}

// P8.2: in a ring without a free sector nothing is appended; Cut makes room.
func TestAppendFull(t *testing.T) {
	d := device(t, 4)
	l := logOf(t, d, 0, 4, 1, 3, 7)
	wantRefused(t, "full", l, bare, api.ErrFull)
	wantErrno(t, "Cut", l.Cut(4), api.OK)
	wantNumbers(t, "after Cut", l, 1792, 1792, 4, 1)
	for i := range 3 {
		wantLSN(t, "after Cut", l, most(), 1792+i)
	}
	wantRefused(t, "one sector is free, and two are needed", l, most(), api.ErrFull)
	wantLSN(t, "one that fits", l, bare, 1795)
	if d.Waits() != 0 {
		t.Errorf("%d writes are pending, want none", d.Waits())
	}
	wantErrno(t, "Cut", l.Cut(5), api.OK)
	wantLSN(t, "two are free", l, most(), 2048)
	wantNumbers(t, "two are free", l, 2304, 1792, 5, 0)
	wantForced(t, "full", l)
	wantNumbers(t, "full", l, 2304, 2304, 5, 0)
	wantRefused(t, "full again", l, bare, api.ErrFull)
	wantSectors(t, "what was written", d, 0, map[int][]byte{
		3: sectorOf(api.Batch{Epoch: 1, Seq: 7, From: 7, L: []api.Rec{most(), most(), most(), bare}}),
		0: sectorOf(api.Batch{Epoch: 1, Seq: 8, From: 7, L: []api.Rec{most()}}),
	})
}

// P8.2: a log of n sectors takes n of them, from wherever it starts, and not one more.
func TestAppendFillsTheRing(t *testing.T) {
	for n := 2; n < 8; n++ {
		for used := range n + 1 {
			l := logOf(t, device(t, 10), 2, n, 1, 5, 5+used)
			for i := used; i < n; i++ {
				wantNumbers(t, "before", l, 256*(5+i), 256*(5+i), 5, n-i)
				wantLSN(t, "not full", l, bare, 256*(5+i))
				wantNumbers(t, "buffered", l, 256*(6+i), 256*(5+i), 5, n-i-1)
				wantForced(t, "not full", l)
			}
			wantRefused(t, "full", l, bare, api.ErrFull)
		}
	}
}

// P8.2: the numbers of sectors end, and the last one, 2^24 - 1, is never written.
func TestAppendAtTheLastNumbers(t *testing.T) {
	const last = 1<<24 - 1
	l := logOf(t, device(t, 9), 0, 9, 255, last, last)
	wantRefused(t, "at the last number", l, bare, api.ErrFull)
	wantNumbers(t, "at the last number", l, 256*last, 256*last, last, 9)

	l = logOf(t, device(t, 9), 0, 9, 255, last-1, last-1)
	for i := range 3 {
		wantLSN(t, "one before it", l, most(), 256*(last-1)+i)
	}
	wantNumbers(t, "one before it", l, 256*last, 256*(last-1), last-1, 8)
	wantRefused(t, "one before it, and two are needed", l, most(), api.ErrFull)
	wantLSN(t, "one that fits", l, bare, 256*(last-1)+3)
	wantForced(t, "one before it", l)
	wantNumbers(t, "forced", l, 256*last, 256*last, last-1, 8)
	wantRefused(t, "at the last number", l, bare, api.ErrFull)

	d := device(t, 9)
	l = logOf(t, d, 0, 9, 255, last-2, last-2)
	for i, want := range []int{0, 1, 2, 256, 257, 258} {
		wantLSN(t, "two before it: "+strconv.Itoa(i), l, most(), 256*(last-2)+want)
	}
	wantRefused(t, "two are full", l, most(), api.ErrFull)
	wantForced(t, "two are full", l)
	wantSectors(t, "the last numbers", d, 0, map[int][]byte{
		(last - 2) % 9: sectorOf(api.Batch{Epoch: 255, Seq: last - 2, From: last - 2, L: []api.Rec{most(), most(), most()}}),
		(last - 1) % 9: sectorOf(api.Batch{Epoch: 255, Seq: last - 1, From: last - 2, L: []api.Rec{most(), most(), most()}}),
	})
	if s := mustRead(t, d, (last-1)%9); s[0] != 254 || s[1] != 255 || s[2] != 255 || s[3] != 255 {
		t.Errorf("the stamp is %v", s[:4])
	}
}

func mustRead(t *testing.T, d *disk.Disk, i int) []byte {
	t.Helper()
	s, e := d.Read(i)
	if e != api.OK {
		t.Fatalf("sector %d: error %d", i, e)
	}
	return s
}

// P8.2: if the device dies while the buffered records are written, the error is returned, and they are still buffered.
func TestAppendOnADyingDevice(t *testing.T) {
	d := device(t, 4)
	l := logOf(t, d, 0, 4, 1, 0, 0)
	for range 3 {
		l.Append(most())
	}
	d.Arm(0)
	wantRefused(t, "the device dies", l, most(), api.ErrDead)
	wantRefused(t, "the device is dead", l, most(), api.ErrDead)
	wantLSN(t, "one that fits", l, bare, 3)
	wantErrno(t, "Force", l.Force(), api.ErrDead)
	wantNumbers(t, "after all", l, 256, 0, 0, 3)
	if d.Waits() != 0 {
		t.Errorf("%d writes are pending, want none", d.Waits())
	}
}

// P8.2 and R2: a full log returns ErrFull, also on a dead device, which it does not reach.
func TestAppendFullOnADeadDevice(t *testing.T) {
	d := device(t, 2)
	full, almost := logOf(t, d, 0, 2, 1, 0, 2), logOf(t, d, 0, 2, 1, 0, 1)
	for range 3 {
		almost.Append(most())
	}
	d.Arm(0)
	d.Sync()
	wantRefused(t, "no sector", full, bare, api.ErrFull)
	wantRefused(t, "one sector", almost, most(), api.ErrFull)
}

// R3: the log neither changes a record nor sees later changes of it.
func TestAppendCopies(t *testing.T) {
	d := device(t, 4)
	l := logOf(t, d, 0, 4, 1, 0, 0)
	for range 4 {
		r := most()
		l.Append(r)
		if !same(api.Logged{R: r}, api.Logged{R: most()}) {
			t.Errorf("the record was changed to %v", r)
		}
		clear(r.Old.B)
		clear(r.New.B)
	}
	wantForced(t, "copied", l)
	wantRead(t, "copied", d, 0, 4, 0, []api.Logged{{LSN: 0, R: most()}, {LSN: 1, R: most()}, {LSN: 2, R: most()}, {LSN: 256, R: most()}}, 2, 1)
}

// P8.3: Force writes and syncs what there is, once: a device that would die at the next call is not reached.
func TestForceOnlyWhatIsNew(t *testing.T) {
	d := device(t, 4)
	l := logOf(t, d, 0, 4, 1, 0, 0)
	d.Arm(2)
	wantForced(t, "nothing", l)
	wantLSN(t, "a record", l, bare, 0)
	wantForced(t, "a write and a sync", l)
	wantNumbers(t, "forced", l, 256, 256, 0, 3)
	wantForced(t, "nothing", l)
	wantForced(t, "nothing", l)
	wantErrno(t, "the device", d.Sync(), api.ErrDead)
	wantForced(t, "nothing, on a dead device", l)
}

// P8.3: a Force with several written sectors and buffered records makes a write and a sync.
func TestForceSeveral(t *testing.T) {
	d := device(t, 6)
	l := logOf(t, d, 1, 5, 1, 0, 0)
	for range 8 {
		l.Append(most())
	}
	wantNumbers(t, "before", l, 768, 0, 0, 2)
	d.Arm(2)
	wantForced(t, "a write and a sync", l)
	wantNumbers(t, "forced", l, 768, 768, 0, 2)
	if d.Waits() != 0 {
		t.Errorf("%d writes are pending, want none", d.Waits())
	}
	wantErrno(t, "the device", d.Sync(), api.ErrDead)
}

// P8.3: if the write fails, nothing is written, and the records are buffered as before.
func TestForceWhoseWriteFails(t *testing.T) {
	d := device(t, 4)
	l := logOf(t, d, 0, 4, 1, 0, 0)
	for range 4 {
		l.Append(most())
	}
	d.Arm(0)
	for range 3 {
		wantErrno(t, "Force", l.Force(), api.ErrDead)
		wantNumbers(t, "after Force", l, 512, 0, 0, 2)
	}
	if d.Waits() != 1 {
		t.Errorf("%d writes are pending, want 1", d.Waits())
	}
	wantLSN(t, "one that fits", l, bare, 257)
}

// P8.3: if the sync fails, the records are written, but not known to be durable; the next Force tries again.
func TestForceWhoseSyncFails(t *testing.T) {
	d := device(t, 4)
	l := logOf(t, d, 0, 4, 1, 0, 0)
	l.Append(bare)
	d.Arm(1)
	for range 3 {
		wantErrno(t, "Force", l.Force(), api.ErrDead)
		wantNumbers(t, "after Force", l, 256, 0, 0, 3)
	}
	if d.Waits() != 1 {
		t.Errorf("%d writes are pending, want 1", d.Waits())
	}
	wantLSN(t, "the next sector", l, bare, 256)
}

// P8.3: records that are buffered are not durable, and neither are those that were written without a sync.
func TestDurable(t *testing.T) {
	d := device(t, 8)
	l := logOf(t, d, 0, 8, 2, 3, 5)
	wantNumbers(t, "new", l, 1280, 1280, 3, 6)
	l.Append(most())
	wantNumbers(t, "buffered", l, 1536, 1280, 3, 5)
	wantForced(t, "one", l)
	wantNumbers(t, "forced", l, 1536, 1536, 3, 5)
	for range 7 {
		l.Append(most())
	}
	wantNumbers(t, "two are written, and one is buffered", l, 2304, 1536, 3, 2)
	wantForced(t, "three", l)
	wantNumbers(t, "forced", l, 2304, 2304, 3, 2)
}

// P8.3: Cut sets the start, from the old one up to next, without the buffered records.
func TestCut(t *testing.T) {
	l := logOf(t, device(t, 8), 0, 8, 1, 3, 6)
	l.Append(bare)
	for _, seq := range []int{math.MinInt, -1, 0, 2, 7, 8, 1 << 24, math.MaxInt} {
		wantErrno(t, "Cut("+strconv.Itoa(seq)+")", l.Cut(seq), api.ErrArg)
		wantNumbers(t, "after an error", l, 1792, 1536, 3, 4)
	}
	wantErrno(t, "Cut(3)", l.Cut(3), api.OK)
	wantNumbers(t, "where it was", l, 1792, 1536, 3, 4)
	wantErrno(t, "Cut(5)", l.Cut(5), api.OK)
	wantNumbers(t, "further on", l, 1792, 1536, 5, 6)
	wantErrno(t, "Cut(4)", l.Cut(4), api.ErrArg)
	wantErrno(t, "Cut(6)", l.Cut(6), api.OK)
	wantNumbers(t, "at next", l, 1792, 1536, 6, 7)
	wantErrno(t, "Cut(7)", l.Cut(7), api.ErrArg)
	wantForced(t, "the buffered record", l)
	wantErrno(t, "Cut(7)", l.Cut(7), api.OK)
	wantNumbers(t, "empty", l, 1792, 1792, 7, 8)
}

// P8.3: Cut does nothing to the device, and not to what is durable.
func TestCutWritesNothing(t *testing.T) {
	d := device(t, 8)
	l := logOf(t, d, 0, 8, 1, 0, 0)
	for range 7 {
		l.Append(most())
	}
	d.Arm(0)
	wantErrno(t, "Cut(2)", l.Cut(2), api.OK)
	wantNumbers(t, "cut before it is durable", l, 768, 0, 2, 7)
	if d.Dead() || d.Waits() != 2 {
		t.Errorf("Cut wrote to the device")
	}
}

// P8.3: a nil log returns ErrArg, or 0.
func TestNil(t *testing.T) {
	var l *Log
	wantRefused(t, "nil", l, bare, api.ErrArg)
	wantErrno(t, "nil: Force", l.Force(), api.ErrArg)
	for _, seq := range []int{-1, 0, 1} {
		wantErrno(t, "nil: Cut", l.Cut(seq), api.ErrArg)
	}
	wantNumbers(t, "nil", l, 0, 0, 0, 0)
}

// R1: a log that New has not made has no sectors, and does not panic.
func TestZero(t *testing.T) {
	l := &Log{}
	for _, r := range append(kinds(), most()) {
		wantRefused(t, "zero", l, r, api.ErrFull)
	}
	wantErrno(t, "zero: Force", l.Force(), api.OK)
	wantErrno(t, "zero: Cut(0)", l.Cut(0), api.OK)
	wantErrno(t, "zero: Cut(1)", l.Cut(1), api.ErrArg)
	wantNumbers(t, "zero", l, 0, 0, 0, 0)
}

// R5: two logs on different devices know nothing of each other.
func TestLogsAreSeparate(t *testing.T) {
	a, b := logOf(t, device(t, 4), 0, 4, 1, 0, 0), logOf(t, device(t, 4), 0, 4, 1, 0, 0)
	for i, want := range []int{0, 1, 2, 256, 257, 258, 512} {
		wantLSN(t, "a, "+strconv.Itoa(i), a, most(), want)
		wantLSN(t, "b, "+strconv.Itoa(i), b, bare, i)
	}
	wantForced(t, "a", a)
	wantNumbers(t, "a", a, 768, 768, 0, 1)
	wantNumbers(t, "b", b, 256, 0, 0, 3)
}

// P8.1, P8.2, P8.3, P1 and R2: whatever is done to a log, each answer and each sector of the device is that of the model.
func FuzzLog(f *testing.F) {
	f.Add(uint8(4), 0, uint8(0), []byte{0, 0, 0, 0, 6, 0, 0, 0, 7, 0, 0, 0, 0, 0, 0})
	f.Add(uint8(2), 1<<24-5, uint8(2), []byte{0, 0, 8, 2, 0, 0, 0, 0, 6, 0, 0, 0, 0, 8, 1, 0, 0, 6})
	f.Add(uint8(7), 9, uint8(1), []byte{1, 60, 1, 60, 6, 1, 200, 9, 3, 1, 60, 6, 0, 0, 6, 8, 2, 3, 4})
	f.Add(uint8(3), 1<<24-1, uint8(0), []byte{0, 1, 2, 3, 4, 5, 6, 7, 8, 9, 10})
	f.Add(uint8(3), 5, uint8(9), []byte{5, 1, 5, 2, 0, 10, 3, 0, 0, 0, 6, 10, 1, 1, 0, 0, 0, 0, 0, 6, 0})
	f.Fuzz(func(t *testing.T, n uint8, next int, used uint8, program []byte) {
		d, other := device(t, 12), device(t, 12)
		base, size, epoch := 2, int(n)%9+2, 1
		start := next - int(used)%(size+1)
		wantNew(t, d, base, size, epoch, start, next)
		if !mayLog(d, base, size, epoch, start, next) {
			return
		}
		l, m := logOf(t, d, base, size, epoch, start, next), modelOf(other, base, size, epoch, start, next)
		program = program[:min(len(program), 400)] // longer ones only cost time
		p := &program
		for len(*p) > 0 {
			step(t, l, d, m, p)
			wantLike(t, "after a step", l, d, m)
			if d.Dead() {
				c := api.Crash{Keep: []bool{take(p)%2 == 1, take(p)%2 == 1}, Torn: take(p)%4 - 1, K: take(p)}
				d, other = d.Crash(c), other.Crash(c)
				got, end, last, _ := Read(d, base, size, m.start)
				want, wantEnd, wantLast := meant(other, base, size, m.start)
				if end != wantEnd || last != wantLast || !slices.EqualFunc(got, want, same) {
					t.Fatalf("Read returned %v, %d and %d, want %v, %d and %d", got, end, last, want, wantEnd, wantLast)
				}
				if epoch++; !mayLog(d, base, size, epoch, m.start, end) {
					return
				}
				l, m = logOf(t, d, base, size, epoch, m.start, end), modelOf(other, base, size, epoch, m.start, end)
			}
		}
	})
}

// take removes the first byte of a program, and returns it.
func take(p *[]byte) int {
	if len(*p) == 0 {
		return 0
	}
	b := (*p)[0]
	*p = (*p)[1:]
	return int(b)
}

// step does one thing to a log and its model, as the program says.
func step(t *testing.T, l *Log, d *disk.Disk, m *model, p *[]byte) {
	t.Helper()
	add := func(r api.Rec) {
		n, e := l.Append(r)
		want, wantE := m.append(r)
		if n != want || e != wantE {
			t.Fatalf("Append of %v returned %d and the error %d, want %d and %d", r, n, e, want, wantE)
		}
	}
	switch op := take(p) % 11; op {
	case 0:
		add(most())
	case 1:
		for range take(p) {
			add(bare)
		}
	case 2:
		add(clr(take(p) % 33))
	case 3:
		add(wrongs()[take(p)%len(wrongs())])
	case 4, 5:
		add(kinds()[take(p)%len(kinds())])
	case 6, 7:
		wantErrno(t, "Force", l.Force(), m.force())
	case 8, 9:
		seq := m.start + take(p)%8 - 1
		wantErrno(t, "Cut", l.Cut(seq), m.cut(seq))
	case 10:
		n := take(p)%6 - 1
		d.Arm(n)
		m.d.Arm(n)
	}
}
