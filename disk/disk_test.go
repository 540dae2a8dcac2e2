package disk

import (
	"math"
	"testing"

	"bobbin/api"
)

// P3.1: a number of sectors that no device has is ErrArg.
func TestNewRefusesOtherNumbers(t *testing.T) {
	for _, n := range []int{math.MinInt, -4096, -2, -1, 0, 4097, 4098, 8192, 1 << 32, 1<<32 + 1, math.MaxInt} {
		if d, e := New(n); d != nil || e != api.ErrArg {
			t.Errorf("New(%d): got %v and error %d, want none and %d", n, d, e, api.ErrArg)
		}
	}
}

// P3.1: a new device has n sectors of zeros, all of them durable, and is not armed.
func TestNewIsZerosAndDurable(t *testing.T) {
	for _, n := range []int{1, 2, 3, 255, 256, 257, 4095, 4096} {
		zeros := make([][]byte, n)
		for i := range zeros {
			zeros[i] = make([]byte, 256)
		}
		d := device(t, n)
		wantDisk(t, "New", d, 0, zeros...)
		wantDurable(t, "New", d, zeros...)
		wantNotArmed(t, "New", d)
	}
}

// P3.1: the places of a device are those from 0 to the last one; others are ErrNone.
func TestPlaces(t *testing.T) {
	for _, n := range []int{1, 2, 300, 4096} {
		d := device(t, n)
		for _, i := range []int{math.MinInt, -4096, -n, -2, -1, n, n + 1, n + 256, 4096, 4097, 1 << 32, math.MaxInt} {
			wantNotRead(t, "no such place", d, i, api.ErrNone)
			wantErrno(t, "Write at no such place", d.Write(i, of(1)), api.ErrNone)
		}
		wantWaits(t, "after such calls", d, 0)
		for b, i := range []int{0, n / 2, n - 1} {
			written(t, d, i, of(byte(b)))
			wantSector(t, "after a write", d, i, of(byte(b)))
		}
	}
}

// P3.1: each sector has what was written to it, and no other sector's bytes.
func TestSectorsAreSeparate(t *testing.T) {
	d := device(t, 4096)
	for i := range 4096 {
		s := counted(byte(i))
		s[255] = byte(i >> 8)
		written(t, d, i, s)
	}
	wantWaits(t, "after the writes", d, 4096)
	for i := range 4096 {
		s := counted(byte(i))
		s[255] = byte(i >> 8)
		wantSector(t, "pending", d, i, s)
	}
	synced(t, d)
	wantWaits(t, "after Sync", d, 0)
	for i := range 4096 {
		s := counted(byte(i))
		s[255] = byte(i >> 8)
		wantSector(t, "durable", d, i, s)
	}
}

// P3.1: what was written last is read, whether it is pending or durable, also if it is zeros or the same again.
func TestReadReturnsTheLastWrite(t *testing.T) {
	d := device(t, 2)
	for n, b := range []byte{1, 2, 2, 0, 3, 1} {
		written(t, d, 1, of(b))
		wantDisk(t, "pending", d, n+1, of(0), of(b))
	}
	synced(t, d)
	wantDisk(t, "durable", d, 0, of(0), of(1))
	written(t, d, 1, of(9))
	wantDisk(t, "pending over durable", d, 1, of(0), of(9))
	written(t, d, 0, counted(5))
	wantDisk(t, "both pending", d, 2, counted(5), of(9))
}

// P3.1: a sector that does not have 256 bytes is ErrArg and is not written.
func TestWriteRefusesOtherLengths(t *testing.T) {
	d := device(t, 2)
	written(t, d, 0, of(1))
	for _, length := range []int{0, 1, 128, 248, 254, 255, 257, 258, 512, 70000} {
		wantErrno(t, "Write of another length", d.Write(0, make([]byte, length)), api.ErrArg)
		wantErrno(t, "Write of another length", d.Write(1, make([]byte, length)), api.ErrArg)
	}
	wantErrno(t, "Write of nil", d.Write(1, nil), api.ErrArg)
	wantErrno(t, "Write of part of more bytes", d.Write(1, make([]byte, 300)[:255]), api.ErrArg)
	wantDisk(t, "after such calls", d, 1, of(1), of(0))
	written(t, d, 1, append(of(2), 3, 4)[:256])
	wantDisk(t, "after 256 of more bytes", d, 2, of(1), of(2))
}

// P3.1: Write is pending, Sync makes durable, and Sync without pending writes is no error.
func TestSyncMakesDurable(t *testing.T) {
	d := device(t, 2)
	synced(t, d)
	wantDisk(t, "after Sync of nothing", d, 0, of(0), of(0))
	written(t, d, 0, of(1))
	wantDurable(t, "before Sync", d, of(0), of(0))
	synced(t, d)
	wantDurable(t, "after Sync", d, of(1), of(0))
	written(t, d, 0, of(2))
	written(t, d, 1, of(3))
	written(t, d, 0, of(4))
	wantDurable(t, "before the next Sync", d, of(1), of(0))
	synced(t, d)
	wantDurable(t, "after the next Sync", d, of(4), of(3))
	synced(t, d)
	wantDisk(t, "after one more Sync", d, 0, of(4), of(3))
	wantDurable(t, "after one more Sync", d, of(4), of(3))
}

// P3.1 and R2: a dead device comes first, then a place that there is not, then the length.
func TestOrderOfErrors(t *testing.T) {
	d := device(t, 2)
	for _, i := range []int{-1, 2, math.MinInt, math.MaxInt} {
		for _, length := range []int{0, 255, 257} {
			wantErrno(t, "no place and no sector", d.Write(i, make([]byte, length)), api.ErrNone)
		}
	}
	d.Arm(0)
	wantErrno(t, "Sync that kills", d.Sync(), api.ErrDead)
	for _, i := range []int{-1, 0, 1, 2, math.MinInt, math.MaxInt} {
		wantNotRead(t, "dead", d, i, api.ErrDead)
		for _, length := range []int{0, 255, 256, 257} {
			wantErrno(t, "dead", d.Write(i, make([]byte, length)), api.ErrDead)
		}
	}
	wantErrno(t, "dead", d.Sync(), api.ErrDead)
}

// R3: what Write is given is neither changed nor kept, be it pending or durable.
func TestWriteOwnsItsSector(t *testing.T) {
	d := device(t, 2)
	s := counted(1)
	written(t, d, 0, s)
	written(t, d, 1, s)
	if string(s) != string(counted(1)) {
		t.Errorf("the argument was changed to %v", s)
	}
	clear(s)
	wantDisk(t, "pending, after a change of the argument", d, 2, counted(1), counted(1))
	wantDisk(t, "kept, after a change of the argument", d.Crash(api.Crash{Keep: []bool{true}, Torn: -1}), 0, counted(1), counted(1))
	s = counted(2)
	written(t, d, 0, s)
	synced(t, d)
	clear(s)
	wantDurable(t, "durable, after a change of the argument", d, counted(2), counted(1))
}

// R3: what Read returns belongs to the caller.
func TestReadOwnsItsSector(t *testing.T) {
	spoil := func(d *Disk, i int) {
		s, _ := d.Read(i)
		for n := range s {
			s[n] = 99
		}
		_ = append(s, 99)
	}
	d := device(t, 3)
	spoil(d, 0)
	wantDisk(t, "zeros", d, 0, of(0), of(0), of(0))
	wantDurable(t, "zeros", d, of(0), of(0), of(0))
	written(t, d, 1, of(1))
	before, _ := d.Read(1)
	spoil(d, 1)
	wantSector(t, "pending", d, 1, of(1))
	synced(t, d)
	spoil(d, 1)
	wantSector(t, "durable", d, 1, of(1))
	wantDurable(t, "durable", d, of(0), of(1), of(0))
	behind := d.Crash(api.Crash{})
	spoil(behind, 1)
	wantSector(t, "behind a crash", behind, 1, of(1))
	wantSector(t, "before a crash", d, 1, of(1))
	written(t, d, 1, of(2))
	if string(before) != string(of(1)) {
		t.Errorf("a later write changed what was read to %v", before)
	}
}

// R5: devices do not depend on each other.
func TestDevicesAreSeparate(t *testing.T) {
	a, b := device(t, 2), device(t, 2)
	written(t, a, 0, of(1))
	synced(t, a)
	a.Arm(0)
	wantErrno(t, "armed", a.Write(0, of(2)), api.ErrDead)
	wantDisk(t, "the other one", b, 0, of(0), of(0))
	wantNotArmed(t, "the other one", b)
	wantDisk(t, "a later one", device(t, 2), 0, of(0), of(0))
}

// P3.4: a nil device has no sectors, is dead, and stays so.
func TestNil(t *testing.T) {
	var d *Disk
	for _, arm := range []int{0, -1, 5, math.MinInt, math.MaxInt} {
		if d.Len() != 0 {
			t.Errorf("%d sectors, want 0", d.Len())
		}
		wantDead(t, "nil", d, true)
		wantWaits(t, "nil", d, 0)
		for _, i := range []int{-1, 0, 1, math.MinInt, math.MaxInt} {
			wantNotRead(t, "nil", d, i, api.ErrDead)
			wantErrno(t, "nil", d.Write(i, of(1)), api.ErrDead)
			wantErrno(t, "nil", d.Write(i, nil), api.ErrDead)
		}
		wantErrno(t, "nil", d.Sync(), api.ErrDead)
		d.Arm(arm)
	}
	for _, c := range append(crashes(1), api.Crash{}) {
		if x := d.Crash(c); x != nil {
			t.Errorf("Crash of nil: got %v, want nil", x)
		}
	}
}

// R1: no call on a Disk that New has not made panics; it has no sectors.
func TestZeroDisk(t *testing.T) {
	d := &Disk{}
	wantDisk(t, "zero Disk", d, 0)
	wantNotRead(t, "zero Disk", d, 0, api.ErrNone)
	wantErrno(t, "zero Disk", d.Write(0, of(1)), api.ErrNone)
	wantNotArmed(t, "zero Disk", d)
	wantDisk(t, "behind its crash", d.Crash(api.Crash{Keep: []bool{true}}), 0)
	d.Arm(0)
	wantErrno(t, "armed", d.Sync(), api.ErrDead)
	wantDead(t, "armed", d, true)
}
