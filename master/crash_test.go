package master

import (
	"strconv"
	"testing"

	"bobbin/api"
	"bobbin/disk"
)

// nos returns numbers of masters that are followed by one with other bytes of the stamp, in various places.
func nos() []int {
	return []int{1, 2, 3, 4, 254, 255, 256, 257, 65534, 65535, 65536, 16777214, 16777215, 16777216, 1<<31 - 2, 1<<31 - 1, 1 << 31, maxU32 - 2, maxU32 - 1}
}

// numbered returns a master with this No, whose other numbers depend on No and on salt.
func numbered(no, salt int) api.Master {
	return api.Master{No: no, Epoch: 1 + (no+salt)%255, Start: (7*no + salt) % (maxU24 + 1), Check: (13*no + 3*salt) % (maxU32 + 1)}
}

// wantEither checks that one of two masters is read, and returns which.
func wantEither(t *testing.T, what string, d *disk.Disk, a, b api.Master) api.Master {
	t.Helper()
	m, e := Read(d)
	if e != api.OK || m != a && m != b {
		t.Errorf("%s: Read returned %v and the error %d, want %v or %v", what, m, e, a, b)
	}
	return m
}

// torn returns the device after a crash during Write of m, of which the first k bytes are written.
func torn(t *testing.T, d *disk.Disk, m api.Master, k int) *disk.Disk {
	t.Helper()
	d.Arm(1)
	wantErrno(t, "Write of an armed device", Write(d, m), api.ErrDead)
	return d.Crash(api.Crash{Torn: 0, K: k})
}

// P9.3: a master is written, after others or as the first one, and then the next one only partially, by any number of bytes. One of the two is read: the first one as long as the last byte of the stamp that differs is not written, and the second one from then on.
func TestTorn(t *testing.T) {
	for _, no := range nos() {
		for from := max(no-2, 1); from <= no; from++ {
			a, b := numbered(no, 0), numbered(no+1, 9)
			for k := range 257 {
				d := device(t, 2)
				for n := from; n <= no; n++ {
					wantErrno(t, "before", Write(d, numbered(n, 0)), api.OK)
				}
				old, _ := d.Read((no + 1) % 2)
				d = torn(t, d, b, k)
				whole := true
				for i := k; i < 256; i++ {
					whole = whole && old[i] == sectorOf(b)[i]
				}
				if whole {
					wantRead(t, "whole, "+strconv.Itoa(k), d, b)
				} else {
					wantRead(t, "torn, "+strconv.Itoa(k), d, a)
				}
			}
		}
	}
}

// P9.3: after a crash the number of the master that was torn is used again, with other numbers beside it, and is torn once more. One of the two is read each time, and what is there at the end can be followed.
func TestTornAgain(t *testing.T) {
	places := []int{0, 1, 2, 3, 4, 5, 8, 9, 12, 14, 16, 18, 20, 100, 251, 252, 253, 254, 255, 256}
	for _, no := range nos() {
		if no+1 > maxU32-2 {
			continue
		}
		for _, j := range places {
			for _, k := range places {
				what := strconv.Itoa(no) + ", torn at " + strconv.Itoa(j) + " and " + strconv.Itoa(k)
				d := device(t, 2)
				for n := max(no-2, 1); n <= no; n++ {
					wantErrno(t, "before", Write(d, numbered(n, 0)), api.OK)
				}
				last := numbered(no, 0)
				for salt, cut := range []int{j, k} {
					next := numbered(last.No+1, salt+1)
					d = torn(t, d, next, cut)
					last = wantEither(t, what, d, last, next)
				}
				next := numbered(last.No+1, 7)
				wantErrno(t, what, Write(d, next), api.OK)
				wantRead(t, what, d, next)
			}
		}
	}
}

// P9.3: a device dies at every write and sync of a row of masters, with what is pending kept or lost. The master that was written last is read, or the one after it, and none only before the first one is written.
func TestCrashAtEveryStep(t *testing.T) {
	for _, first := range nos() {
		for n := range 10 {
			for _, c := range []api.Crash{{Torn: -1}, {Keep: []bool{true}, Torn: -1}, {Keep: []bool{true, false}, Torn: 1, K: 9}} {
				d := device(t, 3)
				d.Arm(n)
				var last api.Master
				no := first
				for no <= maxU32 && Write(d, numbered(no, 0)) == api.OK {
					last = numbered(no, 0)
					no++
				}
				if !d.Dead() {
					continue
				}
				kept := n%2 == 1 && len(c.Keep) > 0
				switch d = d.Crash(c); {
				case kept:
					wantRead(t, "kept", d, numbered(no, 0))
				case last.No > 0:
					wantRead(t, "lost", d, last)
				default:
					wantNotRead(t, "lost", d, api.ErrNone)
				}
			}
		}
	}
}

// P9.3: whatever the numbers of two masters in a row are, and however many bytes of the second one are written, one of the two is read.
func FuzzTorn(f *testing.F) {
	f.Add(1, 2, 3, 4, 5, 6, 7, 100)
	f.Add(256, 1, 0, 0, 1, 0, 0, 253)
	f.Add(maxU32-1, 255, maxU24, maxU32, 255, maxU24, maxU32, 255)
	f.Fuzz(func(t *testing.T, no, epoch, start, check, epoch2, start2, check2, k int) {
		a, b := api.Master{No: no, Epoch: epoch, Start: start, Check: check}, api.Master{No: no + 1, Epoch: epoch2, Start: start2, Check: check2}
		if !valid(a) || !valid(b) {
			return
		}
		d := device(t, 2)
		if no > 1 {
			wantErrno(t, "before", Write(d, numbered(no-1, k&255)), api.OK)
		}
		wantErrno(t, "a", Write(d, a), api.OK)
		wantEither(t, "torn", torn(t, d, b, k), a, b)
	})
}
