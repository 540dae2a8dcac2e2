package master

import (
	"bytes"
	"math"
	"testing"

	"bobbin/api"
	"bobbin/disk"
)

// limits of the numbers of a master, as the document says them.
const (
	maxU32 = 4294967295
	maxU24 = 16777215
)

// some is a master of which no two bytes that are not zero are equal, and its sector.
var some = api.Master{No: 0x04030201, Epoch: 5, Start: 0x080706, Check: 0x0c0b0a09}

func someSector() []byte {
	s := []byte{1, 2, 3, 4, 1, 2, 3, 4, 5, 0, 0, 0, 6, 7, 8, 0, 9, 10, 11, 12}
	s = append(s, make([]byte, 232)...)
	return append(s, 1, 2, 3, 4)
}

// valids returns masters with the least and the greatest numbers, and others.
func valids() []api.Master {
	return []api.Master{
		{No: 1, Epoch: 1},
		{No: 2, Epoch: 1},
		{No: 255, Epoch: 255, Start: 255, Check: 255},
		{No: 256, Epoch: 2, Start: 256, Check: 256},
		{No: 65535, Epoch: 3, Start: 65535, Check: 65535},
		{No: 65536, Epoch: 3, Start: 65536, Check: 65536},
		{No: 16777216, Epoch: 128, Start: 8388608, Check: 16777216},
		{No: maxU32 - 1, Epoch: 255, Start: maxU24, Check: maxU32},
		{No: maxU32, Epoch: 255, Start: maxU24, Check: maxU32},
		{No: maxU32, Epoch: 1},
		some,
	}
}

// wrongs returns masters of which one number is beyond its range, or more.
func wrongs() []api.Master {
	return []api.Master{
		{},
		{No: 1},
		{Epoch: 1},
		{No: -1, Epoch: 1},
		{No: maxU32 + 1, Epoch: 1},
		{No: maxU32 + 2, Epoch: 1},
		{No: 1, Epoch: -1},
		{No: 1, Epoch: 256},
		{No: 1, Epoch: 257},
		{No: 1, Epoch: api.MaxEpoch},
		{No: 1, Epoch: 1, Start: -1},
		{No: 1, Epoch: 1, Start: maxU24 + 1},
		{No: 1, Epoch: 1, Start: maxU32},
		{No: 1, Epoch: 1, Check: -1},
		{No: 1, Epoch: 1, Check: maxU32 + 1},
		{No: math.MinInt, Epoch: math.MinInt, Start: math.MinInt, Check: math.MinInt},
		{No: math.MaxInt, Epoch: math.MaxInt, Start: math.MaxInt, Check: math.MaxInt},
	}
}

// valid is what the document says of May.
func valid(m api.Master) bool {
	switch {
	case m.No < 1, m.No > maxU32, m.Epoch < 1, m.Epoch > 255:
		return false
	case m.Start < 0, m.Start > maxU24, m.Check < 0, m.Check > maxU32:
		return false
	}
	return true
}

// put appends n in 4 bytes, little-endian.
func put(b []byte, n int) []byte {
	for range 4 {
		b = append(b, byte(n%256))
		n /= 256
	}
	return b
}

// number returns the 4 bytes of s from i on.
func number(s []byte, i int) int {
	return int(s[i]) + 256*int(s[i+1]) + 65536*int(s[i+2]) + 16777216*int(s[i+3])
}

// laid returns the sector that has these numbers, of which none need be valid, between two stamps.
func laid(first int, m api.Master, last int) []byte {
	s := put(nil, first)
	for _, n := range []int{m.No, m.Epoch, m.Start, m.Check} {
		s = put(s, n)
	}
	s = append(s, make([]byte, 232)...)
	return put(s, last)
}

// sectorOf is what the document says of the sector of a valid master.
func sectorOf(m api.Master) []byte {
	return laid(m.No, m, m.No)
}

// meant is what the document says of Read of two sectors of a device that is not dead.
func meant(s [2][]byte) (api.Master, api.Errno) {
	var l []api.Master
	for i := range s {
		m := api.Master{No: number(s[i], 4), Epoch: number(s[i], 8), Start: number(s[i], 12), Check: number(s[i], 16)}
		if valid(m) && m.No%2 == i && bytes.Equal(s[i], sectorOf(m)) {
			l = append(l, m)
		}
	}
	switch {
	case len(l) == 0:
		return api.Master{}, api.ErrNone
	case len(l) == 2 && l[1].No > l[0].No:
		return l[1], api.OK
	}
	return l[0], api.OK
}

// filled returns n bytes, of which neighbours differ.
func filled(n int) []byte {
	b := make([]byte, n)
	for i := range b {
		b[i] = byte(i*7 + 1)
	}
	return b
}

func device(t *testing.T, n int) *disk.Disk {
	t.Helper()
	d, e := disk.New(n)
	if e != api.OK {
		t.Fatalf("disk.New(%d) returned the error %d", n, e)
	}
	return d
}

// deviceOf returns a device on which these sectors are durable.
func deviceOf(t *testing.T, l ...[]byte) *disk.Disk {
	t.Helper()
	d := device(t, len(l))
	for i, s := range l {
		wantErrno(t, "Write of the device", d.Write(i, s), api.OK)
	}
	wantErrno(t, "Sync of the device", d.Sync(), api.OK)
	return d
}

// lost returns the device after a crash from which only what is durable is left.
func lost(d *disk.Disk) *disk.Disk {
	return d.Crash(api.Crash{Torn: -1})
}

// killed returns d, which is dead.
func killed(t *testing.T, d *disk.Disk) *disk.Disk {
	t.Helper()
	d.Arm(0)
	wantErrno(t, "Sync of an armed device", d.Sync(), api.ErrDead)
	return d
}

func wantErrno(t *testing.T, what string, got, want api.Errno) {
	t.Helper()
	if got != want {
		t.Errorf("%s: got the error %d, want %d", what, got, want)
	}
}

// wantSector checks what was written last to the sector i.
func wantSector(t *testing.T, what string, d *disk.Disk, i int, want []byte) {
	t.Helper()
	s, e := d.Read(i)
	if e != api.OK || !bytes.Equal(s, want) {
		t.Errorf("%s: the sector %d is %v with the error %d, want %v", what, i, s, e, want)
	}
}

func wantWaits(t *testing.T, what string, d *disk.Disk, want int) {
	t.Helper()
	if n := d.Waits(); n != want {
		t.Errorf("%s: %d writes are pending, want %d", what, n, want)
	}
}

// wantRead checks that Read returns this master.
func wantRead(t *testing.T, what string, d *disk.Disk, want api.Master) {
	t.Helper()
	if m, e := Read(d); m != want || e != api.OK {
		t.Errorf("%s: Read returned %v and the error %d, want %v", what, m, e, want)
	}
}

// wantNotRead checks that Read returns an error and nothing else.
func wantNotRead(t *testing.T, what string, d *disk.Disk, want api.Errno) {
	t.Helper()
	if m, e := Read(d); m != (api.Master{}) || e != want {
		t.Errorf("%s: Read returned %v and the error %d, want the zero value and %d", what, m, e, want)
	}
}

// wantMeant checks Read of a device against the model.
func wantMeant(t *testing.T, what string, a, b []byte) {
	t.Helper()
	m, e := meant([2][]byte{a, b})
	if e == api.OK {
		wantRead(t, what, deviceOf(t, a, b), m)
	} else {
		wantNotRead(t, what, deviceOf(t, a, b), e)
	}
}
