package master

import (
	"testing"

	"bobbin/api"
	"bobbin/disk"
)

// P9.1: the numbers stand in their order, in 4 bytes each and little-endian, between stamps that are No, and are followed by zeros.
func TestWriteLays(t *testing.T) {
	d := device(t, 2)
	wantErrno(t, "some", Write(d, some), api.OK)
	wantSector(t, "some", d, 1, someSector())
	wantSector(t, "some", d, 0, make([]byte, 256))
}

// P9.1: the sector is the one with the number No modulo 2, and no other one is written.
func TestWriteSector(t *testing.T) {
	for _, m := range valids() {
		for n := 2; n < 6; n++ {
			var l [][]byte
			for range n {
				l = append(l, filled(256))
			}
			d := deviceOf(t, l...)
			wantErrno(t, "valid", Write(d, m), api.OK)
			for i := range n {
				want := filled(256)
				if i == m.No%2 {
					want = sectorOf(m)
				}
				wantSector(t, "valid", d, i, want)
			}
		}
	}
}

// P9.1: a master takes turns with the one before it, and what else its sector contained is overwritten.
func TestWriteTakesTurns(t *testing.T) {
	d := device(t, 3)
	before := make([]byte, 256)
	for no := 1; no < 600; no++ {
		m := api.Master{No: no, Epoch: 1 + no%255, Start: 3 * no, Check: 5 * no}
		wantErrno(t, "turn", Write(d, m), api.OK)
		wantSector(t, "turn", d, no%2, sectorOf(m))
		wantSector(t, "turn before", d, 1-no%2, before)
		before = sectorOf(m)
	}
	wantSector(t, "turns", d, 2, make([]byte, 256))
}

// P9.1: Write does not ask which masters are there: one with a smaller or the same No is written as well.
func TestWriteTakesAnyNo(t *testing.T) {
	d := device(t, 2)
	for _, no := range []int{7, 5, 5, 6, 4, 1, 2, 1 << 31, 3, 2} {
		m := api.Master{No: no, Epoch: 9, Check: no + 1}
		wantErrno(t, "any No", Write(d, m), api.OK)
		wantSector(t, "any No", d, no%2, sectorOf(m))
	}
}

// P9.1: the device is synced, which makes also durable what was pending before.
func TestWriteSyncs(t *testing.T) {
	for _, m := range valids() {
		d := device(t, 4)
		wantErrno(t, "before", d.Write(3, filled(256)), api.OK)
		wantErrno(t, "valid", Write(d, m), api.OK)
		wantWaits(t, "synced", d, 0)
		wantSector(t, "durable", lost(d), m.No%2, sectorOf(m))
		wantSector(t, "durable before", lost(d), 3, filled(256))
		wantRead(t, "durable", lost(d), m)
	}
}

// P9.1: there is one write and then one sync, and the first error of the two is returned.
func TestWriteFirstError(t *testing.T) {
	for _, m := range valids() {
		d := device(t, 2)
		d.Arm(0)
		wantErrno(t, "death at the write", Write(d, m), api.ErrDead)
		wantWaits(t, "death at the write", d, 0)
		wantErrno(t, "after the death", Write(d, m), api.ErrDead)

		d = device(t, 2)
		d.Arm(1)
		wantErrno(t, "death at the sync", Write(d, m), api.ErrDead)
		wantWaits(t, "death at the sync", d, 1)
		wantSector(t, "death at the sync", lost(d), m.No%2, make([]byte, 256))
		wantSector(t, "death at the sync", d.Crash(api.Crash{Keep: []bool{true}, Torn: -1}), m.No%2, sectorOf(m))

		d = device(t, 2)
		d.Arm(2)
		wantErrno(t, "death after both", Write(d, m), api.OK)
		if d.Dead() {
			t.Errorf("%v: the device is dead", m)
		}
		wantErrno(t, "death after both", d.Sync(), api.ErrDead)
	}
}

// P9.1: a master that is not valid is ErrArg, and nothing is done to the device.
func TestWriteRefusesWrongMasters(t *testing.T) {
	for _, m := range wrongs() {
		d := deviceOf(t, filled(256), filled(256), filled(256))
		wantErrno(t, "pending", d.Write(2, someSector()), api.OK)
		d.Arm(0)
		wantErrno(t, "wrong", Write(d, m), api.ErrArg)
		wantWaits(t, "wrong", d, 1)
		for i := range 2 {
			wantSector(t, "wrong", d, i, filled(256))
		}
		if d.Dead() {
			t.Errorf("%v: Write or Sync of the device was called", m)
		}
	}
}

// P9.1, with R1: a device with fewer than two sectors is ErrArg, also one that is nil or zero, and nothing is done to it.
func TestWriteRefusesSmallDevices(t *testing.T) {
	for _, m := range append(valids(), wrongs()...) {
		wantErrno(t, "nil", Write(nil, m), api.ErrArg)
		wantErrno(t, "zero", Write(&disk.Disk{}, m), api.ErrArg)
		d := device(t, 1)
		d.Arm(0)
		wantErrno(t, "one sector", Write(d, m), api.ErrArg)
		if d.Dead() {
			t.Errorf("%v: Write or Sync of the device was called", m)
		}
		wantSector(t, "one sector", d, 0, make([]byte, 256))
	}
}

// P9.1, with R2: ErrArg comes before the error of a device that is dead.
func TestWriteOfDeadDevices(t *testing.T) {
	one, two := killed(t, device(t, 1)), killed(t, device(t, 2))
	for _, m := range valids() {
		wantErrno(t, "dead, valid", Write(two, m), api.ErrDead)
		wantErrno(t, "dead, one sector", Write(one, m), api.ErrArg)
	}
	for _, m := range wrongs() {
		wantErrno(t, "dead, wrong", Write(two, m), api.ErrArg)
		wantErrno(t, "dead, wrong, one sector", Write(one, m), api.ErrArg)
	}
}
