package master

import (
	"bytes"
	"testing"

	"bobbin/api"
	"bobbin/disk"
)

// P9.2: the chapter's example.
func TestExample(t *testing.T) {
	d := device(t, 2)
	wantNotRead(t, "a new device", d, api.ErrNone)
	one, two := api.Master{No: 1, Epoch: 1, Check: 256}, api.Master{No: 2, Epoch: 1, Start: 3, Check: 770}
	wantErrno(t, "one", Write(d, one), api.OK)
	d.Arm(1)
	wantErrno(t, "two", Write(d, two), api.ErrDead)
	wantRead(t, "both", d.Crash(api.Crash{Keep: []bool{true}, Torn: -1}), two)
	wantRead(t, "two is torn", d.Crash(api.Crash{Torn: 0, K: 100}), one)
}

// P9.2: what Write wrote is read, with each of the numbers.
func TestReadWhatWasWritten(t *testing.T) {
	for _, m := range valids() {
		d := device(t, 2)
		wantErrno(t, "valid", Write(d, m), api.OK)
		wantRead(t, "valid", d, m)
		wantRead(t, "valid again", d, m)
	}
}

// P9.2: of two masters the one with the greater No is read, whichever sector it is in and whichever was written last. The other numbers do not count.
func TestReadTheGreaterNo(t *testing.T) {
	for _, c := range [][2]int{{1, 2}, {2, 3}, {1, 4}, {2, 1001}, {255, 256}, {256, 257}, {65535, 65536}, {16777215, 16777216}, {1, maxU32 - 1}, {2, maxU32}, {1<<31 - 1, 1 << 31}, {maxU32 - 1, maxU32}} {
		less, more := api.Master{No: c[0], Epoch: 255, Start: maxU24, Check: maxU32}, api.Master{No: c[1], Epoch: 1}
		d := device(t, 2)
		wantErrno(t, "less", Write(d, less), api.OK)
		wantRead(t, "less", d, less)
		wantErrno(t, "more", Write(d, more), api.OK)
		wantRead(t, "more after less", d, more)
		wantErrno(t, "less again", Write(d, less), api.OK)
		wantRead(t, "less after more", d, more)
	}
}

// P9.2: where only one sector contains a master, this one is read, whatever is in the other one.
func TestReadTheOnlyOne(t *testing.T) {
	torn := sectorOf(api.Master{No: 1 << 30, Epoch: 1})
	torn[255] ^= 1
	for _, other := range [][]byte{make([]byte, 256), filled(256), torn, bytes.Repeat([]byte{255}, 256)} {
		for _, m := range valids() {
			l := [][]byte{other, other}
			l[m.No%2] = sectorOf(m)
			wantRead(t, "the only one", deviceOf(t, l...), m)
		}
		wantNotRead(t, "none", deviceOf(t, other, other), api.ErrNone)
	}
}

// P9.2: a master at the other position is none, also if it would be the one with the greater No.
func TestReadAtItsPosition(t *testing.T) {
	for _, m := range valids() {
		l := [][]byte{make([]byte, 256), make([]byte, 256)}
		l[1-m.No%2] = sectorOf(m)
		wantNotRead(t, "the other position", deviceOf(t, l...), api.ErrNone)
		wantNotRead(t, "beyond both", deviceOf(t, l[m.No%2], l[m.No%2], sectorOf(m), sectorOf(m)), api.ErrNone)
	}
	two, three, four := api.Master{No: 2, Epoch: 1}, api.Master{No: 3, Epoch: 1}, api.Master{No: 4, Epoch: 1}
	wantRead(t, "4 in the sector 1", deviceOf(t, sectorOf(two), sectorOf(four)), two)
	wantRead(t, "3 and 4 beyond both", deviceOf(t, sectorOf(two), make([]byte, 256), sectorOf(three), sectorOf(four)), two)
	wantNotRead(t, "3 and 2 exchanged", deviceOf(t, sectorOf(three), sectorOf(two)), api.ErrNone)
}

// P9.2: sectors with numbers that are not valid contain no master, although the stamps are those of No.
func TestReadRefusesWrongNumbers(t *testing.T) {
	for _, m := range []api.Master{
		{Epoch: 1},
		{Epoch: 255, Start: 5, Check: 6},
		{No: 1},
		{No: 2, Start: 5, Check: 6},
		{No: 1, Epoch: 256},
		{No: 2, Epoch: 257},
		{No: 1, Epoch: 65535},
		{No: 2, Epoch: maxU32},
		{No: 1, Epoch: 1, Start: maxU24 + 1},
		{No: 2, Epoch: 1, Start: maxU32},
		{No: maxU32, Epoch: 256, Start: maxU24, Check: maxU32},
	} {
		s := sectorOf(m)
		wantNotRead(t, "wrong numbers", deviceOf(t, s, s), api.ErrNone)
		three := api.Master{No: 3, Epoch: 1}
		wantRead(t, "wrong numbers and a master", deviceOf(t, s, sectorOf(three)), three)
	}
}

// P9.2: the stamps are both No.
func TestReadRefusesOtherStamps(t *testing.T) {
	for _, m := range valids() {
		for _, x := range []int{0, 1, 2, m.No - 1, m.No + 1, m.No + 2, m.No ^ 1<<31, m.Epoch, maxU32} {
			if x == m.No {
				continue
			}
			for _, s := range [][]byte{laid(x, m, x), laid(m.No, m, x), laid(x, m, m.No)} {
				wantNotRead(t, "other stamps", deviceOf(t, s, s), api.ErrNone)
			}
		}
	}
}

// P9.2: a sector of which any one bit is changed is not that of the master any more. It is that of another one if the bit is one of Epoch, Start or Check and these are valid, and otherwise of none.
func TestReadFindsEveryBit(t *testing.T) {
	for _, m := range valids() {
		for bit := range 8 * 256 {
			s := sectorOf(m)
			s[bit/8] ^= 1 << (bit % 8)
			x := m
			switch at := bit / 8; {
			case at == 8:
				x.Epoch ^= 1 << (bit - 64)
			case at >= 12 && at < 15:
				x.Start ^= 1 << (bit - 96)
			case at >= 16 && at < 20:
				x.Check ^= 1 << (bit - 128)
			default:
				wantNotRead(t, "a bit changed", deviceOf(t, s, s), api.ErrNone)
				continue
			}
			if x.Epoch == 0 {
				wantNotRead(t, "no epoch", deviceOf(t, s, s), api.ErrNone)
			} else {
				wantRead(t, "a bit changed", deviceOf(t, s, s), x)
			}
		}
	}
}

// P9.2: with a master in the other sector, any one byte of the greater one that is changed to any other one leaves the master that the model names.
func TestReadFindsEveryByte(t *testing.T) {
	less, more := api.Master{No: 257, Epoch: 2, Start: 5, Check: 1281}, api.Master{No: 258, Epoch: 2, Start: 6, Check: 1536}
	for at := range 256 {
		for _, x := range []byte{0, 1, 2, 3, 4, 127, 128, 254, 255} {
			s := sectorOf(more)
			s[at] = x
			wantMeant(t, "a byte changed", s, sectorOf(less))
		}
	}
}

// P9.2: what was last written is read, as the device reads it, also while it is pending.
func TestReadPending(t *testing.T) {
	d := device(t, 2)
	one, two := api.Master{No: 1, Epoch: 1}, api.Master{No: 2, Epoch: 1}
	wantErrno(t, "one", Write(d, one), api.OK)
	wantErrno(t, "two", d.Write(0, sectorOf(two)), api.OK)
	wantRead(t, "pending", d, two)
	wantRead(t, "lost", lost(d), one)
}

// P9.2: a device with fewer than two sectors is ErrArg, also one that is nil, zero or dead.
func TestReadRefusesSmallDevices(t *testing.T) {
	wantNotRead(t, "nil", nil, api.ErrArg)
	wantNotRead(t, "zero", &disk.Disk{}, api.ErrArg)
	wantNotRead(t, "one sector", device(t, 1), api.ErrArg)
	wantNotRead(t, "one sector with a master", deviceOf(t, sectorOf(api.Master{No: 2, Epoch: 1})), api.ErrArg)
	wantNotRead(t, "one sector, dead", killed(t, device(t, 1)), api.ErrArg)
}

// P9.2: the error of a dead device comes before ErrNone, and with it there is no master.
func TestReadOfDeadDevices(t *testing.T) {
	wantNotRead(t, "without masters", killed(t, device(t, 2)), api.ErrDead)
	one, two := sectorOf(api.Master{No: 1, Epoch: 1}), sectorOf(api.Master{No: 2, Epoch: 1})
	wantNotRead(t, "with masters", killed(t, deviceOf(t, two, one)), api.ErrDead)
	wantNotRead(t, "the greatest device", killed(t, device(t, 4096)), api.ErrDead)
}

// R3 and R5: Read does nothing to the device, and what was read before does not count.
func TestReadChangesNothing(t *testing.T) {
	two, three := api.Master{No: 2, Epoch: 1}, api.Master{No: 3, Epoch: 1}
	d := deviceOf(t, sectorOf(two), sectorOf(three), filled(256))
	wantErrno(t, "pending", d.Write(2, someSector()), api.OK)
	d.Arm(0)
	wantRead(t, "armed", d, three)
	wantWaits(t, "armed", d, 1)
	wantSector(t, "armed", d, 0, sectorOf(two))
	wantSector(t, "armed", d, 1, sectorOf(three))
	wantSector(t, "armed", d, 2, someSector())
	if d.Dead() {
		t.Errorf("Write or Sync of the device was called")
	}
	wantNotRead(t, "another device", device(t, 2), api.ErrNone)
	wantRead(t, "the first device", d, three)
}

// P1, R1 and P9.1: any numbers are a master or none; one that is valid is written and read, and any other one changes nothing.
func FuzzWrite(f *testing.F) {
	for _, m := range append(valids(), wrongs()...) {
		f.Add(m.No, m.Epoch, m.Start, m.Check, 2)
	}
	f.Add(1, 1, 0, 0, 1)
	f.Fuzz(func(t *testing.T, no, epoch, start, check, n int) {
		m := api.Master{No: no, Epoch: epoch, Start: start, Check: check}
		if May(m) != valid(m) {
			t.Fatalf("May(%v) returned %t", m, May(m))
		}
		d, _ := disk.New(n)
		e := Write(d, m)
		switch {
		case d.Len() < 2:
			wantErrno(t, "small", e, api.ErrArg)
			wantNotRead(t, "small", d, api.ErrArg)
		case !valid(m):
			wantErrno(t, "wrong", e, api.ErrArg)
			wantNotRead(t, "wrong", d, api.ErrNone)
		default:
			wantErrno(t, "valid", e, api.OK)
			wantSector(t, "valid", lost(d), no%2, sectorOf(m))
			wantRead(t, "valid", lost(d), m)
		}
	})
}

// P1, R1 and P9.2: of any two sectors the master is read that the model names. The bytes of the fuzzer are laid over those of masters, so that sectors with masters are met as well.
func FuzzRead(f *testing.F) {
	f.Add(1, 1, 0, 0, 0, []byte{}, 0, []byte{})
	f.Add(258, 2, 5, 6, 20, []byte{0}, 252, []byte{2, 1, 0, 0})
	f.Add(maxU32, 255, maxU24, maxU32, 0, filled(256), 4, filled(16))
	f.Fuzz(func(t *testing.T, no, epoch, start, check, i int, a []byte, j int, b []byte) {
		m := api.Master{No: no, Epoch: epoch, Start: start, Check: check}
		next := m
		next.No++
		l := [2][]byte{laid(no, m, no), laid(no+1, next, no+1)}
		copy(l[0][uint(i)%256:], a)
		copy(l[1][uint(j)%256:], b)
		wantMeant(t, "any sectors", l[0], l[1])
		wantMeant(t, "any sectors", l[1], l[0])
	})
}
