package wal

import (
	"bytes"
	"math"
	"slices"
	"strconv"
	"testing"

	"bobbin/api"
	"bobbin/disk"
)

// one returns a batch with one record, by which it can be told from others.
func one(epoch, seq, from int) api.Batch {
	return api.Batch{Epoch: epoch, Seq: seq, From: from, L: []api.Rec{{Kind: api.RecDone, At: seq%1000*1000 + epoch}}}
}

// laid returns a device on which a ring from base on has the log sectors of these batches.
func laid(t *testing.T, size, base, n int, batches ...api.Batch) *disk.Disk {
	t.Helper()
	d := device(t, size)
	for _, x := range batches {
		lay(t, d, base+x.Seq%n, sectorOf(x))
	}
	return d
}

func lay(t *testing.T, d *disk.Disk, at int, s []byte) {
	t.Helper()
	wantErrno(t, "Write", d.Write(at, s), api.OK)
}

// logged returns the records of batches with their LSNs.
func logged(batches ...api.Batch) []api.Logged {
	var l []api.Logged
	for _, x := range batches {
		for i, r := range x.L {
			l = append(l, api.Logged{LSN: 256*x.Seq + i, R: r})
		}
	}
	return l
}

// P8.4: on a new device nothing is read, from whatever number on, though zeros are a batch with the Seq 0 and the stamp 0.
func TestReadNewDevice(t *testing.T) {
	d := device(t, 6)
	for _, from := range []int{0, 1, 2, 3, 4, 5, 100, 1<<24 - 1} {
		wantRead(t, "new", d, 1, 4, from, nil, from, 0)
	}
}

// P8.4: the records come with their LSNs, in order, up to the first sector that is not there.
func TestReadInOrder(t *testing.T) {
	a := api.Batch{Epoch: 1, Seq: 5, From: 5, L: kinds()}
	b := api.Batch{Epoch: 1, Seq: 6, From: 5, L: slices.Repeat([]api.Rec{bare}, 60)}
	c := api.Batch{Epoch: 1, Seq: 7, From: 5, L: []api.Rec{most(), clr(1), most()}}
	d := laid(t, 12, 3, 8, a, b, c)
	wantRead(t, "all", d, 3, 8, 5, logged(a, b, c), 8, 1)
	wantRead(t, "from the second one on", d, 3, 8, 6, logged(b, c), 8, 1)
	wantRead(t, "from the last one on", d, 3, 8, 7, logged(c), 8, 1)
	wantRead(t, "from behind it on", d, 3, 8, 8, nil, 8, 0)
	wantRead(t, "from before it on", d, 3, 8, 4, nil, 4, 0)
	wantRead(t, "from a ring before on", d, 3, 8, 13, nil, 13, 0)
	wantRead(t, "with another base", d, 2, 8, 5, nil, 5, 0)
	wantRead(t, "with another number of sectors", d, 3, 9, 5, logged(a, b, c), 8, 1)
}

// P8.4: the ring has no end, but no sector of it is read twice.
func TestReadAroundTheRing(t *testing.T) {
	for n := 2; n < 7; n++ {
		for from := range 10 {
			var l []api.Batch
			for i := range n {
				l = append(l, one(1, from+i, from))
				wantRead(t, "around", laid(t, 9, 2, n, l...), 2, n, from, logged(l...), from+i+1, 1)
			}
			l = append(l, one(1, from+n, from))
			wantRead(t, "the first one overwritten", laid(t, 9, 2, n, l...), 2, n, from, nil, from, 0)
			wantRead(t, "from the second one on", laid(t, 9, 2, n, l...), 2, n, from+1, logged(l[1:]...), from+n+1, 1)
		}
	}
}

// P8.4: the first sector may have any From up to its Seq; a later one of the same epoch has that of the one before.
func TestReadFrom(t *testing.T) {
	for first := range 6 {
		a := one(3, 5, first)
		for second := range 7 {
			b := one(3, 6, second)
			d := laid(t, 8, 0, 8, a, b)
			if second == first {
				wantRead(t, "the same From", d, 0, 8, 5, logged(a, b), 7, 3)
			} else {
				wantRead(t, "another From", d, 0, 8, 5, logged(a), 6, 3)
			}
		}
	}
}

// P8.4: the epochs do not decrease, and the first sector of a later epoch has its Seq as From.
func TestReadEpochs(t *testing.T) {
	for first := range 5 {
		for second := range 5 {
			for from := range 7 {
				a, b := one(first, 5, 4), one(second, 6, from)
				d := laid(t, 8, 0, 8, a, b)
				switch {
				case first == 0:
					wantRead(t, "the epoch 0", d, 0, 8, 5, nil, 5, 0)
				case second == first && from == 4, second > first && from == 6:
					wantRead(t, "two", d, 0, 8, 5, logged(a, b), 7, second)
				default:
					wantRead(t, "the second one is not acceptable", d, 0, 8, 5, logged(a), 6, first)
				}
			}
		}
	}
	a, b, c, x := one(1, 3, 0), one(255, 4, 4), one(255, 5, 4), one(255, 6, 5)
	wantRead(t, "three epochs", laid(t, 8, 0, 8, a, b, c, x), 0, 8, 3, logged(a, b, c), 6, 255)
	l := []api.Batch{one(1, 0, 0), one(2, 1, 1), one(2, 2, 1), one(7, 3, 3), one(8, 4, 4), one(8, 5, 4), one(8, 6, 4), one(9, 7, 7)}
	wantRead(t, "many epochs", laid(t, 8, 0, 8, l...), 0, 8, 0, logged(l...), 8, 9)
}

// P8.4: a sector of the epoch 0 is not acceptable, also not as the first one.
func TestReadEpochZero(t *testing.T) {
	for seq := range 4 {
		x := one(0, seq, seq)
		wantRead(t, "the epoch 0", laid(t, 4, 0, 4, x), 0, 4, seq, nil, seq, 0)
	}
}

// P8.4: an epoch greater than 255 has no stamp.
func TestReadGreatEpochs(t *testing.T) {
	for _, epoch := range []int{256, 257, 512, 65535} {
		x := one(epoch, 2, 2)
		for _, stamp := range []int{2, 1<<24*(epoch%256) + 2, 1<<24*255 + 2, 1<<24 + 2} {
			d := device(t, 4)
			lay(t, d, 2, sealed(stamp, packed(x)))
			wantRead(t, "a great epoch", d, 0, 4, 2, nil, 2, 0)
		}
	}
	x := one(255, 2, 2)
	wantRead(t, "the greatest epoch", laid(t, 4, 0, 4, x), 0, 4, 2, logged(x), 3, 255)
}

// P8.4: the stamp is that of the batch's Epoch and Seq.
func TestReadStamps(t *testing.T) {
	a, b := one(2, 4, 4), one(2, 5, 4)
	right := 2<<24 + 5
	for _, stamp := range []int{0, 5, right - 1, right + 1, right + 4, right - 4, 1<<24 + 5, 3<<24 + 5, right ^ 1<<31, right ^ 1<<16, 2 << 24, 1<<32 - 1} {
		d := laid(t, 4, 0, 4, a)
		lay(t, d, 1, sealed(stamp, packed(b)))
		wantRead(t, "another stamp", d, 0, 4, 4, logged(a), 5, 2)
		wantRead(t, "another stamp, as the first one", d, 0, 4, 5, nil, 5, 0)
	}
	d := laid(t, 4, 0, 4, a)
	lay(t, d, 1, sealed(right, packed(b)))
	wantRead(t, "its stamp", d, 0, 4, 4, logged(a, b), 6, 2)
}

// P8.4: a sector whose stamps differ is torn.
func TestReadTorn(t *testing.T) {
	a, b := one(2, 4, 4), one(2, 5, 4)
	for _, i := range []int{0, 1, 2, 3, 252, 253, 254, 255} {
		s := sectorOf(b)
		s[i]++
		d := laid(t, 4, 0, 4, a)
		lay(t, d, 1, s)
		wantRead(t, "torn", d, 0, 4, 4, logged(a), 5, 2)
	}
}

// P8.4: a sector whose batch has another Seq is not acceptable, whatever the stamp is.
func TestReadSeq(t *testing.T) {
	a := one(2, 4, 4)
	for _, seq := range []int{0, 1, 3, 4, 6, 9, 13, 261, 1<<24 - 1} {
		for _, stamp := range []int{2<<24 + 5, 2<<24 + seq} {
			d := laid(t, 4, 0, 4, a)
			lay(t, d, 1, sealed(stamp, packed(one(2, seq, min(seq, 4)))))
			wantRead(t, "another Seq", d, 0, 4, 4, logged(a), 5, 2)
		}
	}
}

// P8.4: a sector whose bytes are not a batch is not acceptable.
func TestReadForm(t *testing.T) {
	a, b := one(2, 4, 4), one(2, 5, 4)
	for _, c := range []struct {
		what string
		at   int
		b    byte
	}{
		{"a record more", 10, 2},
		{"a record less", 10, 0},
		{"too many records", 10, 61},
		{"a length", 11, 4},
		{"a kind", 12, 12},
		{"a byte after the records", 200, 1},
		{"the last byte", 247, 1},
		{"From after Seq", 6, 6},
		{"From far after Seq", 9, 1},
		{"Seq of 4 bytes", 5, 1},
	} {
		bad := packed(b)
		bad[c.at] = c.b
		d := laid(t, 4, 0, 4, a)
		lay(t, d, 1, sealed(2<<24+5, bad))
		wantRead(t, c.what, d, 0, 4, 4, logged(a), 5, 2)
		wantRead(t, c.what+", as the first one", d, 0, 4, 5, nil, 5, 0)
	}
}

// P8.4: a sector without records is acceptable as any other.
func TestReadWithoutRecords(t *testing.T) {
	a, b, c := api.Batch{Epoch: 1, Seq: 3, From: 3}, api.Batch{Epoch: 1, Seq: 4, From: 3}, one(1, 5, 3)
	wantRead(t, "without records", laid(t, 4, 0, 4, a), 0, 4, 3, nil, 4, 1)
	wantRead(t, "and one with a record", laid(t, 4, 0, 4, a, b, c), 0, 4, 3, logged(c), 6, 1)
}

// P8.4: what is behind a gap is not read.
func TestReadGap(t *testing.T) {
	l := []api.Batch{one(1, 0, 0), one(1, 1, 0), one(1, 2, 0), one(1, 3, 0)}
	for i := range l {
		d := laid(t, 4, 0, 4, slices.Delete(slices.Clone(l), i, i+1)...)
		epoch := min(i, 1)
		wantRead(t, "a gap at "+strconv.Itoa(i), d, 0, 4, 0, logged(l[:i]...), i, epoch)
	}
}

// P8.4: the sectors with the last numbers; behind them there are none.
func TestReadLastNumbers(t *testing.T) {
	const last = 1<<24 - 1
	a, b := one(1, last-1, last-1), one(1, last, last-1)
	d := laid(t, 4, 0, 4, a, b)
	lay(t, d, 0, sealed(2<<24, packed(api.Batch{Epoch: 1, Seq: 1 << 24, From: last - 1})))
	wantRead(t, "the last two", d, 0, 4, last-1, logged(a, b), last+1, 1)
	wantRead(t, "the last one", d, 0, 4, last, logged(b), last+1, 1)
	wantNotRead(t, "none", d, 0, 4, last+1, api.ErrArg)
}

// P8.4, with R1: the arguments have the ranges of those of New.
func TestReadRanges(t *testing.T) {
	d := device(t, 10)
	ends := []int{math.MinInt, math.MinInt + 1, -1 << 32, -2, -1, 0, 1, 2, 3, 8, 9, 10, 11, 256, 1<<24 - 2, 1<<24 - 1, 1 << 24, 1 << 32, math.MaxInt - 1, math.MaxInt}
	for _, base := range ends {
		for _, n := range ends {
			for _, from := range ends {
				if mayLog(d, base, n, 1, from, from) {
					wantRead(t, "in the ranges", d, base, n, from, nil, from, 0)
				} else {
					wantNotRead(t, "not in the ranges", d, base, n, from, api.ErrArg)
				}
			}
		}
	}
	wantNotRead(t, "nil", nil, 0, 2, 0, api.ErrArg)
	wantNotRead(t, "no sectors", &disk.Disk{}, 0, 2, 0, api.ErrArg)
	wantNotRead(t, "n 1", d, 0, 1, 0, api.ErrArg)
	wantNotRead(t, "n 11", d, 0, 11, 0, api.ErrArg)
	wantNotRead(t, "beyond the end", d, 9, 2, 0, api.ErrArg)
}

// P8.4, P1 and R2: a dead device is not read; wrong arguments count before that.
func TestReadDead(t *testing.T) {
	d := laid(t, 10, 0, 4, one(1, 0, 0))
	d.Arm(0)
	wantRead(t, "armed", d, 0, 4, 0, logged(one(1, 0, 0)), 1, 1)
	d.Sync()
	wantNotRead(t, "dead", d, 0, 4, 0, api.ErrDead)
	wantNotRead(t, "dead", d, 0, 4, 1<<24-1, api.ErrDead)
	wantNotRead(t, "dead, and base", d, -1, 4, 0, api.ErrArg)
	wantNotRead(t, "dead, and n", d, 0, 1, 0, api.ErrArg)
	wantNotRead(t, "dead, and beyond the end", d, 7, 4, 0, api.ErrArg)
	wantNotRead(t, "dead, and from", d, 0, 4, -1, api.ErrArg)
	wantNotRead(t, "dead, and from", d, 0, 4, 1<<24, api.ErrArg)
}

// P8.4: what is pending is read as well, and nothing is done to the device.
func TestReadDoesNothingToTheDevice(t *testing.T) {
	a, b := one(1, 0, 0), one(1, 1, 0)
	d, other := laid(t, 6, 1, 4, a, b), laid(t, 6, 1, 4, a, b)
	d.Arm(0)
	wantRead(t, "pending", d, 1, 4, 0, logged(a, b), 2, 1)
	wantSame(t, "after Read", d, other)
	wantErrno(t, "still armed", d.Sync(), api.ErrDead)
}

// R3: what Read returns is the caller's: no two values of it share memory, and a later Read does not see changes.
func TestReadOwnership(t *testing.T) {
	a := api.Batch{Epoch: 1, Seq: 0, From: 0, L: []api.Rec{most(), clr(5), most()}}
	b := api.Batch{Epoch: 1, Seq: 1, From: 0, L: []api.Rec{clr(32), clr(1)}}
	d := laid(t, 4, 0, 4, a, b)
	l, _, _, _ := Read(d, 0, 4, 0)
	for i := range l {
		for _, v := range []*api.Val{&l[i].R.Old, &l[i].R.New} {
			v.B = append(v.B, 99)
			clear(v.B)
			if v == &l[i].R.Old && len(l[i].R.New.B) > 0 && !bytes.Equal(l[i].R.New.B, logged(a, b)[i].R.New.B) {
				t.Errorf("New of %d sees changes of Old", i)
			}
		}
		if !slices.EqualFunc(l[i+1:], logged(a, b)[i+1:], same) {
			t.Errorf("later records see changes of the record %d", i)
		}
	}
	wantRead(t, "after the result was changed", d, 0, 4, 0, logged(a, b), 2, 1)
}

// The function that produces the sectors stops when nobody asks for more.
func TestBatchesStop(t *testing.T) {
	d := laid(t, 4, 0, 4, one(1, 0, 0), one(1, 1, 0))
	n := 0
	for x := range (ring{d, 0, 4}).batches(0) {
		if n++; x.Seq != 0 {
			t.Errorf("got the sector %d, want 0", x.Seq)
		}
		break
	}
	if n != 1 {
		t.Errorf("%d sectors, want 1", n)
	}
}

// R1 and P8.4: whatever is on a device, Read returns what the document says.
func FuzzRead(f *testing.F) {
	f.Add(uint8(0), uint8(0), 0, []byte{})
	f.Add(uint8(1), uint8(2), 5, []byte{0, 1, 0, 0, 1, 0, 0, 1, 0, 0, 1, 0})
	f.Add(uint8(0), uint8(4), 2, []byte{0, 1, 0, 0, 1, 0, 0, 2, 1, 0, 2, 0, 0, 3, 1, 3, 3, 0})
	f.Add(uint8(2), uint8(3), 1<<24-2, []byte{0, 1, 0, 0, 255, 1, 0, 255, 0, 2, 1, 0, 7, 4})
	f.Add(uint8(3), uint8(9), 77, []byte{1, 5, 9, 255, 2, 3, 4, 5, 0, 1, 0})
	f.Fuzz(func(t *testing.T, base, size uint8, from int, program []byte) {
		d := device(t, 12)
		b, n := int(base)%12, int(size)%12
		if !mayLog(d, b, n, 1, from, from) {
			wantNotRead(t, "wrong arguments", d, b, n, from, api.ErrArg)
			return
		}
		p := &program
		before := api.Batch{Epoch: 1, From: from}
		for seq := from; seq < from+n && len(*p) > 0; seq++ {
			x := drawn(before, seq, p)
			lay(t, d, b+seq%n, marred(x, p))
			before = x
		}
		want, end, epoch := meant(d, b, n, from)
		wantRead(t, "any device", d, b, n, from, want, end, epoch)
	})
}

// drawn returns a log sector that the program says, mostly one that may come after the one before.
func drawn(before api.Batch, seq int, p *[]byte) api.Batch {
	x := api.Batch{Epoch: before.Epoch, Seq: seq, From: before.From}
	switch take(p) % 8 {
	case 0, 1, 2:
	case 3, 4:
		x.Epoch, x.From = before.Epoch+1, seq
	case 5:
		x.Epoch = take(p)
	case 6:
		x.From = seq - take(p)
	case 7:
		x.Seq = seq + take(p) - 100
	}
	for range take(p) % 4 {
		x.L = append(x.L, kinds()[take(p)%len(kinds())])
	}
	return x
}

// marred returns the sector of x, or, if the program says so, one with a fault.
func marred(x api.Batch, p *[]byte) []byte {
	s := sectorOf(x)
	switch take(p) {
	case 1:
		s[take(p)] ^= 1 << (take(p) % 8)
	case 2:
		s = sealed(take(p)<<24+x.Seq, packed(x))
	case 3:
		clear(s[take(p):])
	case 4:
		s = bytes.Repeat([]byte{byte(take(p))}, 256)
	}
	return s
}
