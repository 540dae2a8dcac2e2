package disk

import (
	"math"
	"slices"
	"testing"

	"bobbin/api"
)

// busy returns a device of 3 sectors, and its model, with durable sectors and five pending writes, three of them of one sector.
func busy(t *testing.T) (*Disk, *model) {
	t.Helper()
	d, m := device(t, 3), modelOf(3)
	both := func(i int, s []byte) {
		written(t, d, i, s)
		m.write(i, s)
	}
	both(0, counted(1))
	both(1, counted(2))
	synced(t, d)
	m.sync()
	both(0, of(11))
	both(2, of(12))
	both(0, counted(13))
	both(1, of(14))
	both(0, of(15))
	return d, m
}

// P3.3: the chapter's example.
func TestCrashExample(t *testing.T) {
	d := device(t, 2)
	a, b := counted(1), counted(100)
	written(t, d, 0, a)
	synced(t, d)
	written(t, d, 0, b)
	written(t, d, 1, b)
	wantDisk(t, "nothing kept", d.Crash(api.Crash{Torn: -1}), 0, a, of(0))
	wantDisk(t, "all kept", d.Crash(api.Crash{Keep: []bool{true}, Torn: -1}), 0, b, b)
	wantDisk(t, "only the second one kept", d.Crash(api.Crash{Keep: []bool{false, true}, Torn: -1}), 0, a, b)
}

// P3.3: every choice of kept writes, and each write torn at every kind of place, leaves what the model has; the old device stays as it was.
func TestCrashInEveryWay(t *testing.T) {
	d, m := busy(t)
	for _, c := range crashes(5) {
		wantLike(t, "behind the crash", d.Crash(c), m.crash(c, -1))
	}
	wantLike(t, "before the crash", d, m)
}

// P3.3: Keep is used over and over if it is shorter than the pending writes, in part if it is longer, and keeps nothing if it is empty.
func TestKeepOfEveryLength(t *testing.T) {
	d, m := busy(t)
	for length := range 9 {
		for set := range 1 << length {
			keep := make([]bool, length)
			for i := range keep {
				keep[i] = set>>i&1 == 1
			}
			for torn := -1; torn < 6; torn++ {
				c := api.Crash{Keep: keep, Torn: torn, K: 77}
				wantLike(t, "behind the crash", d.Crash(c), m.crash(c, -1))
			}
		}
	}
	for _, keep := range [][]bool{nil, {}, {false}, make([]bool, 1000)} {
		wantDisk(t, "nothing kept", d.Crash(api.Crash{Keep: keep, Torn: -1}), 0, counted(1), counted(2), of(0))
	}
	wantDisk(t, "all kept", d.Crash(api.Crash{Keep: slices.Repeat([]bool{true}, 1000), Torn: 5}), 0, of(15), of(14), of(12))
}

// P3.3: of the torn write exactly the first K bytes are written, whatever Keep says of it.
func TestTornAtEveryByte(t *testing.T) {
	old, new := counted(1), counted(77)
	d := device(t, 1)
	written(t, d, 0, old)
	synced(t, d)
	written(t, d, 0, new)
	for k := -2; k <= 258; k++ {
		n := min(max(k, 0), 256)
		want := append(slices.Clone(new[:n]), old[n:]...)
		for _, keep := range [][]bool{nil, {true}, {false}, {true, true}} {
			wantDisk(t, "torn", d.Crash(api.Crash{Keep: keep, Torn: 0, K: k}), 0, want)
		}
	}
	for _, k := range []int{math.MinInt, -256, math.MinInt32} {
		wantDisk(t, "nothing of it", d.Crash(api.Crash{Keep: []bool{true}, Torn: 0, K: k}), 0, old)
	}
	for _, k := range []int{math.MaxInt, 512, 1 << 32, 1 << 40} {
		wantDisk(t, "all of it", d.Crash(api.Crash{Torn: 0, K: k}), 0, new)
	}
}

// P3.3: a number that no pending write has tears nothing.
func TestTornOutsideOfThePendingWrites(t *testing.T) {
	d := device(t, 2)
	written(t, d, 0, of(1))
	written(t, d, 1, of(2))
	for _, torn := range []int{math.MinInt, -2, -1, 2, 3, 256, 1 << 32, math.MaxInt} {
		for _, k := range []int{-1, 0, 100, 256, 257} {
			wantDisk(t, "nothing kept", d.Crash(api.Crash{Torn: torn, K: k}), 0, of(0), of(0))
			wantDisk(t, "all kept", d.Crash(api.Crash{Keep: []bool{true}, Torn: torn, K: k}), 0, of(1), of(2))
		}
	}
}

// P3.3: the numbers are those of the writes that are pending, not of those that were synced or refused.
func TestPendingWritesAreNumberedFromTheSync(t *testing.T) {
	d := device(t, 2)
	written(t, d, 0, of(1))
	written(t, d, 1, of(2))
	synced(t, d)
	wantErrno(t, "no such place", d.Write(2, of(9)), api.ErrNone)
	written(t, d, 0, of(3))
	wantErrno(t, "no sector", d.Write(0, nil), api.ErrArg)
	written(t, d, 1, of(4))
	wantDisk(t, "the first one kept", d.Crash(api.Crash{Keep: []bool{true, false}, Torn: -1}), 0, of(3), of(2))
	wantDisk(t, "the second one kept", d.Crash(api.Crash{Keep: []bool{false, true}, Torn: -1}), 0, of(1), of(4))
	wantDisk(t, "the first one torn", d.Crash(api.Crash{Torn: 0, K: 256}), 0, of(3), of(2))
	wantDisk(t, "the second one torn", d.Crash(api.Crash{Torn: 1, K: 256}), 0, of(1), of(4))
}

// P3.3: of several writes of one sector each is written over what the ones before it left.
func TestWritesOfOneSectorInOrder(t *testing.T) {
	d := device(t, 1)
	for _, b := range []byte{1, 2, 3} {
		written(t, d, 0, of(b))
	}
	mixed := func(first byte, k int, then byte) []byte {
		return append(of(first)[:k], of(then)[k:]...)
	}
	wantDisk(t, "all", d.Crash(api.Crash{Keep: []bool{true}, Torn: -1}), 0, of(3))
	wantDisk(t, "not the last one", d.Crash(api.Crash{Keep: []bool{true, true, false}, Torn: -1}), 0, of(2))
	wantDisk(t, "only the first one", d.Crash(api.Crash{Keep: []bool{true, false, false}, Torn: -1}), 0, of(1))
	wantDisk(t, "the last one torn over the second one", d.Crash(api.Crash{Keep: []bool{true}, Torn: 2, K: 9}), 0, mixed(3, 9, 2))
	wantDisk(t, "the last one torn over the first one", d.Crash(api.Crash{Keep: []bool{true, false, true}, Torn: 2, K: 9}), 0, mixed(3, 9, 1))
	wantDisk(t, "the second one torn, and the last one over it", d.Crash(api.Crash{Keep: []bool{true}, Torn: 1, K: 9}), 0, of(3))
	wantDisk(t, "the second one torn, and none over it", d.Crash(api.Crash{Keep: []bool{true, false, false}, Torn: 1, K: 200}), 0, mixed(2, 200, 1))
	wantDisk(t, "the first one torn alone", d.Crash(api.Crash{Torn: 0, K: 1}), 0, mixed(1, 1, 0))
}

// P3.3: without pending writes every crash leaves the same.
func TestCrashWithoutPendingWrites(t *testing.T) {
	d := device(t, 2)
	for _, c := range crashes(2) {
		wantDisk(t, "new", d.Crash(c), 0, of(0), of(0))
	}
	written(t, d, 0, of(1))
	synced(t, d)
	for _, c := range crashes(2) {
		wantDisk(t, "synced", d.Crash(c), 0, of(1), of(0))
	}
}

// P3.3: the new device is neither dead nor armed, as many sectors as it has, and though the old one is both.
func TestTheNewDeviceIsNeitherDeadNorArmed(t *testing.T) {
	for _, n := range []int{1, 2, 4096} {
		d := device(t, n)
		d.Arm(1)
		behind := d.Crash(api.Crash{})
		wantNotArmed(t, "behind a crash of an armed device", behind)
		written(t, d, n-1, of(1))
		behind = d.Crash(api.Crash{Keep: []bool{true}, Torn: -1})
		if behind.Len() != n {
			t.Errorf("%d sectors, want %d", behind.Len(), n)
		}
		wantNotArmed(t, "behind a crash of an armed device", behind)
		wantSector(t, "behind a crash of an armed device", behind, n-1, of(1))
		wantErrno(t, "the old device", d.Sync(), api.ErrDead)
		behind = d.Crash(api.Crash{Keep: []bool{true}, Torn: -1})
		wantDead(t, "behind a crash of a dead device", behind, false)
		wantNotArmed(t, "behind a crash of a dead device", behind)
		wantSector(t, "behind a crash of a dead device", behind, n-1, of(1))
		wantDead(t, "the old device", d, true)
	}
}

// P3.3: a dead device crashes like a living one, in every way and as often as one wants.
func TestCrashOfADeadDevice(t *testing.T) {
	d, m := busy(t)
	d.Arm(0)
	wantErrno(t, "the call that kills", d.Write(0, of(99)), api.ErrDead)
	for _, c := range crashes(5) {
		wantLike(t, "behind the crash", d.Crash(c), m.crash(c, -1))
	}
	m.dead = true
	wantLike(t, "before the crash", d, m)
}

// P3.3: on the new device everything is durable, and a crash behind a crash finds only what was written in between.
func TestCrashBehindACrash(t *testing.T) {
	d, m := busy(t)
	for _, first := range crashes(5)[:150] {
		a, x := d.Crash(first), m.crash(first, -1)
		wantLike(t, "at once", a.Crash(api.Crash{Torn: 0, K: 256}), x)
		written(t, a, 2, counted(50))
		x.write(2, counted(50))
		written(t, a, 2, of(51))
		x.write(2, of(51))
		for _, c := range crashes(2) {
			b, y := a.Crash(c), x.crash(c, -1)
			wantLike(t, "behind the second crash", b, y)
			wantLike(t, "behind the third crash", b.Crash(first), y)
		}
	}
}

// P3.3 and R3: the old device and the new ones do not affect each other, whatever becomes of each.
func TestOldAndNewDevicesAreSeparate(t *testing.T) {
	d, m := busy(t)
	c := api.Crash{Keep: []bool{true, false}, Torn: 4, K: 30}
	want := m.crash(c, -1)
	a, b := d.Crash(c), d.Crash(c)
	for i := range 3 {
		written(t, a, i, of(99))
	}
	wantLike(t, "the old device after writes to a new one", d, m)
	wantLike(t, "the other new device after writes to the first one", b, want)
	synced(t, a)
	a.Arm(0)
	wantErrno(t, "the first new device", a.Sync(), api.ErrDead)
	wantLike(t, "the old device after the death of a new one", d, m)
	wantLike(t, "the other new device after the death of the first one", b, want)
	wantLike(t, "a third new device", d.Crash(c), want)
	for i := range 3 {
		written(t, d, i, of(98))
	}
	synced(t, d)
	d.Arm(0)
	wantErrno(t, "the old device", d.Sync(), api.ErrDead)
	wantLike(t, "the other new device after writes to the old one", b, want)
	wantDurable(t, "the other new device after writes to the old one", b, want.durable...)
}

// P3.3: a crash leaves the count of an armed device alone.
func TestCrashLeavesTheOldDeviceArmed(t *testing.T) {
	d := device(t, 1)
	d.Arm(1)
	for range 5 {
		d.Crash(api.Crash{Keep: []bool{true}})
	}
	synced(t, d)
	d.Crash(api.Crash{})
	wantDead(t, "after the crashes", d, false)
	wantErrno(t, "the call that kills", d.Sync(), api.ErrDead)
}

// R3: Keep is neither changed nor kept.
func TestCrashLeavesKeepAlone(t *testing.T) {
	d, m := busy(t)
	keep := []bool{true, false, true}
	c := api.Crash{Keep: keep, Torn: 1, K: 5}
	behind, want := d.Crash(c), m.crash(c, -1)
	if !slices.Equal(keep, []bool{true, false, true}) {
		t.Errorf("Keep was changed to %v", keep)
	}
	clear(keep)
	wantLike(t, "after a change of Keep", behind, want)
}

// P3.5: what was synced is there behind every crash; of a sector that was overwritten since, each byte is of the synced sector or of a later write.
func TestSyncedStays(t *testing.T) {
	d := device(t, 3)
	written(t, d, 0, of(1))
	written(t, d, 1, counted(1))
	written(t, d, 1, counted(2))
	synced(t, d)
	written(t, d, 0, of(3))
	written(t, d, 2, of(4))
	written(t, d, 0, of(5))
	for _, c := range crashes(3) {
		behind := d.Crash(c)
		wantSector(t, "synced", behind, 1, counted(2))
		s, _ := behind.Read(0)
		for _, b := range s {
			if b != 1 && b != 3 && b != 5 {
				t.Fatalf("crash %v: a byte %d that nobody has written", c, b)
			}
		}
		for _, next := range crashes(2) {
			wantSector(t, "synced, behind two crashes", behind.Crash(next), 1, counted(2))
		}
	}
}

// The function that produces the writes that survive stops when nobody asks for more.
func TestSurvivorsStop(t *testing.T) {
	d, _ := busy(t)
	n := 0
	for w, k := range d.survivors(api.Crash{Keep: []bool{true}, Torn: 0}) {
		if n++; w.at != 2 || k != 256 {
			t.Errorf("got %d bytes of sector %d, want 256 of sector 2", k, w.at)
		}
		break
	}
	if n != 1 {
		t.Errorf("%d writes, want 1", n)
	}
}
