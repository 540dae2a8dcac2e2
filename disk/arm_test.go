package disk

import (
	"math"
	"testing"

	"bobbin/api"
)

// P3.2: the n-th call of Write or Sync from Arm on kills the device, whichever of the two each call is.
func TestArmCountsWritesAndSyncs(t *testing.T) {
	for n := range 7 {
		for calls := range 1 << (n + 1) { // bit i: call i is Sync
			d, m := device(t, 2), modelOf(2)
			d.Arm(n)
			m.fuse = n
			for i := range n + 1 {
				wantDead(t, "before the last call", d, false)
				if calls>>i&1 == 1 {
					wantErrno(t, "Sync", d.Sync(), m.sync())
				} else {
					wantErrno(t, "Write", d.Write(i%2, counted(byte(i+1))), m.write(i%2, counted(byte(i+1))))
				}
			}
			wantDead(t, "after the last call", d, true)
			wantWaits(t, "after the last call", d, len(m.at))
			for _, c := range []api.Crash{{Torn: -1}, {Keep: []bool{true}, Torn: -1}} {
				wantLike(t, "behind a crash", d.Crash(c), m.crash(c, -1))
			}
		}
	}
}

// P3.2: the call that kills does nothing else: no write is pending, and none becomes durable.
func TestTheCallThatKillsDoesNothingElse(t *testing.T) {
	all := api.Crash{Keep: []bool{true}, Torn: -1}
	d := device(t, 2)
	written(t, d, 0, of(1))
	d.Arm(0)
	wantErrno(t, "Write", d.Write(1, of(2)), api.ErrDead)
	wantDead(t, "after Write", d, true)
	wantWaits(t, "after Write", d, 1)
	wantDurable(t, "after Write", d, of(0), of(0))
	wantDisk(t, "after Write", d.Crash(all), 0, of(1), of(0))

	d = device(t, 2)
	written(t, d, 0, of(1))
	d.Arm(0)
	wantErrno(t, "Sync", d.Sync(), api.ErrDead)
	wantDead(t, "after Sync", d, true)
	wantWaits(t, "after Sync", d, 1)
	wantDurable(t, "after Sync", d, of(0), of(0))
	wantDisk(t, "after Sync", d.Crash(all), 0, of(1), of(0))
}

// P3.2: the calls before the one that kills do what they do on a device that is not armed.
func TestTheCallsBeforeTheLastAreDone(t *testing.T) {
	d := device(t, 2)
	d.Arm(3)
	written(t, d, 0, of(1))
	wantDisk(t, "after Write", d, 1, of(1), of(0))
	synced(t, d)
	wantDurable(t, "after Sync", d, of(1), of(0))
	written(t, d, 1, of(2))
	wantDisk(t, "after the next Write", d, 1, of(1), of(2))
	wantErrno(t, "the call that kills", d.Write(0, of(3)), api.ErrDead)
	wantDisk(t, "behind a crash", d.Crash(api.Crash{Keep: []bool{true}, Torn: -1}), 0, of(1), of(2))
}

// P3.2: calls with an error, and those of other functions, are not counted.
func TestOtherCallsAreNotCounted(t *testing.T) {
	for n := range 3 {
		d := device(t, 2)
		d.Arm(n)
		for left := n; left >= 0; left-- {
			for range 5 {
				wantErrno(t, "no such place", d.Write(-1, of(1)), api.ErrNone)
				wantErrno(t, "no such place", d.Write(2, of(1)), api.ErrNone)
				wantErrno(t, "no sector", d.Write(0, make([]byte, 255)), api.ErrArg)
				wantErrno(t, "no sector", d.Write(0, nil), api.ErrArg)
				wantNotRead(t, "no such place", d, 2, api.ErrNone)
				wantSector(t, "Read", d, 1, of(0))
				wantDead(t, "Dead", d, false)
				wantWaits(t, "Waits", d, n-left)
				wantNotArmed(t, "behind a crash", d.Crash(api.Crash{}))
			}
			if left > 0 {
				written(t, d, 0, of(1))
			}
		}
		wantErrno(t, "the call that kills", d.Write(0, of(1)), api.ErrDead)
		wantDead(t, "after that call", d, true)
	}
}

// P3.2: a device that is armed again counts anew, from fewer calls and from more.
func TestArmAgainCountsAnew(t *testing.T) {
	for _, c := range []struct{ first, done, then int }{
		{0, 0, 0}, {0, 0, 3}, {1, 1, 1}, {1, 1, 0}, {3, 2, 2}, {5, 2, 1}, {2, 0, 5}, {7, 0, 0}, {math.MaxInt, 4, 1}, {-1, 4, 2},
	} {
		d := device(t, 1)
		d.Arm(c.first)
		for range c.done {
			synced(t, d)
		}
		d.Arm(c.then)
		for range c.then {
			written(t, d, 0, of(1))
		}
		wantErrno(t, "the call that kills", d.Sync(), api.ErrDead)
		wantDead(t, "after that call", d, true)
	}
}

// P3.2: a negative number disarms, and a device may be armed thereafter; so may one that was never armed be disarmed.
func TestArmWithNegativeDisarms(t *testing.T) {
	for _, n := range []int{-1, -2, -256, math.MinInt} {
		d := device(t, 1)
		d.Arm(n)
		wantNotArmed(t, "never armed", d)
		for _, armed := range []int{0, 1, 20} {
			d.Arm(armed)
			d.Arm(n)
			wantNotArmed(t, "disarmed", d)
		}
		d.Arm(2)
		synced(t, d)
		synced(t, d)
		d.Arm(n)
		wantNotArmed(t, "disarmed at the last moment", d)
		d.Arm(0)
		wantErrno(t, "armed again", d.Sync(), api.ErrDead)
	}
}

// P3.2: a great number does not end soon.
func TestArmWithGreatNumbers(t *testing.T) {
	for _, n := range []int{1 << 31, 1 << 32, 1 << 40, math.MaxInt} {
		d := device(t, 1)
		d.Arm(n)
		wantNotArmed(t, "a great number", d)
	}
	d := device(t, 1)
	d.Arm(1000)
	for range 1000 {
		synced(t, d)
	}
	wantErrno(t, "call 1000", d.Sync(), api.ErrDead)
}

// P3.2: Arm does nothing to a dead device, and to no sector and no pending write.
func TestArmChangesNothingElse(t *testing.T) {
	d := device(t, 2)
	written(t, d, 0, of(1))
	synced(t, d)
	written(t, d, 1, of(2))
	for _, n := range []int{-1, 5, 0} {
		d.Arm(n)
		wantDisk(t, "armed", d, 1, of(1), of(2))
		wantDurable(t, "armed", d, of(1), of(0))
	}
	wantErrno(t, "the call that kills", d.Sync(), api.ErrDead)
	for _, n := range []int{-1, 0, 1, 5, math.MinInt, math.MaxInt} {
		d.Arm(n)
		wantDead(t, "dead", d, true)
		wantErrno(t, "dead", d.Sync(), api.ErrDead)
		wantErrno(t, "dead", d.Write(0, of(3)), api.ErrDead)
		wantNotRead(t, "dead", d, 0, api.ErrDead)
		wantWaits(t, "dead", d, 1)
		wantDurable(t, "dead", d, of(1), of(0))
	}
	if d.Len() != 2 {
		t.Errorf("a dead device has %d sectors, want 2", d.Len())
	}
}
