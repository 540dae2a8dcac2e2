package wal

import (
	"slices"
	"strconv"
	"strings"
	"testing"

	"bobbin/api"
	"bobbin/disk"
)

// run is a log in use, and what is promised of it: all records that were appended from its start on, how many of them were forced, and how many there were of all.
type run struct {
	d                    *disk.Disk
	l                    *Log
	base, n, epoch, mark int
	all                  []api.Logged
	forced               int
}

func begun(t *testing.T, d *disk.Disk, base, n, seq int) *run {
	t.Helper()
	return &run{d: d, l: logOf(t, d, base, n, 1, seq, seq), base: base, n: n, epoch: 1}
}

// fresh returns a record that no other one is equal to, of one of three lengths.
func (r *run) fresh(op rune) api.Rec {
	r.mark++
	switch op {
	case 's':
		return api.Rec{Kind: api.RecDone, At: r.mark}
	case 'm':
		x := clr(32)
		x.Next = r.mark
		return x
	}
	x := most()
	x.Prev = r.mark
	return x
}

// step does what a letter says: s, m and b append a short, a middle and a big record, f forces the log, and c cuts it to the last sector that is durable. It reports whether the device is alive.
func (r *run) step(t *testing.T, op rune) bool {
	t.Helper()
	switch op {
	case 's', 'm', 'b':
		x := r.fresh(op)
		n, e := r.l.Append(x)
		if e == api.OK {
			r.all = append(r.all, api.Logged{LSN: n, R: x})
		} else if e != api.ErrFull && e != api.ErrDead {
			t.Fatalf("Append returned the error %d", e)
		}
	case 'f':
		if r.l.Force() == api.OK {
			r.forced = len(r.all)
		}
	case 'c':
		r.cut(t)
	}
	r.check(t)
	return !r.d.Dead()
}

// cut cuts the log at its last durable sector: one that is durable is there when the log is read, as the start must be.
func (r *run) cut(t *testing.T) {
	t.Helper()
	seq := r.l.Durable()/256 - 1
	if seq < r.l.Start() {
		return
	}
	wantErrno(t, "Cut", r.l.Cut(seq), api.OK)
	for len(r.all) > 0 && r.all[0].LSN < 256*seq {
		r.all = r.all[1:]
		r.forced--
	}
}

// check checks what is promised of the LSNs: they increase, Next is greater than all of them, and Durable is greater than exactly those that are durable.
func (r *run) check(t *testing.T) {
	t.Helper()
	last := -1
	for i, x := range r.all {
		if x.LSN <= last {
			t.Fatalf("the LSN %d comes after %d", x.LSN, last)
		}
		last = x.LSN
		if i < r.forced && x.LSN >= r.l.Durable() {
			t.Fatalf("the LSN %d was forced, and Durable is %d", x.LSN, r.l.Durable())
		}
	}
	if last >= r.l.Next() || r.l.Durable() > r.l.Next() || r.l.Next()%256 != 0 || r.l.Durable()%256 != 0 {
		t.Fatalf("the last LSN is %d, Next is %d, and Durable is %d", last, r.l.Next(), r.l.Durable())
	}
	if f := r.l.Free(); f < 0 || f > r.n {
		t.Fatalf("%d sectors are free", f)
	}
}

// crashed returns the run that continues after a crash with what was read, which it checks: a prefix of what was appended that contains all that was forced, and all that Durable says.
func (r *run) crashed(t *testing.T, what string, c api.Crash) *run {
	t.Helper()
	d := r.d.Crash(c)
	l, end, epoch, e := Read(d, r.base, r.n, r.l.Start())
	if e != api.OK || len(l) > len(r.all) || !slices.EqualFunc(l, r.all[:len(l)], same) {
		t.Fatalf("%s, %v: Read returned %v and the error %d, which is no prefix of %v", what, c, l, e, r.all)
	}
	if len(l) < r.forced || end < r.l.Durable()/256 {
		t.Fatalf("%s, %v: %d records and the end %d were read, and %d were forced, up to %d", what, c, len(l), end, r.forced, r.l.Durable()/256)
	}
	if epoch > r.epoch || len(l) > 0 && (epoch == 0 || l[len(l)-1].LSN/256 != end-1) {
		t.Fatalf("%s, %v: Read returned the end %d and the epoch %d for %v", what, c, end, epoch, l)
	}
	after := &run{d: d, l: logOf(t, d, r.base, r.n, r.epoch+1, r.l.Start(), end), base: r.base, n: r.n, epoch: r.epoch + 1, mark: r.mark + 1000, all: l, forced: len(l)}
	after.check(t)
	return after
}

// P8.5: a log is crashed at every write and sync, with every choice of the writes that are kept or torn, and so is the log that continues after this. What is read is always a prefix of what was appended, with all that was forced.
func TestCrashAtEveryStep(t *testing.T) {
	for _, script := range []string{
		"sbbbbbfsbbbbf",
		"bfbfbfcbfbbbbbfcb",
		"sfmmmmmmmmmmmmf",
		"bbbbbbbbb",
		"ssssfcsfcsfcsfcsfcbbbb",
	} {
		for k := 0; ; k++ {
			r := begun(t, device(t, 7), 1, 5, 3)
			r.d.Arm(k)
			alive := play(t, r, script)
			for _, c := range crashes(r.d.Waits()) {
				what := script + " up to the call " + strconv.Itoa(k)
				again(t, what, r.crashed(t, what, c), 2)
			}
			if alive {
				break
			}
		}
	}
}

// play does what the letters of a script say, as long as the device is alive.
func play(t *testing.T, r *run, script string) bool {
	t.Helper()
	for _, op := range script {
		if !r.step(t, op) {
			return false
		}
	}
	return true
}

// again continues after a crash, with pending writes or forced ones, and crashes so many times more.
func again(t *testing.T, what string, r *run, times int) {
	t.Helper()
	for _, script := range []string{"bbbbbbb", "bfc", "mf", ""} {
		next := &run{d: r.d.Crash(api.Crash{}), base: r.base, n: r.n, epoch: r.epoch, mark: r.mark, all: slices.Clone(r.all), forced: r.forced}
		next.l = logOf(t, next.d, r.base, r.n, r.epoch, r.l.Start(), r.l.next)
		play(t, next, script)
		for _, c := range []api.Crash{{Torn: -1}, {Keep: []bool{false, true}, Torn: -1}, {Keep: []bool{true, false}, Torn: 1, K: 254}, {Keep: []bool{true}, Torn: -1}} {
			after := next.crashed(t, what+", then "+script, c)
			if times > 1 {
				again(t, what+", then "+script, after, times-1)
			}
		}
	}
}

// P8.5: the document's example of the whole: of two pending log sectors only the second one survives, and nothing of both is read.
func TestOnlyTheSecondOneSurvives(t *testing.T) {
	d := device(t, 4)
	l := logOf(t, d, 0, 4, 1, 0, 0)
	for range 7 {
		l.Append(most())
	}
	if d.Waits() != 2 {
		t.Fatalf("%d writes are pending, want 2", d.Waits())
	}
	wantRead(t, "only the second one", d.Crash(api.Crash{Keep: []bool{false, true}, Torn: -1}), 0, 4, 0, nil, 0, 0)
	wantRead(t, "the first one torn", d.Crash(api.Crash{Keep: []bool{true}, Torn: 0, K: 255}), 0, 4, 0, nil, 0, 0)
	wantRead(t, "only the first one", d.Crash(api.Crash{Keep: []bool{true, false}, Torn: -1}), 0, 4, 0, []api.Logged{{LSN: 0, R: most()}, {LSN: 1, R: most()}, {LSN: 2, R: most()}}, 1, 1)
}

// P8.5: a log that is forced and cut goes round its ring many times, and is read back all the time.
func TestRoundAndRound(t *testing.T) {
	for n := 2; n < 6; n++ {
		r := begun(t, device(t, 8), 2, n, 0)
		for i := range 300 {
			for _, op := range []rune("sfc") {
				r.step(t, op)
			}
			if len(r.all) != 1 || r.all[0].LSN != 256*i || r.forced != 1 {
				t.Fatalf("%d: there are %d records", i, len(r.all))
			}
			wantRead(t, "round "+strconv.Itoa(i), r.d, 2, n, i, r.all, i+1, 1)
		}
	}
}

// P8.5: what was lost stays lost: a sector that survived behind a gap is not read once the gap is filled, and a sector of an epoch whose first one was lost is not read after an older one.
func TestWhatWasLostStaysLost(t *testing.T) {
	r := begun(t, device(t, 8), 0, 8, 0)
	play(t, r, "sfbbbbbbb")
	r = r.crashed(t, "behind a gap", api.Crash{Keep: []bool{false, true}, Torn: -1})
	if len(r.all) != 1 || r.l.next != 1 {
		t.Fatalf("%d records were read, up to the sector %d", len(r.all), r.l.next)
	}
	play(t, r, "sf")
	r = r.crashed(t, "the gap is filled", api.Crash{Torn: -1})
	if len(r.all) != 2 || r.l.next != 2 {
		t.Fatalf("%d records were read, up to the sector %d", len(r.all), r.l.next)
	}
}

// P8.4 and P8.5: a log that continues before the end of an older one overwrites it sector by sector; where the first of its sectors are lost, those after them do not follow the older ones.
func TestOlderSectorsInPlaceOfLostOnes(t *testing.T) {
	d := device(t, 8)
	l := logOf(t, d, 0, 8, 1, 0, 0)
	for range 4 {
		l.Append(bare)
		wantForced(t, "the older one", l)
	}
	l = logOf(t, d, 0, 8, 2, 0, 1)
	for range 9 {
		l.Append(most())
	}
	wantForcedNot(t, l, d)
	for _, c := range []struct {
		keep         string
		records, end int
	}{{"---", 4, 4}, {"k--", 4, 2}, {"-k-", 2, 2}, {"--k", 3, 3}, {"kk-", 7, 3}, {"k-k", 4, 2}, {"-kk", 2, 2}, {"kkk", 10, 4}} {
		keep := make([]bool, 3)
		for i := range keep {
			keep[i] = strings.HasPrefix(c.keep[i:], "k")
		}
		x, end, _, e := Read(d.Crash(api.Crash{Keep: keep, Torn: -1}), 0, 8, 0)
		if len(x) != c.records || end != c.end || e != api.OK {
			t.Errorf("%s: %d records up to the sector %d and the error %d, want %d and %d", c.keep, len(x), end, e, c.records, c.end)
		}
	}
}

// wantForcedNot lets the device die at the sync of Force, so that all that was written is pending.
func wantForcedNot(t *testing.T, l *Log, d *disk.Disk) {
	t.Helper()
	d.Arm(1)
	wantErrno(t, "Force", l.Force(), api.ErrDead)
	if d.Waits() != 3 {
		t.Fatalf("%d writes are pending, want 3", d.Waits())
	}
}

// P8.5: any script, crashed at any call in any way, again and again.
func FuzzCrash(f *testing.F) {
	f.Add(uint8(3), []byte("sbbbbbfsbbbbf\x03bbbbb"))
	f.Add(uint8(0), []byte("bfcbfcbfc\x01\x02bbb\x05\x05\x05bbbfmmmmf\x09\x01bb"))
	f.Add(uint8(6), []byte("mmmmmmmmmm\x00\x01\x02\x01\x04\x01sf\x00bbbbfbbbbbb\x02\x01"))
	f.Fuzz(func(t *testing.T, size uint8, program []byte) {
		r := begun(t, device(t, 12), 1, int(size)%10+2, 0)
		p := &program
		for len(*p) > 0 && r.epoch < 255 {
			op := take(p)
			if op < 8 {
				r.d.Arm(op)
			}
			if r.step(t, rune(op)) && op != 'x' {
				continue
			}
			keep := make([]bool, 4)
			set := take(p)
			for i := range keep {
				keep[i] = set>>i&1 == 1
			}
			r = r.crashed(t, "any crash", api.Crash{Keep: keep, Torn: take(p)%5 - 1, K: take(p)})
		}
	})
}
