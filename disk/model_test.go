package disk

import (
	"bytes"
	"math"
	"slices"
	"testing"

	"bobbin/api"
)

// of returns a sector whose bytes are all b.
func of(b byte) []byte {
	return bytes.Repeat([]byte{b}, 256)
}

// counted returns a sector whose neighbouring bytes differ, from first on.
func counted(first byte) []byte {
	s := make([]byte, 256)
	for i := range s {
		s[i] = first + byte(i)
	}
	return s
}

func device(t *testing.T, n int) *Disk {
	t.Helper()
	d, e := New(n)
	if e != api.OK || d == nil {
		t.Fatalf("New(%d): device %v and error %d, want one and none", n, d, e)
	}
	return d
}

func written(t *testing.T, d *Disk, i int, s []byte) {
	t.Helper()
	wantErrno(t, "Write", d.Write(i, s), api.OK)
}

func synced(t *testing.T, d *Disk) {
	t.Helper()
	wantErrno(t, "Sync", d.Sync(), api.OK)
}

func wantErrno(t *testing.T, what string, got, want api.Errno) {
	t.Helper()
	if got != want {
		t.Errorf("%s: got error %d, want %d", what, got, want)
	}
}

func wantWaits(t *testing.T, what string, d *Disk, want int) {
	t.Helper()
	if got := d.Waits(); got != want {
		t.Errorf("%s: %d writes are pending, want %d", what, got, want)
	}
}

func wantDead(t *testing.T, what string, d *Disk, want bool) {
	t.Helper()
	if got := d.Dead(); got != want {
		t.Errorf("%s: dead %t, want %t", what, got, want)
	}
}

func wantSector(t *testing.T, what string, d *Disk, i int, want []byte) {
	t.Helper()
	s, e := d.Read(i)
	if e != api.OK || !bytes.Equal(s, want) {
		t.Errorf("%s: sector %d: got %v and error %d, want %v", what, i, s, e, want)
	}
}

func wantNotRead(t *testing.T, what string, d *Disk, i int, want api.Errno) {
	t.Helper()
	s, e := d.Read(i)
	if e != want || len(s) != 0 {
		t.Errorf("%s: sector %d: got %d bytes and error %d, want none and %d", what, i, len(s), e, want)
	}
}

// wantDisk checks all that can be seen of a device that is not dead.
func wantDisk(t *testing.T, what string, d *Disk, waits int, sectors ...[]byte) {
	t.Helper()
	wantDead(t, what, d, false)
	wantWaits(t, what, d, waits)
	if d.Len() != len(sectors) {
		t.Fatalf("%s: %d sectors, want %d", what, d.Len(), len(sectors))
	}
	for i, s := range sectors {
		wantSector(t, what, d, i, s)
	}
}

// wantDurable checks what of a device, dead or not, no crash takes away.
func wantDurable(t *testing.T, what string, d *Disk, sectors ...[]byte) {
	t.Helper()
	wantDisk(t, what, d.Crash(api.Crash{Torn: -1}), 0, sectors...)
}

// wantNotArmed checks that a device carries out many calls.
func wantNotArmed(t *testing.T, what string, d *Disk) {
	t.Helper()
	for range 40 {
		wantErrno(t, what, d.Sync(), api.OK)
	}
	wantDead(t, what, d, false)
}

// model is a device in its plainest form: what is durable, and every write since, which it goes through again for each answer.
type model struct {
	durable [][]byte
	at      []int
	written [][]byte
	fuse    int // how many calls are left; negative: not armed
	dead    bool
}

func modelOf(n int) *model {
	m := &model{fuse: -1}
	for range n {
		m.durable = append(m.durable, of(0))
	}
	return m
}

func (m *model) read(i int) ([]byte, api.Errno) {
	if m.dead {
		return nil, api.ErrDead
	}
	if i < 0 || i >= len(m.durable) {
		return nil, api.ErrNone
	}
	s := m.durable[i]
	for n, at := range m.at {
		if at == i {
			s = m.written[n]
		}
	}
	return s, api.OK
}

// burns reports whether the device dies instead of carrying out a call.
func (m *model) burns() bool {
	m.dead = m.fuse == 0
	m.fuse = max(m.fuse-1, -1)
	return m.dead
}

func (m *model) write(i int, s []byte) api.Errno {
	if _, e := m.read(i); e != api.OK {
		return e
	}
	if len(s) != 256 {
		return api.ErrArg
	}
	if m.burns() {
		return api.ErrDead
	}
	m.at = append(m.at, i)
	m.written = append(m.written, bytes.Clone(s))
	return api.OK
}

func (m *model) sync() api.Errno {
	if m.dead || m.burns() {
		return api.ErrDead
	}
	*m = *m.crash(api.Crash{Keep: []bool{true}, Torn: -1}, m.fuse)
	return api.OK
}

func (m *model) crash(c api.Crash, fuse int) *model {
	after := modelOf(len(m.durable))
	after.fuse = fuse
	for i := range m.durable {
		copy(after.durable[i], m.durable[i])
	}
	for n, at := range m.at {
		for i := range 256 {
			survives := len(c.Keep) != 0 && c.Keep[n%len(c.Keep)]
			if n == c.Torn {
				survives = i < c.K
			}
			if survives {
				after.durable[at][i] = m.written[n][i]
			}
		}
	}
	return after
}

// wantLike checks all that can be seen of a device against its model.
func wantLike(t *testing.T, what string, d *Disk, m *model) {
	t.Helper()
	wantDead(t, what, d, m.dead)
	wantWaits(t, what, d, len(m.at))
	if d.Len() != len(m.durable) {
		t.Fatalf("%s: %d sectors, want %d", what, d.Len(), len(m.durable))
	}
	for i := -1; i <= len(m.durable); i++ {
		want, wantE := m.read(i)
		s, e := d.Read(i)
		if e != wantE || !bytes.Equal(s, want) {
			t.Fatalf("%s: sector %d: got %v and error %d, want %v and %d", what, i, s, e, want, wantE)
		}
	}
}

// crashes returns ways to crash with up to n pending writes: every choice of those that are kept, and each of them torn at several places.
func crashes(n int) []api.Crash {
	var l []api.Crash
	for set := range 1 << n {
		keep := make([]bool, n)
		for i := range keep {
			keep[i] = set>>i&1 == 1
		}
		for torn := -2; torn <= n+1; torn++ {
			for _, k := range []int{math.MinInt, -1, 0, 1, 100, 255, 256, 257, math.MaxInt} {
				l = append(l, api.Crash{Keep: slices.Clone(keep), Torn: torn, K: k})
			}
		}
	}
	return l
}

// P3.1, P3.2, P3.3, P1 and R2: whatever is done to a device, to the devices behind its crashes and to dead ones, each answer is that of the model.
func FuzzDisk(f *testing.F) {
	f.Add(2, []byte{0, 0, 0, 1, 0, 1, 2, 3, 4, 5, 6, 7})
	f.Add(1, []byte{3, 1, 0, 0, 5, 0, 0, 7, 4, 0, 1, 0, 9, 0})
	f.Add(3, []byte{0, 0, 1, 0, 1, 2, 0, 0, 3, 4, 77, 0, 0, 1, 4, 200, 1, 1, 0, 0, 3, 2, 0, 0, 0, 1, 1, 4, 5, 6})
	f.Add(4096, []byte{0, 255, 9, 1, 0, 254, 8, 4, 1, 1})
	f.Add(4097, []byte{0})
	f.Fuzz(func(t *testing.T, n int, program []byte) {
		d, e := New(n)
		if n < 1 || n > 4096 {
			if d != nil || e != api.ErrArg {
				t.Fatalf("New(%d): error %d", n, e)
			}
			return
		}
		m := modelOf(n)
		next := func() int {
			if len(program) == 0 {
				return 0
			}
			b := program[0]
			program = program[1:]
			return int(b)
		}
		for len(program) > 0 {
			d, m = stepBoth(t, d, m, next)
		}
		if n <= 8 {
			wantLike(t, "at the end", d, m)
		}
	})
}

// stepBoth does one thing to a device and its model, chosen by the numbers that next returns.
func stepBoth(t *testing.T, d *Disk, m *model, next func() int) (*Disk, *model) {
	switch next() % 6 {
	case 0, 1:
		i, b := next()%(min(len(m.durable), 200)+2)-1, byte(next())
		wantErrno(t, "Write", d.Write(i, counted(b)), m.write(i, counted(b)))
		s, e := d.Read(i)
		want, wantE := m.read(i)
		if e != wantE || !bytes.Equal(s, want) {
			t.Fatalf("sector %d: got %v and error %d, want %v and %d", i, s, e, want, wantE)
		}
	case 2:
		wantErrno(t, "Sync", d.Sync(), m.sync())
	case 3:
		n := next()%8 - 1
		d.Arm(n)
		m.fuse = n
	case 4:
		c := api.Crash{Torn: next()%10 - 1, K: next()*2 - 100}
		for range next() % 5 {
			c.Keep = append(c.Keep, next()%2 == 1)
		}
		return d.Crash(c), m.crash(c, -1)
	case 5:
		length := []int{0, 255, 257}[next()%3]
		wantErrno(t, "Write of another length", d.Write(0, make([]byte, length)), m.write(0, make([]byte, length)))
	}
	wantDead(t, "after a step", d, m.dead)
	wantWaits(t, "after a step", d, len(m.at))
	return d, m
}
