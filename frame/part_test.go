package frame

import (
	"bytes"
	"math"
	"testing"

	"bobbin/api"
)

func parted(t *testing.T, old, new []byte, k int) []byte {
	t.Helper()
	s, e := Part(old, new, k)
	if e != api.OK {
		t.Fatalf("Part with k %d: error %d", k, e)
	}
	return s
}

// P2.3: Part returns the first k bytes of new and the remaining ones of old, from none to all of them.
func TestPartTakesTheFirstBytes(t *testing.T) {
	old, new := make([]byte, 256), counted(256)
	for i := range old {
		old[i] = byte(253 + i%3) // bytes that new does not have
	}
	for k := range 257 {
		s := parted(t, old, new, k)
		if len(s) != 256 {
			t.Fatalf("k %d: %d bytes", k, len(s))
		}
		wantBytes(t, "written bytes", s[:k], new[:k])
		wantBytes(t, "remaining bytes", s[k:], old[k:])
	}
}

// P2.3: nothing written is the old sector, and everything written is the new one.
func TestPartOfNothingAndOfAll(t *testing.T) {
	old, new := make([]byte, 256), counted(256)
	wantBytes(t, "k 0", parted(t, old, new, 0), make([]byte, 256))
	wantBytes(t, "k 256", parted(t, old, new, 256), counted(256))
}

// P2.3: sectors need no stamps to be written in part, and one may be written over itself.
func TestPartTakesAnySectors(t *testing.T) {
	torn := laid([4]byte{1}, counted(248), [4]byte{2})
	for _, k := range []int{0, 1, 4, 128, 252, 255, 256} {
		wantBytes(t, "over itself", parted(t, torn, torn, k), torn)
	}
}

// P2.3: a sector that does not have 256 bytes is ErrArg, whatever of it would be needed.
func TestPartRefusesOtherLengths(t *testing.T) {
	odd := [][]byte{nil}
	for _, length := range []int{0, 1, 128, 248, 255, 257, 512, 70000} {
		odd = append(odd, make([]byte, length))
	}
	whole := make([]byte, 256)
	for _, b := range odd {
		for _, pair := range [][2][]byte{{b, whole}, {whole, b}, {b, b}} {
			for _, k := range []int{-1, 0, 1, 128, 255, 256, 257} {
				s, e := Part(pair[0], pair[1], k)
				wantNoSector(t, "odd length", s, e, api.ErrArg)
			}
		}
	}
}

// P2.3: a number of bytes that a sector does not have is ErrArg.
func TestPartRefusesOtherNumbersOfBytes(t *testing.T) {
	for _, k := range []int{math.MinInt, -257, -256, -2, -1, 257, 258, 512, 1 << 32, 1<<32 + 1, math.MaxInt} {
		s, e := Part(make([]byte, 256), make([]byte, 256), k)
		wantNoSector(t, "k", s, e, api.ErrArg)
	}
}

// R3: what Part is given is neither changed nor shared with the sector.
func TestPartOwnsItsSector(t *testing.T) {
	for _, k := range []int{0, 1, 128, 256} {
		old, new := make([]byte, 256), counted(256)
		want := append(counted(k), make([]byte, 256-k)...)
		s, other := parted(t, old, new, k), parted(t, old, new, k)
		for i := range s {
			s[i] = 252
		}
		s = append(s, 252)
		wantBytes(t, "old", old, make([]byte, 256))
		wantBytes(t, "new", new, counted(256))
		for i := range old {
			old[i], new[i] = 253, 254
		}
		wantBytes(t, "other sector", other, want)
	}
}

// R3: Part reads both arguments also where they share memory.
func TestPartOfSharedMemory(t *testing.T) {
	b := counted(300)
	want := append(counted(300)[40:140], counted(300)[100:256]...)
	wantBytes(t, "Part", parted(t, b[:256], b[40:296], 100), want)
	wantBytes(t, "arguments", b, counted(300))
}

// wantTornOrOne checks that each way to write new over old in part is torn or one of the two sectors.
func wantTornOrOne(t *testing.T, old, new []byte) {
	t.Helper()
	for k := range 257 {
		s := parted(t, old, new, k)
		_, _, e := Open(s)
		if e != api.ErrTorn && !bytes.Equal(s, old) && !bytes.Equal(s, new) {
			t.Errorf("stamps %v and %v, k %d: error %d, and neither sector", old[:4], new[:4], k, e)
		}
	}
}

// P2.4: of sectors with different stamps, whichever bytes of these differ, Part makes nothing else than a torn one or one of the two.
func TestPartIsTornOrOneOfTwo(t *testing.T) {
	for _, x := range stamps {
		for _, y := range stamps {
			if x.n != y.n {
				wantTornOrOne(t, sealed(t, x.n, counted(248)), sealed(t, y.n, []byte{9}))
			}
		}
	}
}

// P2.4: a part that ends within a stamp is torn from the first byte that differs on, and whole from the last one on.
func TestPartThatEndsWithinAStamp(t *testing.T) {
	for _, c := range []struct {
		old, new    int
		first, last int // k from which on it is torn, and the new sector
	}{
		{258, 259, 1, 253},
		{0x01010101, 0x01010201, 2, 254},
		{0x01010101, 0x01020101, 3, 255},
		{0x01010101, 0x02010101, 4, 256},
		{0x01010101, 0x01020201, 2, 255},
		{0x01010101, 0x02010102, 1, 256},
		{0, 1<<32 - 1, 1, 256},
	} {
		old, new := sealed(t, c.old, counted(200)), sealed(t, c.new, counted(100))
		for k := range 257 {
			s := parted(t, old, new, k)
			switch {
			case k < c.first:
				wantBytes(t, "before the stamps differ", s, old)
				wantOpen(t, "before the stamps differ", s, padded(counted(200)), c.old)
			case k < c.last:
				wantNotOpen(t, "between", s, api.ErrTorn)
			default:
				wantBytes(t, "after the stamps differ", s, new)
				wantOpen(t, "after the stamps differ", s, padded(counted(100)), c.new)
			}
		}
	}
}

// P1, R1 and P2.4: whatever is sealed, written in part and opened, each call returns, and what opens is one of the two.
func FuzzFrame(f *testing.F) {
	f.Add(258, []byte{9}, 259, []byte{8, 7}, 200)
	f.Add(0, []byte{}, 1<<32-1, []byte{1}, 253)
	f.Add(-1, []byte(nil), 1<<32, make([]byte, 249), 257)
	f.Fuzz(func(t *testing.T, m int, a []byte, n int, b []byte, k int) {
		old, oldE := Seal(m, a)
		new, newE := Seal(n, b)
		s, e := Part(old, new, k)
		may := oldE == api.OK && newE == api.OK && k >= 0 && k <= 256
		if may != (e == api.OK) {
			t.Fatalf("Part with k %d: errors %d, %d, %d", k, oldE, newE, e)
		}
		room, stamp, e := Open(s)
		if e != api.OK || m == n {
			return
		}
		isOld := stamp == m && bytes.Equal(room, padded(a))
		isNew := stamp == n && bytes.Equal(room, padded(b))
		if !isOld && !isNew {
			t.Fatalf("stamps %d and %d, k %d: neither sector", m, n, k)
		}
	})
}
