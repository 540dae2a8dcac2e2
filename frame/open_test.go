package frame

import (
	"testing"

	"bobbin/api"
)

func wantOpen(t *testing.T, what string, s, room []byte, n int) {
	t.Helper()
	b, got, e := Open(s)
	if e != api.OK || got != n {
		t.Errorf("%s: got stamp %d and error %d, want %d and none", what, got, e, n)
	}
	wantBytes(t, what, b, room)
}

func wantNotOpen(t *testing.T, what string, s []byte, want api.Errno) {
	t.Helper()
	b, n, e := Open(s)
	if e != want || n != 0 || len(b) != 0 {
		t.Errorf("%s: got %d bytes, stamp %d and error %d, want none, 0 and %d", what, len(b), n, e, want)
	}
}

// P2.2: Open returns all 248 bytes between the stamps, and the stamp, also of sectors that Seal has not made.
func TestOpenReturnsBytesAndStamp(t *testing.T) {
	for _, x := range stamps {
		for _, length := range []int{0, 1, 2, 247, 248} {
			wantOpen(t, "Open", laid(x.b, counted(length), x.b), padded(counted(length)), x.n)
		}
	}
	wantOpen(t, "Open of zeros", make([]byte, 256), make([]byte, 248), 0)
}

// P2.2: what does not have 256 bytes is ErrArg, whether its ends are alike or not.
func TestOpenRefusesOtherLengths(t *testing.T) {
	for _, length := range []int{0, 1, 3, 4, 7, 8, 248, 252, 254, 255, 257, 258, 260, 264, 511, 512, 70000} {
		wantNotOpen(t, "zeros", make([]byte, length), api.ErrArg)
		wantNotOpen(t, "ends that differ", counted(length), api.ErrArg)
	}
	wantNotOpen(t, "nil", nil, api.ErrArg)
	s := laid([4]byte{2, 1, 0, 0}, []byte{9}, [4]byte{2, 1, 0, 0})
	wantNotOpen(t, "a sector without its last byte", s[:255], api.ErrArg)
	wantNotOpen(t, "a sector without its first byte", s[1:], api.ErrArg)
	wantNotOpen(t, "a sector and one more byte", append(s, 0), api.ErrArg)
}

// P2.2: stamps that differ in any one bit are ErrTorn.
func TestOpenFindsEveryBitThatDiffers(t *testing.T) {
	for _, x := range stamps {
		for at := range 4 {
			for bit := range 8 {
				other := x.b
				other[at] ^= 1 << bit
				wantNotOpen(t, "last stamp", laid(x.b, counted(248), other), api.ErrTorn)
				wantNotOpen(t, "first stamp", laid(other, counted(248), x.b), api.ErrTorn)
			}
		}
	}
}

// P2.2: stamps are compared byte by byte at their places, not as sets of bytes or in the other order.
func TestOpenComparesStampsInOrder(t *testing.T) {
	for _, c := range [][2][4]byte{
		{{1, 2, 3, 4}, {4, 3, 2, 1}},
		{{1, 2, 3, 4}, {2, 1, 3, 4}},
		{{0, 0, 0, 1}, {1, 0, 0, 0}},
		{{1, 1, 0, 0}, {2, 0, 0, 0}},
		{{3, 3, 0, 0}, {5, 5, 0, 0}},
	} {
		wantNotOpen(t, "Open", laid(c[0], nil, c[1]), api.ErrTorn)
		wantNotOpen(t, "Open", laid(c[1], nil, c[0]), api.ErrTorn)
	}
}

// P2.2: the bytes between the stamps do not matter, not even those next to them.
func TestOpenLooksAtTheStampsOnly(t *testing.T) {
	for at := range 248 {
		room := make([]byte, 248)
		room[at] = 255
		m := [4]byte{2, 1, 0, 0}
		wantOpen(t, "Open", laid(m, room, m), room, 258)
	}
}

// R3: what Open is given is neither changed nor shared with the bytes that it returns.
func TestOpenOwnsItsBytes(t *testing.T) {
	m := [4]byte{2, 1, 0, 0}
	s := laid(m, counted(248), m)
	b, _, _ := Open(s)
	other, _, _ := Open(s)
	wantBytes(t, "argument", s, laid(m, counted(248), m))
	clear(b)
	b = append(b, 7, 7, 7, 7)
	wantBytes(t, "argument after changes of the bytes", s, laid(m, counted(248), m))
	wantBytes(t, "other bytes after changes of the first ones", other, counted(248))
	clear(s)
	wantBytes(t, "bytes after a change of the argument", other, counted(248))
}

// P2.4: opening a sealed sector yields the bytes, padded with zeros, and the stamp.
func TestOpenAfterSeal(t *testing.T) {
	for length := range 249 {
		wantOpen(t, "every length", sealed(t, 258, counted(length)), padded(counted(length)), 258)
	}
	for x := range 256 {
		b := []byte{byte(x), 0, byte(255 - x)}
		wantOpen(t, "every byte", sealed(t, x, b), padded(b), x)
	}
	for bit := range 32 {
		for _, n := range []int{1 << bit, 1<<(bit+1) - 1, 1<<32 - 1 - 1<<bit} {
			wantOpen(t, "every bit of a stamp", sealed(t, n, counted(248)), counted(248), n)
		}
	}
	wantOpen(t, "nil", sealed(t, 0, nil), make([]byte, 248), 0)
	wantOpen(t, "the greatest stamp", sealed(t, 1<<32-1, nil), make([]byte, 248), 1<<32-1)
}
