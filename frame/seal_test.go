package frame

import (
	"bytes"
	"math"
	"testing"

	"bobbin/api"
)

// badStamps are numbers that no stamp is, with those next to the least and the greatest one.
var badStamps = []int{math.MinInt, -(1 << 32), -258, -2, -1, 1 << 32, 1<<32 + 1, 1<<32 + 258, 1 << 33, 1 << 40, math.MaxInt}

// stamp is a stamp and its bytes in a sector.
type stamp struct {
	n int
	b [4]byte
}

var stamps = []stamp{
	{0, [4]byte{0, 0, 0, 0}},
	{1, [4]byte{1, 0, 0, 0}},
	{127, [4]byte{127, 0, 0, 0}},
	{128, [4]byte{128, 0, 0, 0}},
	{255, [4]byte{255, 0, 0, 0}},
	{256, [4]byte{0, 1, 0, 0}},
	{258, [4]byte{2, 1, 0, 0}},
	{259, [4]byte{3, 1, 0, 0}},
	{65535, [4]byte{255, 255, 0, 0}},
	{65536, [4]byte{0, 0, 1, 0}},
	{1 << 24, [4]byte{0, 0, 0, 1}},
	{1<<24 + 258, [4]byte{2, 1, 0, 1}},
	{0x04030201, [4]byte{1, 2, 3, 4}},
	{1<<31 - 1, [4]byte{255, 255, 255, 127}},
	{1 << 31, [4]byte{0, 0, 0, 128}},
	{1<<32 - 2, [4]byte{254, 255, 255, 255}},
	{1<<32 - 1, [4]byte{255, 255, 255, 255}},
}

// counted returns n bytes, none of them 0 and each different from its neighbours.
func counted(n int) []byte {
	b := make([]byte, n)
	for i := range b {
		b[i] = byte(i%251 + 1)
	}
	return b
}

// padded returns b with zeros up to 248 bytes.
func padded(b []byte) []byte {
	return append(bytes.Clone(b), make([]byte, 248-len(b))...)
}

// laid returns a sector as the document describes it, byte after byte.
func laid(first [4]byte, b []byte, last [4]byte) []byte {
	s := append([]byte{}, first[:]...)
	s = append(s, padded(b)...)
	return append(s, last[:]...)
}

func sealed(t *testing.T, stamp int, b []byte) []byte {
	t.Helper()
	s, e := Seal(stamp, b)
	if e != api.OK {
		t.Fatalf("Seal(%d) of %d bytes: error %d", stamp, len(b), e)
	}
	return s
}

func wantBytes(t *testing.T, what string, got, want []byte) {
	t.Helper()
	if !bytes.Equal(got, want) {
		t.Errorf("%s: got %v, want %v", what, got, want)
	}
}

func wantNoSector(t *testing.T, what string, s []byte, e, want api.Errno) {
	t.Helper()
	if e != want || len(s) != 0 {
		t.Errorf("%s: got %d bytes and error %d, want none and %d", what, len(s), e, want)
	}
}

// P2.1: the chapter's example.
func TestSealExample(t *testing.T) {
	want := append([]byte{2, 1, 0, 0, 9}, make([]byte, 247)...)
	want = append(want, 2, 1, 0, 0)
	wantBytes(t, "Seal(258) of 9", sealed(t, 258, []byte{9}), want)
}

// P2.1: the stamp stands at both ends in 4 bytes, little-endian, from the least to the greatest one.
func TestSealStampsBothEnds(t *testing.T) {
	for _, x := range stamps {
		wantBytes(t, "Seal", sealed(t, x.n, []byte{9, 8}), laid(x.b, []byte{9, 8}, x.b))
	}
}

// P2.1: between the stamps stand up to 248 bytes, padded with zeros.
func TestSealPadsWithZeros(t *testing.T) {
	m := [4]byte{2, 1, 0, 0}
	for n := range 249 {
		s := sealed(t, 258, counted(n))
		if len(s) != 256 {
			t.Errorf("%d bytes: the sector has %d", n, len(s))
		}
		wantBytes(t, "Seal", s, laid(m, counted(n), m))
	}
	wantBytes(t, "Seal of nil", sealed(t, 258, nil), laid(m, nil, m))
	wantBytes(t, "Seal of zeros", sealed(t, 258, make([]byte, 248)), laid(m, nil, m))
}

// P2.1: what stands in memory behind b is not part of it.
func TestSealTakesNothingBehindItsBytes(t *testing.T) {
	m := [4]byte{1, 2, 3, 4}
	b := counted(300)
	for _, n := range []int{0, 1, 247, 248} {
		wantBytes(t, "Seal", sealed(t, 0x04030201, b[:n]), laid(m, counted(n), m))
	}
}

// P2.1: a number that is no stamp is ErrArg, also with too many bytes.
func TestSealRefusesBadStamps(t *testing.T) {
	for _, n := range badStamps {
		for _, length := range []int{0, 1, 248, 249, 256, 1000} {
			s, e := Seal(n, make([]byte, length))
			wantNoSector(t, "bad stamp", s, e, api.ErrArg)
		}
		s, e := Seal(n, nil)
		wantNoSector(t, "bad stamp without bytes", s, e, api.ErrArg)
	}
}

// P2.1: more than 248 bytes are ErrLong.
func TestSealRefusesLongBytes(t *testing.T) {
	for _, x := range stamps {
		for _, length := range []int{249, 250, 252, 253, 256, 257, 496, 70000} {
			s, e := Seal(x.n, make([]byte, length))
			wantNoSector(t, "long bytes", s, e, api.ErrLong)
		}
	}
}

// R3: what Seal is given is neither changed nor shared with the sector.
func TestSealOwnsItsSector(t *testing.T) {
	m := [4]byte{2, 1, 0, 0}
	b := counted(248)
	s, other := sealed(t, 258, b), sealed(t, 258, b)
	wantBytes(t, "argument", b, counted(248))
	clear(b)
	wantBytes(t, "sector after a change of the argument", s, laid(m, counted(248), m))
	clear(s)
	wantBytes(t, "other sector after a change of the first one", other, laid(m, counted(248), m))
	s = append(s, 1, 2, 3)
	wantBytes(t, "other sector after an append to the first one", other, laid(m, counted(248), m))
	wantBytes(t, "argument after changes of the sectors", b, make([]byte, 248))
}

// R5: what was sealed before leaves no trace, not even bytes where padding is.
func TestSealDependsOnItsArgumentsOnly(t *testing.T) {
	sealed(t, 1<<32-1, counted(248))
	m := [4]byte{1, 0, 0, 0}
	wantBytes(t, "Seal", sealed(t, 1, []byte{9}), laid(m, []byte{9}, m))
}
