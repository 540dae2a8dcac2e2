package byt

import (
	"testing"

	"bobbin/api"
)

func wantGet(t *testing.T, r *Reader, width, n int, e api.Errno, left int) {
	t.Helper()
	if gotN, gotE := r.Get(width); gotN != n || gotE != e {
		t.Errorf("Get(%d): got %d, %d, want %d, %d", width, gotN, gotE, n, e)
	}
	if r.Left() != left {
		t.Errorf("after Get(%d): %d left, want %d", width, r.Left(), left)
	}
}

func wantTake(t *testing.T, r *Reader, want []byte, e api.Errno, left int) {
	t.Helper()
	got, gotE := r.Take()
	if gotE != e {
		t.Errorf("Take: got error %d, want %d", gotE, e)
	}
	wantBytes(t, "Take", got, want...)
	if r.Left() != left {
		t.Errorf("after Take: %d left, want %d", r.Left(), left)
	}
}

// P1.2: a new Reader is at the beginning.
func TestNewReaderIsAtTheBeginning(t *testing.T) {
	for _, n := range []int{0, 1, 2, 255, 256, 1000} {
		r := NewReader(counted(n))
		if r == nil || r.Left() != n {
			t.Errorf("%d bytes: Left does not say so", n)
		}
	}
	wantGet(t, NewReader([]byte{5, 6}), 1, 5, api.OK, 1)
}

// P1.2: Get reads little-endian numbers without a sign, one after the other.
func TestGetReadsLittleEndian(t *testing.T) {
	r := NewReader([]byte{200, 2, 1, 1, 2, 3, 4, 255, 255, 255, 255, 0, 128, 255})
	wantGet(t, r, 1, 200, api.OK, 13)
	wantGet(t, r, 2, 258, api.OK, 11)
	wantGet(t, r, 4, 0x04030201, api.OK, 7)
	wantGet(t, r, 4, 1<<32-1, api.OK, 3)
	wantGet(t, r, 2, 32768, api.OK, 1)
	wantGet(t, r, 1, 255, api.OK, 0)
	wantGet(t, r, 1, 0, api.ErrShort, 0)
}

// P1.2: bytes that end exactly where a number ends are enough; one less is not, and is not consumed.
func TestGetAtTheEnd(t *testing.T) {
	for _, width := range []int{1, 2, 4} {
		whole := []byte{1, 0, 0, 0}[:width]
		wantGet(t, NewReader(whole), width, 1, api.OK, 0)
		for n := range width {
			r := NewReader(whole[:n])
			wantGet(t, r, width, 0, api.ErrShort, n)
			for i := range n {
				wantGet(t, r, 1, int(whole[i]), api.OK, n-i-1)
			}
		}
	}
}

// P1.2: a width that may not be is ErrArg, also where too few bytes are left, and consumes nothing.
func TestGetRefusesBadWidths(t *testing.T) {
	for _, n := range []int{0, 1, 2, 4, 300} {
		r := NewReader(counted(n))
		for _, width := range badWidths {
			wantGet(t, r, width, 0, api.ErrArg, n)
		}
		if n > 0 {
			wantGet(t, r, 1, 1, api.OK, n-1)
		}
	}
}

// P1.2: Take reads a length and as many bytes, and leaves those after them.
func TestTakeReadsBytes(t *testing.T) {
	for _, n := range []int{0, 1, 2, 127, 128, 254, 255} {
		b := append([]byte{byte(n)}, counted(n)...)
		wantTake(t, NewReader(b), counted(n), api.OK, 0)
		wantTake(t, NewReader(append(b, 9)), counted(n), api.OK, 1)
	}
	r := NewReader([]byte{2, 7, 8, 0, 1, 9, 5})
	wantTake(t, r, []byte{7, 8}, api.OK, 4)
	wantTake(t, r, nil, api.OK, 3)
	wantTake(t, r, []byte{9}, api.OK, 1)
	wantTake(t, r, nil, api.ErrShort, 1)
	wantGet(t, r, 1, 5, api.OK, 0)
	wantTake(t, r, nil, api.ErrShort, 0)
}

// P1.2: Take returns ErrShort if no byte is left or fewer follow than it says, and consumes nothing.
func TestTakeRefusesShortBytes(t *testing.T) {
	for _, says := range []int{1, 2, 3, 128, 255} {
		for has := range says {
			b := append([]byte{byte(says)}, counted(has)...)
			r := NewReader(b)
			wantTake(t, r, nil, api.ErrShort, has+1)
			wantTake(t, r, nil, api.ErrShort, has+1)
			for i, x := range b {
				wantGet(t, r, 1, int(x), api.OK, has-i)
			}
		}
	}
	wantTake(t, NewReader(nil), nil, api.ErrShort, 0)
}

// P1.2: a nil *Reader, the zero value of Reader and a Reader of nothing have no bytes.
func TestReadersWithoutBytes(t *testing.T) {
	var zero Reader
	for _, r := range []*Reader{nil, &zero, NewReader(nil), NewReader([]byte{})} {
		if r.Left() != 0 {
			t.Errorf("%d left", r.Left())
		}
		for _, width := range []int{1, 2, 4} {
			wantGet(t, r, width, 0, api.ErrShort, 0)
		}
		for _, width := range badWidths {
			wantGet(t, r, width, 0, api.ErrArg, 0)
		}
		wantTake(t, r, nil, api.ErrShort, 0)
	}
}

// R3: a Reader keeps a copy: later changes of the argument are not read, and the argument is not changed.
func TestReaderKeepsACopy(t *testing.T) {
	b := []byte{1, 2, 7, 8}
	r := NewReader(b)
	for i := range b {
		b[i] = 99
	}
	wantGet(t, r, 1, 1, api.OK, 3)
	wantTake(t, r, []byte{7, 8}, api.OK, 0)
	wantBytes(t, "argument", b, 99, 99, 99, 99)
}

// R3: what Take returns is the caller's: changing or extending it changes nothing that is still to be read.
func TestTakenBytesAreOwnedByTheCaller(t *testing.T) {
	b := []byte{2, 7, 8, 1, 9}
	r := NewReader(b)
	got, _ := r.Take()
	got[0] = 99
	got = append(got, 98, 97)
	wantTake(t, r, []byte{9}, api.OK, 0)
	wantBytes(t, "taken", got, 99, 8, 98, 97)
	wantBytes(t, "argument", b, 2, 7, 8, 1, 9)
}

// R5: two Readers of the same bytes share no position.
func TestReadersAreIndependent(t *testing.T) {
	b := []byte{1, 2}
	first, second := NewReader(b), NewReader(b)
	wantGet(t, first, 2, 513, api.OK, 0)
	wantGet(t, second, 1, 1, api.OK, 1)
}
