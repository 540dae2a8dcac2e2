package byt

import (
	"bytes"
	"math"
	"testing"

	"bobbin/api"
)

// badWidths are widths that no number has, with those next to the allowed ones.
var badWidths = []int{math.MinInt, -4, -2, -1, 0, 3, 5, 6, 7, 8, 16, 64, 257, math.MaxInt}

// filled returns a Writer that contains exactly b.
func filled(t *testing.T, b ...byte) *Writer {
	t.Helper()
	w := &Writer{}
	for _, x := range b {
		if e := w.Put(int(x), 1); e != api.OK {
			t.Fatalf("Put(%d, 1): %d", x, e)
		}
	}
	return w
}

// counted returns n bytes with different neighbours.
func counted(n int) []byte {
	b := make([]byte, n)
	for i := range b {
		b[i] = byte(i*7 + 1)
	}
	return b
}

func wantBytes(t *testing.T, what string, got []byte, want ...byte) {
	t.Helper()
	if !bytes.Equal(got, want) {
		t.Errorf("%s: got %v, want %v", what, got, want)
	}
}

// P1.1: the zero value of Writer is empty.
func TestWriterZeroValueIsEmpty(t *testing.T) {
	var w Writer
	wantBytes(t, "zero value", w.Bytes())
	if e := w.Put(9, 1); e != api.OK {
		t.Errorf("Put: %d", e)
	}
	wantBytes(t, "after Put", w.Bytes(), 9)
}

// P1.1: Put appends n in width bytes, little-endian, from the least to the greatest number.
func TestPutAppendsLittleEndian(t *testing.T) {
	for _, c := range []struct {
		n, width int
		want     []byte
	}{
		{0, 1, []byte{0}},
		{1, 1, []byte{1}},
		{127, 1, []byte{127}},
		{128, 1, []byte{128}},
		{255, 1, []byte{255}},
		{0, 2, []byte{0, 0}},
		{255, 2, []byte{255, 0}},
		{256, 2, []byte{0, 1}},
		{258, 2, []byte{2, 1}},
		{32768, 2, []byte{0, 128}},
		{65535, 2, []byte{255, 255}},
		{0, 4, []byte{0, 0, 0, 0}},
		{65536, 4, []byte{0, 0, 1, 0}},
		{0x04030201, 4, []byte{1, 2, 3, 4}},
		{1 << 31, 4, []byte{0, 0, 0, 128}},
		{1<<32 - 1, 4, []byte{255, 255, 255, 255}},
	} {
		w := filled(t, 77)
		if e := w.Put(c.n, c.width); e != api.OK {
			t.Errorf("Put(%d, %d): %d", c.n, c.width, e)
		}
		wantBytes(t, "Put", w.Bytes(), append([]byte{77}, c.want...)...)
	}
}

// P1.1: Put returns ErrArg, and appends nothing, if the width or the number may not be.
func TestPutRefusesBadArguments(t *testing.T) {
	w := filled(t, 77)
	refuse := func(n, width int) {
		t.Helper()
		if e := w.Put(n, width); e != api.ErrArg {
			t.Errorf("Put(%d, %d): got %d, want ErrArg", n, width, e)
		}
	}
	for _, width := range badWidths {
		for _, n := range []int{math.MinInt, -1, 0, 1, 255, math.MaxInt} {
			refuse(n, width)
		}
	}
	for _, width := range []int{1, 2, 4} {
		most := 1 << (8 * width)
		for _, n := range []int{math.MinInt, -most, -1, most, most + 1, 2 * most, 1 << 40, math.MaxInt} {
			refuse(n, width)
		}
	}
	wantBytes(t, "after refusals", w.Bytes(), 77)
}

// P1.1: Lay appends one byte with the length, and the bytes; up to 255 of them.
func TestLayAppendsLengthAndBytes(t *testing.T) {
	for _, b := range [][]byte{nil, {}, {0}, {7, 8}, counted(254), counted(255)} {
		w := filled(t, 77)
		if e := w.Lay(b); e != api.OK {
			t.Errorf("Lay of %d bytes: %d", len(b), e)
		}
		wantBytes(t, "Lay", w.Bytes(), append([]byte{77, byte(len(b))}, b...)...)
	}
}

// P1.1: Lay returns ErrLong, and appends nothing, for more than 255 bytes.
func TestLayRefusesLongBytes(t *testing.T) {
	w := filled(t, 77)
	for _, n := range []int{256, 257, 511, 512, 513, 70000} {
		if e := w.Lay(make([]byte, n)); e != api.ErrLong {
			t.Errorf("Lay of %d bytes: got %d, want ErrLong", n, e)
		}
	}
	wantBytes(t, "after refusals", w.Bytes(), 77)
}

// P1.1: Bytes returns everything that was appended, in this order, also between and after refusals.
func TestBytesReturnsEverything(t *testing.T) {
	w := &Writer{}
	w.Put(258, 2)
	w.Lay([]byte{7, 8})
	wantBytes(t, "two", w.Bytes(), 2, 1, 2, 7, 8)
	if e := w.Put(256, 1); e != api.ErrArg {
		t.Errorf("Put(256, 1): %d", e)
	}
	w.Put(5, 4)
	w.Lay(nil)
	wantBytes(t, "four", w.Bytes(), 2, 1, 2, 7, 8, 5, 0, 0, 0, 0)
	wantBytes(t, "again", w.Bytes(), 2, 1, 2, 7, 8, 5, 0, 0, 0, 0)
}

// P1.1: a nil *Writer is empty, and its Put and Lay return ErrArg, whatever they are given.
func TestNilWriter(t *testing.T) {
	var w *Writer
	for _, width := range []int{1, 2, 4, 3, 0, -1} {
		if e := w.Put(1, width); e != api.ErrArg {
			t.Errorf("Put(1, %d): %d", width, e)
		}
	}
	for _, n := range []int{0, 1, 255, 256} {
		if e := w.Lay(make([]byte, n)); e != api.ErrArg {
			t.Errorf("Lay of %d bytes: %d", n, e)
		}
	}
	if e := w.Lay(nil); e != api.ErrArg {
		t.Errorf("Lay(nil): %d", e)
	}
	wantBytes(t, "nil Writer", w.Bytes())
}

// R3: what Lay is given is neither changed nor kept.
func TestLayOwnsItsBytes(t *testing.T) {
	b := []byte{7, 8}
	w := &Writer{}
	w.Lay(b)
	wantBytes(t, "argument", b, 7, 8)
	b[0] = 99
	wantBytes(t, "after a change of the argument", w.Bytes(), 2, 7, 8)
}

// R3: what Bytes returns and the Writer do not affect each other.
func TestBytesAreOwnedByTheCaller(t *testing.T) {
	w := filled(t, 1, 2, 3)
	first, second := w.Bytes(), w.Bytes()
	first[0] = 99
	wantBytes(t, "other result", second, 1, 2, 3)
	wantBytes(t, "after a change of a result", w.Bytes(), 1, 2, 3)
	first = append(first, 98)
	w.Put(4, 1)
	wantBytes(t, "result after an append to it", first, 99, 2, 3, 98)
	wantBytes(t, "result after Put", second, 1, 2, 3)
	wantBytes(t, "after an append to a result", w.Bytes(), 1, 2, 3, 4)
}

// R5: two Writers share nothing.
func TestWritersAreIndependent(t *testing.T) {
	a, b := &Writer{}, &Writer{}
	a.Put(1, 1)
	b.Put(2, 1)
	a.Put(3, 1)
	wantBytes(t, "first", a.Bytes(), 1, 3)
	wantBytes(t, "second", b.Bytes(), 2)
}
