package byt

import (
	"bytes"
	"testing"

	"bobbin/api"
)

// item is what is appended by one call: a number of a width or, with width 0, bytes.
type item struct {
	n, width int
	b        []byte
}

func write(w *Writer, x item) api.Errno {
	if x.width == 0 {
		return w.Lay(x.b)
	}
	return w.Put(x.n, x.width)
}

func readsBack(r *Reader, x item) bool {
	if x.width == 0 {
		b, e := r.Take()
		return e == api.OK && bytes.Equal(b, x.b)
	}
	n, e := r.Get(x.width)
	return e == api.OK && n == x.n
}

// trip writes the items, and checks that they are read back in order with nothing left.
func trip(t *testing.T, l []item) {
	t.Helper()
	w := &Writer{}
	for i, x := range l {
		if e := write(w, x); e != api.OK {
			t.Fatalf("item %d: error %d", i, e)
		}
	}
	r := NewReader(w.Bytes())
	for i, x := range l {
		if !readsBack(r, x) {
			t.Fatalf("item %d of %d is not read back: %v", i, len(l), x)
		}
	}
	if r.Left() != 0 {
		t.Errorf("%d bytes left", r.Left())
	}
}

// P1.3: every number of one and two bytes, and those around each bit of four, is read back.
func TestNumbersAreReadBack(t *testing.T) {
	var l []item
	for n := range 1 << 16 {
		if n < 1<<8 {
			l = append(l, item{n: n, width: 1})
		}
		l = append(l, item{n: n, width: 2}, item{n: n, width: 4})
	}
	for bit := range 32 {
		l = append(l, item{n: 1 << bit, width: 4}, item{n: 1<<(bit+1) - 1, width: 4}, item{n: 1<<32 - 1 - 1<<bit, width: 4})
	}
	trip(t, l)
}

// P1.3: byte strings of every length, with every byte in them, are read back.
func TestBytesAreReadBack(t *testing.T) {
	var l []item
	for n := range 256 {
		l = append(l, item{b: counted(n)}, item{b: bytes.Repeat([]byte{byte(n)}, n)})
	}
	trip(t, l)
}

// P1.3: nothing that was appended reads back as nothing.
func TestNothingIsReadBack(t *testing.T) {
	trip(t, nil)
}

// P1.3: numbers and bytes in any order are read back in this order.
func TestMixturesAreReadBack(t *testing.T) {
	kinds := []item{{n: 255, width: 1}, {n: 258, width: 2}, {n: 1<<32 - 2, width: 4}, {b: []byte{7, 8}}, {}}
	for code := range 5 * 5 * 5 * 5 {
		var l []item
		for range 4 {
			l = append(l, kinds[code%5])
			code /= 5
		}
		trip(t, l)
	}
}

// P1.3: what was refused in between leaves no trace.
func TestRefusalsLeaveNoTrace(t *testing.T) {
	w := &Writer{}
	refused := []api.Errno{w.Put(1<<32, 4), w.Put(1, 3), w.Lay(make([]byte, 256))}
	w.Lay([]byte{1, 2, 3})
	refused = append(refused, w.Put(-1, 1), w.Put(65536, 2), w.Lay(make([]byte, 300)))
	w.Put(65535, 2)
	want := []api.Errno{api.ErrArg, api.ErrArg, api.ErrLong, api.ErrArg, api.ErrArg, api.ErrLong}
	for i, e := range refused {
		if e != want[i] {
			t.Errorf("call %d: got %d, want %d", i, e, want[i])
		}
	}
	r := NewReader(w.Bytes())
	wantGet(t, r, 3, 0, api.ErrArg, 6)
	wantTake(t, r, []byte{1, 2, 3}, api.OK, 2)
	wantGet(t, r, 4, 0, api.ErrShort, 2)
	wantGet(t, r, 2, 65535, api.OK, 0)
}

// P1 and R1: whatever bytes are read in whatever way, each call returns, and consumes what it says.
func FuzzReader(f *testing.F) {
	f.Add([]byte{3, 1, 2}, []byte{0, 1, 2, 4, 3})
	f.Add([]byte{}, []byte{0, 4})
	f.Add([]byte{2, 7, 8, 255, 255}, []byte{0, 2, 1})
	f.Fuzz(func(t *testing.T, b, calls []byte) {
		r := NewReader(b)
		for _, c := range calls {
			before := r.Left()
			used := 0
			if c == 0 {
				got, e := r.Take()
				if e == api.OK {
					used = 1 + len(got)
				}
			} else if _, e := r.Get(int(c)); e == api.OK {
				used = int(c)
			}
			if r.Left() != before-used {
				t.Fatalf("call %d: %d left of %d, %d used", c, r.Left(), before, used)
			}
		}
	})
}
