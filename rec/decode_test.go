package rec

import (
	"bytes"
	"slices"
	"testing"

	"bobbin/api"
)

// P6.3: Decode returns the record whose encoding it is given.
func TestDecode(t *testing.T) {
	for _, c := range written {
		wantDecoded(t, "written by hand", c.b, c.r)
	}
}

// P6.3: no bytes, or bytes that end before the last field does, are ErrShort, wherever they end.
func TestDecodeOfShortBytes(t *testing.T) {
	wantFault(t, "nil", nil, api.ErrShort)
	wantFault(t, "no bytes", []byte{}, api.ErrShort)
	for _, r := range samples() {
		b := encoding(r)
		for n := range b {
			wantFault(t, "the first bytes of an encoding", b[:n], api.ErrShort)
			wantFault(t, "the first bytes with nothing behind", slices.Clone(b[:n:n]), api.ErrShort)
		}
	}
}

// P6.3: bytes after the last field are ErrForm.
func TestDecodeOfMoreBytes(t *testing.T) {
	for _, r := range samples() {
		b := encoding(r)
		for _, more := range [][]byte{{0}, {1}, {255}, {0, 0}, make([]byte, 200), make([]byte, 70000), b} {
			wantFault(t, "bytes are left", slices.Concat(b, more), api.ErrForm)
		}
	}
}

// P6.3: a first byte that is not a kind is ErrForm, whatever follows it.
func TestDecodeOfOtherKinds(t *testing.T) {
	for kind := range 256 {
		if kind >= 1 && kind <= 11 {
			continue
		}
		wantFault(t, "a kind alone", []byte{byte(kind)}, api.ErrForm)
		for _, r := range samples() {
			b := encoding(r)
			b[0] = byte(kind)
			wantFault(t, "a kind with fields", b, api.ErrForm)
		}
	}
}

// heads are the bytes before each value of a record, with what must follow the value.
var heads = []struct {
	what       string
	head, tail []byte
}{
	{"New of RecClr", []byte{2, 1, 1, 0, 0, 0, 3, 4, 0}, nil},
	{"Old of RecUpdate", []byte{1, 1, 2, 0, 0, 0, 3, 4, 1}, []byte{2, 7, 8}},
	{"Old of RecUpdate, before no value", []byte{1, 1, 2, 0, 0, 0, 3, 4, 1}, []byte{255}},
	{"New of RecUpdate", []byte{1, 1, 2, 0, 0, 0, 3, 4, 1, 2, 7, 8}, nil},
	{"New of RecUpdate, after no value", []byte{1, 1, 2, 0, 0, 0, 3, 4, 1, 255}, nil},
}

// P6.3: the length of a value is 255 or at most 32. Another one is ErrForm as soon as it is read, however many bytes follow it.
func TestDecodeOfLengths(t *testing.T) {
	for _, c := range heads {
		for n := range 256 {
			start := append(slices.Clone(c.head), byte(n))
			if n > 32 && n < 255 {
				for _, more := range []int{0, 1, 2, 31, 32, n - 1, n, n + 1, 300} {
					wantFault(t, c.what, slices.Concat(start, long(more)), api.ErrForm)
					wantFault(t, c.what, slices.Concat(start, long(more), c.tail), api.ErrForm)
				}
				continue
			}
			has := n % 255
			whole := slices.Concat(start, long(has), c.tail)
			if r, e := Decode(whole); e != api.OK || !bytes.Equal(encoding(r), whole) {
				t.Errorf("%s of the length %d: got %v and the error %d", c.what, n, r, e)
			}
			for less := range has {
				wantFault(t, c.what+" ends too soon", slices.Concat(start, long(less)), api.ErrShort)
			}
		}
	}
}

// P6.3: of several errors the first one that is met is returned.
func TestFirstErrorOfDecode(t *testing.T) {
	update := []byte{1, 1, 2, 0, 0, 0, 3, 4, 1}
	for _, c := range []struct {
		what string
		b    []byte
		want api.Errno
	}{
		{"a length that may not be, and no New", slices.Concat(update, []byte{33}), api.ErrForm},
		{"two lengths that may not be", slices.Concat(update, []byte{33, 33}), api.ErrForm},
		{"a short Old with bytes that would be a bad length", slices.Concat(update, []byte{3, 33, 34}), api.ErrShort},
		{"an Old that takes what would be New", slices.Concat(update, []byte{2, 1, 97}), api.ErrShort},
		{"no New after an Old", slices.Concat(update, []byte{2, 7, 8}), api.ErrShort},
		{"no New after no Old", slices.Concat(update, []byte{255}), api.ErrShort},
		{"a bad New after no Old", slices.Concat(update, []byte{255, 254}), api.ErrForm},
		{"bytes behind no values", slices.Concat(update, []byte{255, 255, 255}), api.ErrForm},
		{"no kind, and short as every kind", []byte{12}, api.ErrForm},
		{"no kind, and a bad length", []byte{0, 1, 2, 0, 0, 0, 3, 4, 1, 33}, api.ErrForm},
		{"half a number", []byte{11, 1, 2, 3}, api.ErrShort},
		{"half a number, with bytes for the small fields after it", []byte{1, 1, 2, 3, 4}, api.ErrShort},
		{"half a key", []byte{2, 1, 1, 0, 0, 0, 3, 4}, api.ErrShort},
		{"a kind alone", []byte{3}, api.ErrShort},
		{"a byte behind a kind alone", []byte{7, 0}, api.ErrForm},
	} {
		wantFault(t, c.what, c.b, c.want)
	}
}

// P6.3: each kind, alone and with every one or two bytes after it, gives the error that the document says.
func TestDecodeOfAllShortBytes(t *testing.T) {
	wantError := func(b ...byte) {
		t.Helper()
		if _, e := Decode(b); e != fault(b) {
			t.Errorf("Decode of %v returned the error %d, want %d", b, e, fault(b))
		}
	}
	for kind := range byte(14) {
		wantError(kind)
		for n := range 256 {
			wantError(kind, byte(n))
			for then := range 256 {
				wantError(kind, byte(n), byte(then))
			}
		}
	}
}

// P6.3: whichever byte of an encoding is changed, the error is the one that the document says.
func TestDecodeOfChangedBytes(t *testing.T) {
	for _, r := range samples() {
		for i, was := range encoding(r) {
			for other := range 256 {
				b := encoding(r)
				b[i] = was ^ byte(other)
				if e := fault(b); e != api.OK {
					wantFault(t, "a changed byte", b, e)
				} else {
					got, _ := Decode(b)
					wantDecoded(t, "a changed byte", b, got)
					wantEncoded(t, "a changed byte", got, b...)
				}
			}
		}
	}
}

// P6.4: every record is decoded from its encoding.
func TestRecordsAreDecoded(t *testing.T) {
	for _, r := range samples() {
		b, e := Encode(r)
		if e != api.OK {
			t.Errorf("Encode of %v returned the error %d", r, e)
		}
		wantDecoded(t, "there and back", b, r)
	}
	for _, s := range shapes {
		for _, f := range s.list() {
			for _, r := range []api.Rec{s.zero(), s.mixed(), s.most()} {
				for bit := range 8 * f.width {
					*number(&r, f.name) = 1 << bit
					wantDecoded(t, f.name, encoding(r), r)
				}
			}
		}
	}
}

// P6.4: values of every length and with every byte are decoded, in each place and with every other value beside them.
func TestValuesAreDecoded(t *testing.T) {
	var l []api.Val
	for n := range 33 {
		l = append(l, api.Val{Is: true, B: long(n)})
	}
	l = append(l, api.Val{}, text("\xff"), text("\x00"), text("\x00\x00\x00"), text("\xff\xff\xff"))
	for _, a := range l {
		for _, b := range l {
			r := api.Rec{Kind: api.RecUpdate, Tx: 1, Prev: 2, Page: 3, Key: 4, Old: a, New: b}
			wantDecoded(t, "two values", encoding(r), r)
			wantEncoded(t, "two values", r, encoding(r)...)
		}
	}
	for b := range 256 {
		r := api.Rec{Kind: api.RecClr, New: api.Val{Is: true, B: bytes.Repeat([]byte{byte(b)}, 32)}}
		wantDecoded(t, "equal bytes", encoding(r), r)
	}
}

// P6.4: different valid records have different encodings, none of which is the beginning of another one.
func TestEncodingsDiffer(t *testing.T) {
	l := samples()
	for i, a := range l {
		for j, b := range l {
			if i != j && !same(a, b) && bytes.HasPrefix(encoding(a), encoding(b)) {
				t.Errorf("the encoding of %v begins with that of %v", a, b)
			}
			one, _ := Encode(a)
			other, _ := Encode(b)
			if same(a, b) != bytes.Equal(one, other) {
				t.Errorf("the encodings of %v and %v are %v and %v", a, b, one, other)
			}
		}
	}
}

// R3: a decoded record does not change with the bytes, nor they with it, nor one of its values with the other.
func TestDecodedRecordIsOwnedByTheCaller(t *testing.T) {
	for _, want := range samples() {
		b := encoding(want)
		was := bytes.Clone(b)
		r, _ := Decode(b)
		if !bytes.Equal(b, was) {
			t.Errorf("%v was changed to %v", was, b)
		}
		other, _ := Decode(b)
		clear(b)
		if !same(r, want) {
			t.Errorf("%v changed to %v with its bytes", want, r)
		}
		_ = append(r.Old.B, 1, 2, 3, 4, 5, 6, 7, 8)
		if !same(r, want) {
			t.Errorf("%v changed to %v with an append", want, r)
		}
		copy(b, was)
		clear(r.Old.B)
		clear(r.New.B)
		if !bytes.Equal(b, was) || !same(other, want) {
			t.Errorf("the bytes %v or another record changed with a record", was)
		}
	}
}

// R5: what Decode returns does not depend on what was decoded before.
func TestDecodeKeepsNothing(t *testing.T) {
	for _, c := range written {
		Decode(encoding(shapes[0].most()))
		Decode([]byte{1, 2, 3})
		wantDecoded(t, "after others", c.b, c.r)
		wantDecoded(t, "once more", c.b, c.r)
	}
}
