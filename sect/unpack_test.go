package sect

import (
	"bytes"
	"slices"
	"strconv"
	"testing"

	"bobbin/api"
	"bobbin/rec"
)

// with returns b, followed by others.
func with(b []byte, more ...byte) []byte {
	return append(bytes.Clone(b), more...)
}

// at returns b with another byte there.
func at(b []byte, i int, c byte) []byte {
	b = bytes.Clone(b)
	b[i] = c
	return b
}

// P7.2: the chapter's example, read back.
func TestUnpackExample(t *testing.T) {
	wantUnpacked(t, "example", []byte{1, 0, 2, 0, 0, 0, 1, 0, 0, 0, 1, 1, 7}, api.Batch{Epoch: 1, Seq: 2, From: 1, L: []api.Rec{bare}})
}

// P7.2: numbers are little-endian.
func TestUnpackNumbers(t *testing.T) {
	wantUnpacked(t, "all bytes", []byte{1, 2, 7, 8, 9, 0, 4, 5, 6, 0, 0}, api.Batch{Epoch: 0x0201, Seq: 0x090807, From: 0x060504})
	wantUnpacked(t, "the greatest", []byte{255, 255, 255, 255, 255, 0, 255, 255, 255, 0, 0}, api.Batch{Epoch: 65535, Seq: 1<<24 - 1, From: 1<<24 - 1})
}

// P7.2: zeros alone are a batch without records, if they are enough and not too many.
func TestUnpackZeros(t *testing.T) {
	for n := range 300 {
		if n >= 11 && n <= 248 {
			wantUnpacked(t, "zeros", make([]byte, n), api.Batch{})
		} else {
			wantFault(t, "zeros", make([]byte, n))
		}
	}
	wantFault(t, "nil", nil)
	wantFault(t, "very many zeros", make([]byte, 1<<16))
}

// P7.2 and P7.4: Unpack returns the batch that was packed, with any number of zeros after it, up to 248 bytes in all.
func TestUnpackPacked(t *testing.T) {
	for i, x := range samples() {
		b, e := Pack(x)
		if e != api.OK {
			t.Fatalf("sample %d: Pack returned the error %d", i, e)
		}
		for len(b) <= 248 {
			wantUnpacked(t, "sample "+strconv.Itoa(i), b, x)
			b = append(b, 0)
		}
		wantFault(t, "too long", b)
		wantFault(t, "too long", append(b, make([]byte, 1000)...))
	}
}

// P7.2: an encoding of 248 bytes is accepted, without a zero after it.
func TestUnpackFull(t *testing.T) {
	x := api.Batch{Epoch: 3, Seq: 4, From: 2, L: append(repeat(most(), 3), api.Rec{Kind: api.RecCommit, Tx: 1}, bare, bare, bare)}
	b, e := Pack(x)
	if e != api.OK || len(b) != 248 {
		t.Fatalf("Pack returned %d bytes and the error %d", len(b), e)
	}
	wantUnpacked(t, "full", b, x)
	wantFault(t, "a zero more", with(b, 0))
}

// P7.2: a byte that is not zero after the encoding is refused, wherever it is.
func TestUnpackAfter(t *testing.T) {
	for i, x := range samples() {
		b := encoding(x)
		full := with(b, make([]byte, 248-len(b))...)
		for j := len(b); j < len(full); j++ {
			wantFault(t, "sample "+strconv.Itoa(i), at(full, j, 1))
			wantFault(t, "sample "+strconv.Itoa(i), at(full, j, 255)[:j+1])
		}
	}
}

// P7.2: an encoding that ends too soon is refused, unless zeros made up for it.
func TestUnpackShort(t *testing.T) {
	for i, x := range samples() {
		b := encoding(x)
		for n := range b {
			wantFault(t, "sample "+strconv.Itoa(i)+" of "+strconv.Itoa(n)+" bytes", b[:n])
		}
	}
	b := encoding(api.Batch{L: []api.Rec{{Kind: api.RecDone, At: 5}}})
	wantUnpacked(t, "zeros instead of the end", with(b[:13], 0, 0, 0, 0), api.Batch{L: []api.Rec{{Kind: api.RecDone}}})
	wantFault(t, "too few zeros", with(b[:13], 0, 0, 0))
}

// P7.2: a batch whose numbers Pack does not accept is refused.
func TestUnpackRanges(t *testing.T) {
	for _, h := range [][]byte{
		{0, 0, 0, 0, 0, 1, 0, 0, 0, 0, 0},             // Seq 2^24
		{0, 0, 255, 255, 255, 255, 0, 0, 0, 0, 0},     // the greatest of 4 bytes
		{0, 0, 0, 0, 0, 1, 0, 0, 0, 1, 0},             // From is not greater, but Seq is too great
		{0, 0, 5, 0, 0, 0, 6, 0, 0, 0, 0},             // From after Seq
		{0, 0, 5, 0, 0, 0, 0, 1, 0, 0, 0},             // by its second byte
		{0, 0, 5, 0, 0, 0, 0, 0, 0, 1, 0},             // by its last byte
		{0, 0, 0, 0, 0, 0, 1, 0, 0, 0, 0},             // after Seq 0
		{0, 0, 255, 255, 255, 0, 0, 0, 0, 1, 0},       // after the greatest Seq
		{0, 0, 255, 255, 255, 0, 255, 255, 255, 1, 0}, // likewise
	} {
		wantFault(t, "head", h)
		wantFault(t, "head and zeros", with(h, make([]byte, 248-len(h))...))
		h[10] = 1
		wantFault(t, "head and a record", with(h, 1, 7))
	}
	wantUnpacked(t, "From is Seq", []byte{0, 0, 5, 0, 0, 0, 5, 0, 0, 0, 0}, api.Batch{Seq: 5, From: 5})
}

// P7.2: more than 60 records are refused, also if their bytes fit.
func TestUnpackMany(t *testing.T) {
	for n := range 119 {
		b := slices.Concat(make([]byte, 10), []byte{byte(n)}, bytes.Repeat([]byte{1, 7}, n))
		if n <= 60 {
			wantUnpacked(t, "bare records", b, api.Batch{L: repeat(bare, n)})
		} else {
			wantFault(t, "bare records", b)
		}
	}
	b := slices.Concat(make([]byte, 10), []byte{60}, bytes.Repeat([]byte{1, 7}, 118))
	wantFault(t, "more records than the number says", b[:247])
	wantFault(t, "fewer records than the number says", slices.Concat(make([]byte, 10), []byte{60}, bytes.Repeat([]byte{1, 7}, 59)))
	wantFault(t, "records after the number 0", with(make([]byte, 11), 1, 7))
	wantFault(t, "the number 255", with(at(make([]byte, 11), 10, 255), bytes.Repeat([]byte{1, 7}, 118)...))
}

// P7.2: the bytes of each record must be the encoding of one, neither shorter nor longer.
func TestUnpackRecords(t *testing.T) {
	start := at(make([]byte, 11), 10, 1)
	for _, c := range []struct {
		what string
		b    []byte
	}{
		{"no record", nil},
		{"no length, but zeros", []byte{0}},
		{"the length 0", []byte{0, 7}},
		{"only a length", []byte{1}},
		{"the kind 0", []byte{1, 0}},
		{"the kind after the last one", []byte{1, 12}},
		{"a record that is too short", []byte{1, 3, 4}},
		{"a record that is too long", []byte{2, 7, 0}},
		{"a zero too many", []byte{3, 3, 4, 0}},
		{"a length beyond the end", []byte{3, 3, 4}},
		{"the length 255", []byte{255, 7}},
		{"a value that is too long", with([]byte{43, 2, 0, 0, 0, 0, 0, 0, 0, 0, 33}, long(33)...)},
		{"a value that is too short", []byte{11, 2, 0, 0, 0, 0, 0, 0, 0, 0, 2, 9}},
	} {
		wantFault(t, c.what, with(start, c.b...))
		wantFault(t, c.what+", after a record", with(at(start, 10, 2), with([]byte{1, 7}, c.b...)...))
		wantFault(t, c.what+", before a record", with(at(start, 10, 2), with(c.b, 1, 7)...))
	}
	wantFault(t, "the length 255 and so many bytes", with(start, append([]byte{255, 7}, make([]byte, 235)...)...))
	wantFault(t, "a record in the place of zeros", with(make([]byte, 11), 1, 7))
}

// P7.2: a change of any byte leads to another batch or to ErrForm, as the document says of these bytes.
func TestUnpackEveryByte(t *testing.T) {
	for _, x := range samples()[:3] {
		b := with(encoding(x), 0, 0)
		for i := range b {
			for c := range 256 {
				changed := at(b, i, byte(c))
				if y, is := meant(changed); is {
					wantUnpacked(t, "a changed byte", changed, y)
				} else {
					wantFault(t, "a changed byte", changed)
				}
			}
		}
	}
}

// P7.4: what Unpack returns is valid, and packs to the bytes that were read.
func TestUnpackThenPack(t *testing.T) {
	for _, x := range samples() {
		b := encoding(x)
		y, e := Unpack(with(b, make([]byte, 248-len(b))...))
		if e != api.OK || !Fits(y.L) {
			t.Fatalf("Unpack returned %v and the error %d", y, e)
		}
		for _, r := range y.L {
			if !rec.May(r) {
				t.Errorf("the record %v is not valid", r)
			}
		}
		wantPacked(t, "unpacked", y, b...)
	}
}

// R3: Unpack does not modify its bytes, and neither sees later changes of the other.
func TestUnpackOwnership(t *testing.T) {
	x := api.Batch{Epoch: 1, Seq: 2, From: 1, L: []api.Rec{most(), clr(5), most(), clr(1)}}
	b := with(encoding(x), 0, 0)
	kept := bytes.Clone(b)
	y, _ := Unpack(b)
	if !bytes.Equal(b, kept) {
		t.Errorf("%v was modified: %v", kept, b)
	}
	for i := range b {
		b[i] = 99
	}
	if !same(y, x) {
		t.Errorf("the batch sees changes of the bytes: %v", y)
	}
	for i := range y.L { // none of the lists shares memory with another one, also not behind its length
		y.L[i].New.B = append(y.L[i].New.B, 99)
		clear(y.L[i].New.B)
		for j := range y.L {
			if j > i && !sameRec(y.L[j], x.L[j]) {
				t.Errorf("the record %d sees changes of the record %d", j, i)
			}
		}
		if !sameVal(y.L[i].Old, x.L[i].Old) {
			t.Errorf("the value Old of %d sees changes of New", i)
		}
	}
	wantUnpacked(t, "after the result was changed", kept, x)
}

// R5: nothing is kept from call to call, also not after an error.
func TestUnpackKeepsNothing(t *testing.T) {
	for _, x := range samples() {
		b := encoding(x)
		for _, other := range [][]byte{nil, make([]byte, 249), b[:len(b)-1], with(b, 1), encoding(samples()[2])} {
			Unpack(other)
			wantUnpacked(t, "after other bytes", b, x)
		}
	}
}
