package rec

import (
	"bytes"
	"testing"

	"bobbin/api"
)

// written are records with their bytes, written out by hand.
var written = []struct {
	r api.Rec
	b []byte
}{
	{api.Rec{Kind: api.RecUpdate}, []byte{1, 0, 0, 0, 0, 0, 0, 0, 0, 255, 255}},
	{api.Rec{Kind: api.RecUpdate, Tx: 1, Prev: 2, Page: 3, Key: 260, New: text("a")}, []byte{1, 1, 2, 0, 0, 0, 3, 4, 1, 255, 1, 97}},
	{api.Rec{Kind: api.RecUpdate, Tx: 254, Prev: 0x04030201, Page: 9, Key: 0x0605, Old: text("ab"), New: text("")}, []byte{1, 254, 1, 2, 3, 4, 9, 5, 6, 2, 97, 98, 0}},
	{api.Rec{Kind: api.RecUpdate, Tx: 7, Prev: 1<<32 - 1, Page: 8, Key: 65535, Old: text("\xff")}, []byte{1, 7, 255, 255, 255, 255, 8, 255, 255, 1, 255, 255}},
	{api.Rec{Kind: api.RecClr}, []byte{2, 0, 0, 0, 0, 0, 0, 0, 0, 255}},
	{api.Rec{Kind: api.RecClr, Tx: 1, Next: 1, Page: 3, Key: 4, New: text("")}, []byte{2, 1, 1, 0, 0, 0, 3, 4, 0, 0}},
	{api.Rec{Kind: api.RecClr, Tx: 5, Next: 0x0a090807, Page: 6, Key: 0x0c0b, New: text("xyz")}, []byte{2, 5, 7, 8, 9, 10, 6, 11, 12, 3, 120, 121, 122}},
	{api.Rec{Kind: api.RecCommit, Tx: 9}, []byte{3, 9}},
	{api.Rec{Kind: api.RecAbort, Tx: 255}, []byte{4, 255}},
	{api.Rec{Kind: api.RecEnd, Tx: 1}, []byte{5, 1}},
	{api.Rec{Kind: api.RecMap, Page: 1, Seg: 2, Slot: 3, At: 258}, []byte{6, 1, 2, 3, 2, 1, 0, 0}},
	{api.Rec{Kind: api.RecBegin}, []byte{7}},
	{api.Rec{Kind: api.RecTx, Tx: 1, State: 2, Prev: 3, Next: 4}, []byte{8, 1, 2, 3, 0, 0, 0, 4, 0, 0, 0}},
	{api.Rec{Kind: api.RecTx, Tx: 200, State: 3, Prev: 0x0d0c0b0a, Next: 0x04030201}, []byte{8, 200, 3, 10, 11, 12, 13, 1, 2, 3, 4}},
	{api.Rec{Kind: api.RecDirty, Page: 15, At: 1 << 31}, []byte{9, 15, 0, 0, 0, 128}},
	{api.Rec{Kind: api.RecPlace, Page: 4, Seg: 5, Slot: 6, At: 0x0a090807}, []byte{10, 4, 5, 6, 7, 8, 9, 10}},
	{api.Rec{Kind: api.RecDone, At: 770}, []byte{11, 2, 3, 0, 0}},
}

// P6.2: the chapter's example.
func TestExample(t *testing.T) {
	r := api.Rec{Kind: api.RecMap, Page: 1, Seg: 2, Slot: 3, At: 258}
	wantEncoded(t, "the example", r, 6, 1, 2, 3, 2, 1, 0, 0)
	wantDecoded(t, "the example", []byte{6, 1, 2, 3, 2, 1, 0, 0}, r)
}

// P6.2: each kind is encoded as its number and its fields in order, which are little-endian.
func TestEncode(t *testing.T) {
	for _, c := range written {
		wantEncoded(t, "written by hand", c.r, c.b...)
	}
	for _, r := range samples() {
		wantEncoded(t, "a sample", r, encoding(r)...)
	}
}

// P6.2: each field is at its place, whatever the other fields are.
func TestEncodeOfEachField(t *testing.T) {
	for _, s := range shapes {
		for _, f := range s.list() {
			for _, r := range []api.Rec{s.zero(), s.mixed(), s.most()} {
				if f.width == 0 {
					for n := range 33 {
						*value(&r, f.name) = api.Val{Is: true, B: long(n)}
						wantEncoded(t, f.name, r, encoding(r)...)
					}
					*value(&r, f.name) = api.Val{}
					wantEncoded(t, "no "+f.name, r, encoding(r)...)
					continue
				}
				for bit := range 8 * f.width {
					*number(&r, f.name) = 1 << bit
					wantEncoded(t, f.name, r, encoding(r)...)
				}
			}
		}
	}
}

// P6.2: an empty value and none differ, whether their bytes are nil or not.
func TestEncodeOfEmptyValues(t *testing.T) {
	for _, b := range [][]byte{nil, {}} {
		wantEncoded(t, "empty", api.Rec{Kind: api.RecClr, New: api.Val{Is: true, B: b}}, 2, 0, 0, 0, 0, 0, 0, 0, 0, 0)
		wantEncoded(t, "none", api.Rec{Kind: api.RecClr, New: api.Val{B: b}}, 2, 0, 0, 0, 0, 0, 0, 0, 0, 255)
		wantEncoded(t, "first none", api.Rec{Kind: api.RecUpdate, Old: api.Val{B: b}, New: api.Val{Is: true, B: b}}, 1, 0, 0, 0, 0, 0, 0, 0, 0, 255, 0)
		wantEncoded(t, "last none", api.Rec{Kind: api.RecUpdate, Old: api.Val{Is: true, B: b}, New: api.Val{B: b}}, 1, 0, 0, 0, 0, 0, 0, 0, 0, 0, 255)
	}
}

// P6.2: the longest encoding has 75 bytes, and the shortest one byte.
func TestLongestEncoding(t *testing.T) {
	b, _ := Encode(shapes[0].most())
	if len(b) != 75 {
		t.Errorf("the longest encoding has %d bytes", len(b))
	}
	wantEncoded(t, "the shortest", api.Rec{Kind: api.RecBegin}, 7)
}

// R3: Encode modifies nothing that it is given, and its result is the caller's.
func TestEncodingIsOwnedByTheCaller(t *testing.T) {
	for _, r := range samples() {
		was, want := cloned(r), encoding(r)
		b, _ := Encode(r)
		again, _ := Encode(r)
		clear(b)
		_ = append(b[:0], bytes.Repeat([]byte{1}, cap(b))...)
		if !same(r, was) || !bytes.Equal(again, want) {
			t.Errorf("%v was changed to %v, or its encoding to %v", was, r, again)
		}
		wantEncoded(t, "once more", r, want...)
		clear(r.Old.B)
		clear(r.New.B)
		if !bytes.Equal(again, want) {
			t.Errorf("the encoding of %v changed with it", was)
		}
	}
}
