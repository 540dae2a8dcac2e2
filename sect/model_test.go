package sect

import (
	"bytes"
	"math"
	"reflect"
	"slices"
	"testing"

	"bobbin/api"
	"bobbin/rec"
)

// bare is the shortest record: its encoding is the byte 7, so that it takes 2 bytes of a sector.
var bare = api.Rec{Kind: api.RecBegin}

// room is how many bytes of a sector are left for records: 248 but for Epoch, Seq, From and the number of records.
const room = 248 - 2 - 4 - 4 - 1

// clr returns a record that takes 11 and n bytes of a sector: a length, a kind, 8 bytes of numbers, and a value of n bytes with its length.
func clr(n int) api.Rec {
	return api.Rec{Kind: api.RecClr, Tx: 3, Next: 258, Page: 1, Key: 515, New: api.Val{Is: true, B: long(n)}}
}

// most returns the record with the longest encoding: it takes 76 bytes of a sector.
func most() api.Rec {
	return api.Rec{Kind: api.RecUpdate, Tx: 255, Prev: 1<<32 - 1, Page: 255, Key: 65535, Old: api.Val{Is: true, B: long(32)}, New: api.Val{Is: true, B: long(32)}}
}

// long returns n bytes, of which neighbours differ.
func long(n int) []byte {
	b := make([]byte, n)
	for i := range b {
		b[i] = byte(i*7 + 1)
	}
	return b
}

// kinds returns a record of each kind.
func kinds() []api.Rec {
	return []api.Rec{
		{Kind: api.RecUpdate, Tx: 1, Prev: 256, Page: 2, Key: 3, New: api.Val{Is: true, B: []byte("ab")}},
		{Kind: api.RecClr, Tx: 1, Next: 770, Page: 2, Key: 3},
		{Kind: api.RecCommit, Tx: 2},
		{Kind: api.RecAbort, Tx: 3},
		{Kind: api.RecEnd, Tx: 4},
		{Kind: api.RecMap, Page: 1, Seg: 2, Slot: 3, At: 258},
		{Kind: api.RecBegin},
		{Kind: api.RecTx, Tx: 1, State: 2, Prev: 3, Next: 4},
		{Kind: api.RecDirty, Page: 5, At: 6},
		{Kind: api.RecPlace, Page: 1, Seg: 2, Slot: 3, At: 258},
		{Kind: api.RecDone, At: 1<<32 - 1},
	}
}

// wrongs returns records that are not valid.
func wrongs() []api.Rec {
	return []api.Rec{
		{},
		{Kind: -1},
		{Kind: api.Recs},
		{Kind: 263}, // the kind RecBegin, if only one byte of it counted
		{Kind: api.RecBegin, Tx: 1},
		{Kind: api.RecEnd, Tx: 256},
		{Kind: api.RecEnd, Tx: -1},
		{Kind: api.RecDone, At: 1 << 32},
		{Kind: api.RecClr, New: api.Val{Is: true, B: long(33)}},
		{Kind: api.RecClr, New: api.Val{B: []byte{0}}},
		{Kind: math.MaxInt, At: math.MinInt},
	}
}

// repeat returns n times the record r.
func repeat(r api.Rec, n int) []api.Rec {
	return slices.Repeat([]api.Rec{r}, n)
}

// samples returns batches that Pack accepts.
func samples() []api.Batch {
	return []api.Batch{
		{},
		{Epoch: 1, Seq: 2, From: 1, L: []api.Rec{bare}},
		{Epoch: 0x0102, Seq: 0x030405, From: 0x010203, L: kinds()},
		{Epoch: 65535, Seq: 1<<24 - 1, From: 1<<24 - 1, L: []api.Rec{most(), most(), most()}},
		{Epoch: 7, Seq: 256, From: 0, L: repeat(bare, 60)},
		{Epoch: 7, Seq: 255, From: 255, L: []api.Rec{clr(32), clr(0), clr(1), bare}},
		{Epoch: 9, Seq: 9, From: 9, L: []api.Rec{{Kind: api.RecEnd}, {Kind: api.RecDone}}}, // the encoding ends with zeros
	}
}

// put is n in so many bytes, little-endian.
func put(b []byte, n, width int) []byte {
	for range width {
		b = append(b, byte(n%256))
		n /= 256
	}
	return b
}

// encoding is what the document says of the bytes of a batch whose numbers and records are valid.
func encoding(x api.Batch) []byte {
	b := put(nil, x.Epoch, 2)
	b = put(b, x.Seq, 4)
	b = put(b, x.From, 4)
	b = put(b, len(x.L), 1)
	for _, r := range x.L {
		c, _ := rec.Encode(r)
		b = append(put(b, len(c), 1), c...)
	}
	return b
}

// verdict is what the document says of the error of Pack.
func verdict(x api.Batch) api.Errno {
	if x.Epoch < 0 || x.Epoch > 65535 || x.Seq < 0 || x.Seq > 16777215 || x.From < 0 || x.From > x.Seq {
		return api.ErrArg
	}
	for _, r := range x.L {
		if !rec.May(r) {
			return api.ErrArg
		}
	}
	if len(x.L) > 60 || len(encoding(x)) > 248 {
		return api.ErrLong
	}
	return api.OK
}

// taken returns the batch that the first bytes of b are taken for, as far as they go. Whether it is the one of b, its encoding says.
func taken(b []byte) api.Batch {
	if len(b) < 11 {
		return api.Batch{}
	}
	x := api.Batch{
		Epoch: int(b[0]) + int(b[1])<<8,
		Seq:   int(b[2]) + int(b[3])<<8 + int(b[4])<<16 + int(b[5])<<24,
		From:  int(b[6]) + int(b[7])<<8 + int(b[8])<<16 + int(b[9])<<24,
	}
	at := 11
	for range int(b[10]) {
		if at >= len(b) || at+1+int(b[at]) > len(b) {
			break
		}
		r, _ := rec.Decode(b[at+1 : at+1+int(b[at])])
		x.L = append(x.L, r)
		at += 1 + int(b[at])
	}
	return x
}

// meant is what the document says of Unpack: a batch that Pack accepts, whose encoding and zeros after it are b, or none.
func meant(b []byte) (api.Batch, bool) {
	x := taken(b)
	if len(b) > 248 || verdict(x) != api.OK {
		return api.Batch{}, false
	}
	c := encoding(x)
	if len(c) > len(b) || !bytes.Equal(append(c, make([]byte, len(b)-len(c))...), b) {
		return api.Batch{}, false
	}
	return x, true
}

func sameVal(a, b api.Val) bool {
	return a.Is == b.Is && bytes.Equal(a.B, b.B)
}

// sameRec reports whether two records are equal; an empty list of bytes may be nil or not.
func sameRec(a, b api.Rec) bool {
	if !sameVal(a.Old, b.Old) || !sameVal(a.New, b.New) {
		return false
	}
	a.Old, a.New, b.Old, b.New = api.Val{}, api.Val{}, api.Val{}, api.Val{}
	return reflect.DeepEqual(a, b)
}

func same(a, b api.Batch) bool {
	return a.Epoch == b.Epoch && a.Seq == b.Seq && a.From == b.From && slices.EqualFunc(a.L, b.L, sameRec)
}

// cloned returns x in memory of its own.
func cloned(x api.Batch) api.Batch {
	x.L = slices.Clone(x.L)
	for i := range x.L {
		x.L[i].Old.B, x.L[i].New.B = bytes.Clone(x.L[i].Old.B), bytes.Clone(x.L[i].New.B)
	}
	return x
}

func wantPacked(t *testing.T, what string, x api.Batch, want ...byte) {
	t.Helper()
	if b, e := Pack(x); e != api.OK || !bytes.Equal(b, want) {
		t.Errorf("%s: Pack of %v returned %v and the error %d, want %v", what, x, b, e, want)
	}
}

// wantRefused checks the error of Pack, beside which there are no bytes.
func wantRefused(t *testing.T, what string, x api.Batch, want api.Errno) {
	t.Helper()
	if b, e := Pack(x); e != want || b != nil {
		t.Errorf("%s: Pack of %v returned %v and the error %d, want nothing and %d", what, x, b, e, want)
	}
}

// wantFits checks Fits, and that Pack of a batch of these records agrees.
func wantFits(t *testing.T, what string, l []api.Rec, want bool) {
	t.Helper()
	if Fits(l) != want {
		t.Errorf("%s: Fits of %d records returned %v", what, len(l), !want)
	}
	if _, e := Pack(api.Batch{Epoch: 1, Seq: 2, From: 1, L: l}); (e == api.OK) != want {
		t.Errorf("%s: Pack of %d records returned the error %d", what, len(l), e)
	}
}

func wantUnpacked(t *testing.T, what string, b []byte, want api.Batch) {
	t.Helper()
	if x, e := Unpack(b); e != api.OK || !same(x, want) {
		t.Errorf("%s: Unpack of %v returned %v and the error %d, want %v", what, b, x, e, want)
	}
}

// wantFault checks that Unpack returns ErrForm, beside which the batch is the zero value, without a list.
func wantFault(t *testing.T, what string, b []byte) {
	t.Helper()
	x, e := Unpack(b)
	if e != api.ErrForm || !same(x, api.Batch{}) || x.L != nil {
		t.Errorf("%s: Unpack of %v returned %v and the error %d, want nothing and ErrForm", what, b, x, e)
	}
}

// list makes records of bytes, two for each of them: which one, and of what length. It yields any number of them, valid ones and others.
func list(b []byte) []api.Rec {
	sound, broken := kinds(), wrongs()
	var l []api.Rec
	for i := 0; i+1 < len(b); i += 2 {
		switch n := int(b[i+1]); b[i] % 16 {
		case 15:
			l = append(l, broken[n%len(broken)])
		case 14:
			l = append(l, repeat(bare, n)...)
		case 13, 12, 11:
			l = append(l, clr(n%34))
		default:
			l = append(l, sound[n%len(sound)])
		}
	}
	return l
}

// R1, P7.1 and P7.4: whatever the numbers and records of a batch are, each answer is the one that the document says.
func FuzzPack(f *testing.F) {
	f.Add(0, 0, 0, []byte{})
	f.Add(1, 2, 1, []byte{0, 0, 0, 1, 0, 2, 0, 3, 0, 4, 0, 5, 0, 6, 0, 7, 0, 8, 0, 9, 0, 10})
	f.Add(65535, 1<<24-1, 1<<24-1, []byte{13, 32, 13, 32, 13, 32, 13, 32, 13, 32})
	f.Add(65535, 1<<24-1, 1<<24-1, []byte{13, 32, 13, 32, 13, 32, 13, 32, 13, 32, 13, 32})
	f.Add(65536, 1<<24, 1<<24, []byte{14, 61})
	f.Add(0, 3, 4, []byte{14, 60})
	f.Add(0, 3, 3, []byte{14, 61})
	f.Add(0, 3, 3, []byte{14, 255, 14, 1, 15, 1})
	f.Add(math.MinInt, math.MaxInt, -1, []byte{15, 0})
	f.Fuzz(func(t *testing.T, epoch, seq, from int, b []byte) {
		x := api.Batch{Epoch: epoch, Seq: seq, From: from, L: list(b)}
		kept := cloned(x)
		if Fits(x.L) != (verdict(api.Batch{L: x.L}) == api.OK) {
			t.Errorf("Fits of %v returned %v", x.L, Fits(x.L))
		}
		if e := verdict(x); e != api.OK {
			wantRefused(t, "any batch", x, e)
		} else {
			c := encoding(x)
			wantPacked(t, "any batch", x, c...)
			wantUnpacked(t, "what was packed", c, x)
			wantUnpacked(t, "with zeros", append(c, make([]byte, 248-len(c))...), x)
		}
		if !same(x, kept) {
			t.Errorf("%v was modified: %v", kept, x)
		}
	})
}

// R1, P7.2 and P7.4: whatever the bytes are, the answer is the one that the document says.
func FuzzUnpack(f *testing.F) {
	for _, x := range samples() {
		b := encoding(x)
		f.Add(b)
		f.Add(b[:len(b)-1])
		f.Add(append(slices.Clone(b), 0, 0, 1))
		f.Add(append(slices.Clone(b), make([]byte, 248-len(b))...))
	}
	f.Add(make([]byte, 249))
	f.Fuzz(func(t *testing.T, b []byte) {
		kept := bytes.Clone(b)
		if x, is := meant(b); is {
			wantUnpacked(t, "any bytes", b, x)
		} else {
			wantFault(t, "any bytes", b)
		}
		if !bytes.Equal(b, kept) {
			t.Errorf("%v was modified: %v", kept, b)
		}
	})
}
