package sect

import (
	"bytes"
	"math"
	"slices"
	"strconv"
	"testing"

	"bobbin/api"
)

// P7.1: the chapter's example.
func TestPackExample(t *testing.T) {
	wantPacked(t, "example", api.Batch{Epoch: 1, Seq: 2, From: 1, L: []api.Rec{bare}}, 1, 0, 2, 0, 0, 0, 1, 0, 0, 0, 1, 1, 7)
}

// P7.1: numbers are little-endian, Epoch in 2 bytes, Seq and From in 4, and the number of the records in 1.
func TestPackNumbers(t *testing.T) {
	wantPacked(t, "zeros", api.Batch{}, make([]byte, 11)...)
	wantPacked(t, "an empty list", api.Batch{L: []api.Rec{}}, make([]byte, 11)...)
	wantPacked(t, "all bytes", api.Batch{Epoch: 0x0201, Seq: 0x090807, From: 0x060504}, 1, 2, 7, 8, 9, 0, 4, 5, 6, 0, 0)
	wantPacked(t, "the greatest", api.Batch{Epoch: 65535, Seq: 1<<24 - 1, From: 1<<24 - 1}, 255, 255, 255, 255, 255, 0, 255, 255, 255, 0, 0)
	wantPacked(t, "only Epoch", api.Batch{Epoch: 256}, 0, 1, 0, 0, 0, 0, 0, 0, 0, 0, 0)
	wantPacked(t, "only Seq", api.Batch{Seq: 256}, 0, 0, 0, 1, 0, 0, 0, 0, 0, 0, 0)
	wantPacked(t, "many", api.Batch{L: repeat(bare, 60)}, slices.Concat(make([]byte, 10), []byte{60}, bytes.Repeat([]byte{1, 7}, 60))...)
}

// P7.1: the records are there in order, each with its length before it.
func TestPackRecords(t *testing.T) {
	x := api.Batch{Epoch: 1, Seq: 2, From: 1, L: []api.Rec{{Kind: api.RecMap, Page: 1, Seg: 2, Slot: 3, At: 258}, {Kind: api.RecCommit, Tx: 4}, bare, {Kind: api.RecClr, Tx: 5, New: api.Val{Is: true, B: []byte("ab")}}}}
	wantPacked(t, "four records", x, 1, 0, 2, 0, 0, 0, 1, 0, 0, 0, 4,
		8, 6, 1, 2, 3, 2, 1, 0, 0,
		2, 3, 4,
		1, 7,
		12, 2, 5, 0, 0, 0, 0, 0, 0, 0, 2, 'a', 'b')
	for i, x := range samples() {
		wantPacked(t, "sample "+strconv.Itoa(i), x, encoding(x)...)
	}
	for _, r := range kinds() {
		x := api.Batch{L: []api.Rec{r}}
		wantPacked(t, "a kind alone", x, encoding(x)...)
	}
}

// P7.1: each number has its range.
func TestPackRanges(t *testing.T) {
	for _, n := range []int{-1, 65536, 65537, 1 << 24, 1 << 32, math.MinInt, math.MaxInt} {
		wantRefused(t, "Epoch", api.Batch{Epoch: n, Seq: 5, From: 5, L: []api.Rec{bare}}, api.ErrArg)
	}
	for _, n := range []int{-1, 1 << 24, 1<<24 + 1, 1<<32 - 1, 1 << 32, math.MinInt, math.MaxInt} {
		wantRefused(t, "Seq", api.Batch{Epoch: 1, Seq: n, L: []api.Rec{bare}}, api.ErrArg)
		wantRefused(t, "Seq and From", api.Batch{Epoch: 1, Seq: n, From: n, L: []api.Rec{bare}}, api.ErrArg)
	}
	for _, n := range []int{-1, 6, 7, 1<<24 - 1, 1 << 24, 1 << 32, math.MinInt, math.MaxInt} {
		wantRefused(t, "From", api.Batch{Epoch: 1, Seq: 5, From: n, L: []api.Rec{bare}}, api.ErrArg)
	}
	for _, n := range []int{0, 1, 4, 5} {
		x := api.Batch{Epoch: 1, Seq: 5, From: n, L: []api.Rec{bare}}
		wantPacked(t, "From", x, encoding(x)...)
	}
	wantRefused(t, "From after Seq 0", api.Batch{From: 1}, api.ErrArg)
	wantRefused(t, "From after the greatest Seq", api.Batch{Seq: 1<<24 - 1, From: 1 << 24}, api.ErrArg)
}

// P7.1: a record that is not valid is refused, wherever it is.
func TestPackInvalidRecord(t *testing.T) {
	for _, r := range wrongs() {
		for at := range 4 {
			l := slices.Insert([]api.Rec{bare, most(), clr(3)}, at, r)
			wantRefused(t, "invalid record "+strconv.Itoa(at), api.Batch{Epoch: 1, Seq: 2, From: 1, L: l}, api.ErrArg)
			wantFits(t, "invalid record "+strconv.Itoa(at), l, false)
		}
		wantFits(t, "invalid record alone", []api.Rec{r}, false)
	}
}

// P7.1: 60 records fit, more do not, however short they are.
func TestPackMany(t *testing.T) {
	for _, n := range []int{0, 1, 2, 59, 60} {
		wantFits(t, "so many", repeat(bare, n), true)
	}
	for _, n := range []int{61, 62, 118, 119, 255, 256, 257, 256 + 60, 512, 65536, 65536 + 1} {
		wantFits(t, "too many", repeat(bare, n), false)
		wantRefused(t, "too many", api.Batch{Seq: 2, From: 1, L: repeat(bare, n)}, api.ErrLong)
	}
	wantFits(t, "no list", nil, true)
	wantFits(t, "an empty list", []api.Rec{}, true)
}

// P7.1: an encoding of 248 bytes fits, one of 249 does not.
func TestPackLong(t *testing.T) {
	end := api.Rec{Kind: api.RecEnd, Tx: 1}                          // 3 bytes
	full := append(repeat(most(), 3), end, bare, bare, bare)         // 228 and 9 bytes
	byteMore := append(repeat(most(), 3), end, bare, bare, end)      // its last record has one byte more
	longer := append(repeat(most(), 2), clr(32), clr(32), bare, end) // 152 and 91 bytes
	if n := len(encoding(api.Batch{L: full})) - 11; n != room {
		t.Fatalf("the test's records have %d bytes", n)
	}
	wantFits(t, "at the border", full, true)
	wantFits(t, "a byte more", byteMore, false)
	wantFits(t, "a record more", append(slices.Clone(full), bare), false)
	wantFits(t, "beyond the border", longer, false)
	wantRefused(t, "a byte more", api.Batch{L: byteMore}, api.ErrLong)
	wantFits(t, "three of the longest", repeat(most(), 3), true)
	wantFits(t, "four of the longest", repeat(most(), 4), false)
	wantRefused(t, "four of the longest", api.Batch{L: repeat(most(), 4)}, api.ErrLong)
	wantRefused(t, "many of the longest", api.Batch{L: repeat(most(), 1000)}, api.ErrLong)
}

// P7.1, at every length: the batch whose encoding has so many bytes fits exactly up to 248.
func TestPackEveryLength(t *testing.T) {
	for n := 11 + 2; n <= 300; n++ {
		var l []api.Rec
		left := n - 11
		for left > 43+2 {
			l = append(l, clr(32))
			left -= 43
		}
		if left%2 == 1 {
			l = append(l, api.Rec{Kind: api.RecCommit, Tx: 1})
			left -= 3
		}
		l = append(l, repeat(bare, left/2)...)
		if len(encoding(api.Batch{L: l})) != n {
			t.Fatalf("the test's list has an encoding of %d bytes, not %d", len(encoding(api.Batch{L: l})), n)
		}
		wantFits(t, "of "+strconv.Itoa(n)+" bytes", l, n <= 248)
	}
}

// P7.1, P1 and R2: ErrArg comes before ErrLong, wherever the fault is.
func TestPackOrder(t *testing.T) {
	for _, l := range [][]api.Rec{repeat(bare, 61), repeat(bare, 300), repeat(most(), 4), repeat(most(), 100)} {
		wantRefused(t, "long, Epoch", api.Batch{Epoch: 65536, L: l}, api.ErrArg)
		wantRefused(t, "long, Seq", api.Batch{Seq: -1, L: l}, api.ErrArg)
		wantRefused(t, "long, From", api.Batch{From: 1, L: l}, api.ErrArg)
		for _, at := range []int{0, 1, len(l) / 2, len(l)} {
			wantRefused(t, "long, a record", api.Batch{L: slices.Insert(slices.Clone(l), at, api.Rec{})}, api.ErrArg)
		}
		wantRefused(t, "long", api.Batch{L: l}, api.ErrLong)
	}
}

// R3: Pack does not modify the batch, and neither sees later changes of the other.
func TestPackOwnership(t *testing.T) {
	for _, x := range samples() {
		kept := cloned(x)
		want := encoding(x)
		b, _ := Pack(x)
		Fits(x.L)
		if !same(x, kept) {
			t.Errorf("%v was modified: %v", kept, x)
		}
		for i := range x.L {
			for _, v := range [][]byte{x.L[i].Old.B, x.L[i].New.B} {
				for j := range v {
					v[j]++
				}
			}
			x.L[i] = api.Rec{}
		}
		if !bytes.Equal(b, want) {
			t.Errorf("the encoding %v sees changes of the batch: %v", want, b)
		}
		for i := range b {
			b[i] = 99
		}
		wantPacked(t, "after the result was changed", kept, want...)
	}
}

// R3: a list is read up to its length, not up to its capacity, and not written behind it.
func TestPackSharedList(t *testing.T) {
	all := []api.Rec{bare, {Kind: api.RecCommit, Tx: 4}, {Kind: api.RecEnd, Tx: 5}}
	wantPacked(t, "a part of a list", api.Batch{L: all[:1]}, 0, 0, 0, 0, 0, 0, 0, 0, 0, 0, 1, 1, 7)
	if all[1].Tx != 4 || all[2].Tx != 5 {
		t.Errorf("what is behind the list was modified: %v", all)
	}
}

// R5: nothing is kept from call to call, also not after an error.
func TestPackKeepsNothing(t *testing.T) {
	for _, x := range samples() {
		for _, other := range []api.Batch{{Epoch: -1}, {L: []api.Rec{bare, {}}}, {L: repeat(bare, 61)}, {L: repeat(most(), 4)}, {Seq: 9, L: kinds()}} {
			Pack(other)
			Fits(other.L)
			wantPacked(t, "after another batch", x, encoding(x)...)
			wantFits(t, "after another list", x.L, true)
		}
	}
}
