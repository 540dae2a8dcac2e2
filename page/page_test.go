package page

import (
	"math"
	"slices"
	"testing"

	"bobbin/api"
)

// P5.1 to P5.3: the chapter's example.
func TestExample(t *testing.T) {
	p := fresh(t, 7)
	p = with(t, p, text{5, "ab"}, text{3, ""})
	wantPage(t, "two records", p, 7, 0, text{3, ""}, text{5, "ab"})
	p = without(t, p, 5)
	wantPage(t, "one record", p, 7, 0, text{3, ""})
	if Used(p) != 4 {
		t.Errorf("Used returned %d, want 4", Used(p))
	}
}

// P5.1: a new page has its ID, from the least to the greatest one, the LSN 0 and no records.
func TestNew(t *testing.T) {
	for id := range 65536 {
		p := fresh(t, id)
		if len(p) != api.Room || !May(p) || ID(p) != id || LSN(p) != 0 || Used(p) != 0 || len(All(p)) != 0 {
			t.Fatalf("New(%d) returned %v", id, p)
		}
	}
	wantPage(t, "the least ID", fresh(t, 0), 0, 0)
	wantPage(t, "the greatest ID", fresh(t, 65535), 65535, 0)
	for _, k := range []int{math.MinInt, -1, 0, 1, 65535, 65536, math.MaxInt} {
		wantNone(t, "a new page", fresh(t, 3), k)
	}
}

// P5.1: New returns ErrArg for an ID that no page has.
func TestNewRefusesOtherIDs(t *testing.T) {
	for _, id := range []int{math.MinInt, -65536, -2, -1, 65536, 65537, 131071, 1 << 16, 1 << 32, 1<<32 + 1, math.MaxInt} {
		p, e := New(id)
		wantRefused(t, "New", p, e, api.ErrArg)
	}
}

// P5.1: May returns false for bytes that are not 248, also if they are the first ones of a page or continue it.
func TestOtherLengthsAreNotValid(t *testing.T) {
	p := with(t, fresh(t, 258), text{1, "ab"})
	for n := range p {
		wantNotValid(t, "the first bytes of a page", p[:n])
		wantNotValid(t, "the last bytes of a page", p[n+1:])
	}
	wantNotValid(t, "nil", nil)
	wantNotValid(t, "no bytes", []byte{})
	for _, n := range []int{1, 8, 248, 1000, 70000} {
		wantNotValid(t, "a page and zeros", append(slices.Clone(p), make([]byte, n)...))
	}
	wantNotValid(t, "a zero and a page", append([]byte{0}, p...))
	wantPage(t, "the page itself", p, 258, 0, text{1, "ab"})
}

// P5.1: the 248 bytes of a sector in which nothing was written are not a valid page, nor are other bytes that are all the same.
func TestEqualBytesAreNotValid(t *testing.T) {
	for b := range 256 {
		p := make([]byte, api.Room)
		for i := range p {
			p[i] = byte(b)
		}
		wantNotValid(t, "equal bytes", p)
	}
}

// P5.1: whichever byte of a page is changed, it is either not valid or a page within the limits. No call panics.
func TestEveryChangeOfOneByte(t *testing.T) {
	most, _ := full(t, 240)
	for _, p := range [][]byte{fresh(t, 7), stamped(t, with(t, fresh(t, 258), text{5, "ab"}, text{300, ""}), 1<<31), most} {
		for i, b := range p {
			for _, other := range []byte{0, b + 1, b - 1, b ^ 2, b ^ 4, b ^ 8, b ^ 16, b ^ 32, b ^ 64, b ^ 128, 255} {
				q := slices.Clone(p)
				q[i] = other
				if May(q) {
					wantRebuilt(t, q)
				} else {
					wantNotValid(t, "a byte was changed", q)
				}
			}
		}
	}
}

// written returns 248 bytes that begin with a head of a page, with so many records, and these bytes.
func written(count byte, b ...byte) []byte {
	p := make([]byte, api.Room)
	copy(p, append([]byte{mark, 7, 0, 9, 0, 0, 0, count}, b...))
	return p
}

// P5.1: of the form that this package has chosen, exactly what New, Stamped and Put can return is valid.
func TestBytesThatNoCallReturnsAreNotValid(t *testing.T) {
	wantPage(t, "no records", written(0), 7, 9)
	wantPage(t, "two records", written(2, 3, 0, 0, 5, 0, 2, 'a', 'b'), 7, 9, text{3, ""}, text{5, "ab"})
	wantPage(t, "a key of two bytes", written(2, 5, 0, 1, 'a', 3, 1, 1, 'b'), 7, 9, text{5, "a"}, text{259, "b"})
	wantPage(t, "the key 0", written(1), 7, 9, text{0, ""})
	wantPage(t, "a value of 32 bytes", written(1, append([]byte{5, 0, 32}, long(32)...)...), 7, 9, text{5, long(32)})
	wantNotValid(t, "a value of 33 bytes", written(1, append([]byte{5, 0, 33}, long(33)...)...))
	wantNotValid(t, "a key twice", written(2, 5, 0, 1, 'a', 5, 0, 1, 'a'))
	wantNotValid(t, "the key 0 twice", written(2))
	wantNotValid(t, "decreasing keys", written(2, 5, 0, 0, 3, 0, 0))
	wantNotValid(t, "keys that decrease at last", written(3, 5, 0, 0, 6, 0, 0, 4, 0, 0))
	wantNotValid(t, "bytes behind the records", written(0, 1))
	wantNotValid(t, "another record behind the records", written(1, 3, 0, 0, 5, 0, 0))
	wantNotValid(t, "fewer records than it says", written(255, 3, 0, 0, 5, 0, 0))
	wantNotValid(t, "a length beyond the end, as if it were a key", written(2, 3, 0, 255, 0, 0))
	last := written(0)
	last[len(last)-1] = 1
	wantNotValid(t, "a last byte", last)
	other := written(0)
	other[0]++
	wantNotValid(t, "another first byte", other)
}

// P5.1: bytes that have room for more records than a page are not valid with them, nor are those that end within a record.
func TestTooMuchIsNotValid(t *testing.T) {
	var b []byte
	var l []text
	for k := range 80 {
		b = append(b, byte(k), 0, 0)
		l = append(l, text{k, ""})
		if k < 60 {
			wantPage(t, "up to 60 records", written(byte(k+1), b...), 7, 9, l...)
		} else {
			wantNotValid(t, "more than 60 records", written(byte(k+1), b...))
		}
	}
	b, l = nil, nil
	for k := range 6 {
		b = append(append(b, byte(k), 0, 32), long(32)...)
		l = append(l, text{k, long(32)})
	}
	for n := range 28 { // 27 bytes are left behind the length
		p := written(7, append(append(slices.Clone(b), 6, 0, byte(n)), long(n)...)...)
		if n <= 20 {
			wantPage(t, "up to 240", p, 7, 9, append(l, text{6, long(n)})...)
		} else {
			wantNotValid(t, "more than 240", p)
		}
	}
	for n := 28; n < 256; n++ {
		wantNotValid(t, "a value beyond the end", written(7, append(append(slices.Clone(b), 6, 0, byte(n)), long(27)...)...))
	}
}

// P5.1: Stamped returns the page with the LSN, from the least to the greatest one, and with everything else as it was.
func TestStamped(t *testing.T) {
	p := with(t, fresh(t, 65535), text{0, "a"}, text{65535, long(32)})
	lsns := []int{0, 1, 255, 256, 65535, 65536, 1<<24 - 1, 1 << 24, 1<<31 - 1, 1 << 31, 1<<32 - 2, 1<<32 - 1}
	for _, first := range lsns {
		q := stamped(t, p, first)
		wantPage(t, "stamped", q, 65535, first, text{0, "a"}, text{65535, long(32)})
		for _, then := range lsns {
			wantPage(t, "stamped again", stamped(t, q, then), 65535, then, text{0, "a"}, text{65535, long(32)})
		}
	}
	for bit := range 32 {
		wantPage(t, "a page without records", stamped(t, fresh(t, 9), 1<<bit), 9, 1<<bit)
	}
	wantPage(t, "the page that was stamped", p, 65535, 0, text{0, "a"}, text{65535, long(32)})
}

// P5.1: Stamped returns ErrArg for an LSN that no record has.
func TestStampedRefusesOtherLSNs(t *testing.T) {
	p := stamped(t, with(t, fresh(t, 7), text{1, "a"}), 5)
	for _, lsn := range []int{math.MinInt, -1 << 32, -2, -1, 1 << 32, 1<<32 + 1, 1 << 40, math.MaxInt} {
		q, e := Stamped(p, lsn)
		wantRefused(t, "Stamped", q, e, api.ErrArg)
	}
	wantPage(t, "after the refusals", p, 7, 5, text{1, "a"})
}

// P5.3: All returns the records in increasing order of their keys, in whichever order they were put.
func TestAllIsInOrder(t *testing.T) {
	keys := []int{0, 1, 255, 256, 257, 511, 512, 32767, 32768, 65280, 65534, 65535}
	var want []text
	for i, k := range keys {
		want = append(want, text{k, long(i)})
	}
	for _, step := range []int{1, 5, 7, 11} { // numbers that are prime to 12 reach every record
		for first := range keys {
			p := fresh(t, 3)
			for i := range keys {
				p = with(t, p, want[(first+i*step)%len(want)])
			}
			wantPage(t, "in another order", p, 3, 0, want...)
		}
	}
}

// P5.3: every key may be that of a record.
func TestEveryKey(t *testing.T) {
	p := fresh(t, 3)
	for k := range 65536 {
		q := with(t, p, text{k, "ab"})
		l := All(q)
		if len(l) != 1 || l[0].K != k || string(l[0].V) != "ab" || !Get(q, k).Is || Used(q) != 6 {
			t.Fatalf("the key %d: All returned %v", k, l)
		}
	}
}

// P5.3: Used returns the sum of the sizes, which are 4 more than the lengths of the values.
func TestUsed(t *testing.T) {
	for used := 0; used <= 240; used++ {
		if used < 4 && used > 0 {
			continue // no record is as small as that
		}
		p, l := full(t, used)
		wantPage(t, "a page with records", p, 1, 0, l...)
		if Used(p) != used {
			t.Errorf("Used returned %d, want %d", Used(p), used)
		}
	}
}
