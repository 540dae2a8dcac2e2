package lock

import (
	"math"
	"testing"

	"bobbin/api"
)

// P12.1: the four modes, two by two. Readers clash with writers of the record, and these with one another; scans clash with whoever writes some record.
func TestClashOfTwoModes(t *testing.T) {
	for a, clashing := range map[int][]int{
		api.LockS: {api.LockX},
		api.LockX: {api.LockS, api.LockX},
		api.LockW: {api.LockT},
		api.LockT: {api.LockW},
	} {
		want := map[int]bool{}
		for _, b := range clashing {
			want[b] = true
		}
		for _, b := range []int{1, 2, 4, 8} {
			wantClash(t, "two modes", a, b, want[b])
		}
		wantClash(t, "no mode", a, 0, false)
		wantClash(t, "no mode", 0, a, false)
	}
	wantClash(t, "no modes", 0, 0, false)
}

// P12.1: a sum of modes clashes if one of its modes does, for all sums, in both orders.
func TestClashOfSums(t *testing.T) {
	n := 0
	for a := range 16 {
		for b := range 16 {
			want := meantClash(a, b)
			if wantClash(t, "sums", a, b, want); want {
				n++
			}
			if Clash(a, b) != Clash(b, a) {
				t.Errorf("Clash(%d, %d) is not Clash(%d, %d)", a, b, b, a)
			}
		}
	}
	// Of the 16 pairs of sums of LockS and LockX 8 clash, of those of LockW and LockT 7.
	if want := 256 - 8*9; n != want {
		t.Errorf("%d pairs clash, want %d", n, want)
	}
	wantClash(t, "readers and scans", 9, 9, false)
	wantClash(t, "readers and writers of some record", 5, 5, false)
	wantClash(t, "both", 12, 12, true)
	wantClash(t, "in the higher one", 5, 9, true)
}

// P12.1: only the four low-order bits count, those of negative numbers in two's complement.
func TestClashOfAnyNumbers(t *testing.T) {
	for a := range 16 {
		for b := range 16 {
			for _, high := range []int{16, 32, 240, 1 << 32, 1 << 62, math.MaxInt - 15, -16, -32, -1 << 32, math.MinInt} {
				want := Clash(a, b)
				wantClash(t, "the higher bits of one", a+high, b, want)
				wantClash(t, "the higher bits of the other one", a, b+high, want)
				wantClash(t, "the same higher bits", a+high, b+high, want)
			}
		}
	}
	wantClash(t, "-1 has all modes", -1, 1, true)
	wantClash(t, "-2 has all but LockS", -2, 1, true)
	wantClash(t, "-3 has all but LockX", -3, 1, false)
	wantClash(t, "-16 has none", -16, 15, false)
	wantClash(t, "the greatest number has all", 8, math.MaxInt, true)
	wantClash(t, "the least number has none", 15, math.MinInt, false)
}

// R1 and P12.1: whatever the numbers are.
func TestClashOfFarNumbers(t *testing.T) {
	for _, a := range far {
		for _, b := range append(far, 0, 1, 2, 3, 4, 8, 15, 16) {
			wantClash(t, "far numbers", a, b, meantClash(a, b))
			wantClash(t, "far numbers", b, a, meantClash(b, a))
		}
	}
}
