package sect

import (
	"math"
	"testing"

	"bobbin/api"
)

// P7.3: the chapter's examples.
func TestLSNExamples(t *testing.T) {
	wantLSN(t, 3, 2, 770)
	wantParts(t, 770, 3, 2)
}

func wantLSN(t *testing.T, seq, i, want int) {
	t.Helper()
	if n := LSN(seq, i); n != want {
		t.Errorf("LSN(%d, %d) returned %d, want %d", seq, i, n, want)
	}
}

func wantParts(t *testing.T, lsn, seq, i int) {
	t.Helper()
	if n := Seq(lsn); n != seq {
		t.Errorf("Seq(%d) returned %d, want %d", lsn, n, seq)
	}
	if n := Index(lsn); n != i {
		t.Errorf("Index(%d) returned %d, want %d", lsn, n, i)
	}
}

// P7.3: an LSN is 256 times Seq plus the index, up to the greatest of both.
func TestLSN(t *testing.T) {
	for _, seq := range []int{0, 1, 2, 255, 256, 257, 65535, 65536, 1<<24 - 2, 1<<24 - 1} {
		for i := range 256 {
			wantLSN(t, seq, i, seq*256+i)
			wantParts(t, seq*256+i, seq, i)
		}
	}
	wantLSN(t, 0, 0, 0)
	wantLSN(t, 1<<24-1, 255, 1<<32-1)
	wantLSN(t, api.MaxSeq, 255, api.MaxLSN)
}

// P7.3: beyond the ranges all three return 0.
func TestLSNRanges(t *testing.T) {
	for _, seq := range []int{-1, -2, 1 << 24, 1<<24 + 1, 1 << 32, math.MinInt, math.MaxInt} {
		for _, i := range []int{0, 1, 255, -1, 256, math.MinInt, math.MaxInt} {
			wantLSN(t, seq, i, 0)
		}
	}
	for _, i := range []int{-1, -2, -256, 256, 257, 65536, math.MinInt, math.MaxInt} {
		for _, seq := range []int{0, 1, 2, 1<<24 - 1} {
			wantLSN(t, seq, i, 0)
		}
	}
	for _, lsn := range []int{-1, -255, -256, -257, -770, 1 << 32, 1<<32 + 1, 1<<32 + 770, 1 << 40, math.MinInt, math.MaxInt} {
		wantParts(t, lsn, 0, 0)
	}
}

// P7.4: LSNs increase along the log, in a sector and from one to the next.
func TestLSNIncreases(t *testing.T) {
	last := -1
	for _, seq := range []int{0, 1, 2, 3, 255, 256, 65535, 65536, 1<<24 - 2, 1<<24 - 1} {
		for i := range 256 {
			n := LSN(seq, i)
			if n <= last {
				t.Fatalf("LSN(%d, %d) is %d, after %d", seq, i, n, last)
			}
			last = n
		}
	}
	if last > api.MaxLSN {
		t.Errorf("the last LSN is %d", last)
	}
}

// P7.3 and P7.4: every record of a batch has an LSN of its own, since a batch has fewer records than there are indexes.
func TestLSNOfBatch(t *testing.T) {
	x := api.Batch{Seq: 9, L: repeat(bare, 60)}
	for i := range x.L {
		wantParts(t, LSN(x.Seq, i), 9, i)
	}
}
