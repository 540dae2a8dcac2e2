package master

import (
	"math"
	"testing"

	"bobbin/api"
)

// P9.1: masters with the least and the greatest numbers are valid.
func TestMay(t *testing.T) {
	for _, m := range valids() {
		if !May(m) {
			t.Errorf("%v is not valid", m)
		}
	}
}

// P9.1, with R1: a master of which a number is beyond its range is not valid.
func TestMayNot(t *testing.T) {
	for _, m := range wrongs() {
		if May(m) {
			t.Errorf("%v is valid", m)
		}
	}
}

// P9.1: each number has its own range, next to both ends and far beyond them, whatever the other ones are.
func TestMayRanges(t *testing.T) {
	for _, n := range []int{math.MinInt, -1 << 32, -256, -2, -1, 0, 1, 2, 128, 254, 255, 256, 257, 65535, 65536, 1<<24 - 2, 1<<24 - 1, 1 << 24, 1<<24 + 1, 1 << 31, 1<<32 - 2, 1<<32 - 1, 1 << 32, 1<<32 + 1, 1 << 40, math.MaxInt - 1, math.MaxInt} {
		for _, m := range append(valids(), wrongs()...) {
			no, epoch, start, check := m, m, m, m
			no.No, epoch.Epoch, start.Start, check.Check = n, n, n, n
			for _, x := range []api.Master{no, epoch, start, check} {
				if May(x) != valid(x) {
					t.Errorf("May(%v) returned %t", x, May(x))
				}
			}
		}
	}
}
