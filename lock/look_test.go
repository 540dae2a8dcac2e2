package lock

import (
	"math"
	"slices"
	"testing"

	"bobbin/api"
)

// P12.1: the transactions are in increasing order, whatever the order of the locks, and without duplicates.
func TestBlockersInOrder(t *testing.T) {
	l := held(9, 7, 1, 3, 7, 1, 200, 7, 1, 3, 7, 2, 1, 7, 1, 9, 7, 3, 255, 7, 2, 9, 7, 1)
	for range l {
		l = append(slices.Clone(l[1:]), l[0])
		wantBlockers(t, "of a writer", l, 4, 7, api.LockX, 1, 3, 9, 200, 255)
		wantBlockers(t, "of a reader", l, 4, 7, api.LockS, 3, 9, 255)
		wantBlockers(t, "of both", l, 4, 7, api.LockS+api.LockX, 1, 3, 9, 200, 255)
		wantBlockers(t, "of a scan", l, 4, 7, api.LockT)
		wantMeant(t, "in another order", l, 4, 7, api.LockX)
	}
}

// P12.1: a transaction does not block itself, whatever it holds.
func TestBlockersAreOthers(t *testing.T) {
	l := held(1, 7, 15, 2, 7, 15, 1, 7, 2, 3, 7, 4)
	wantBlockers(t, "of 1", l, 1, 7, 15, 2, 3)
	wantBlockers(t, "of 2", l, 2, 7, 15, 1, 3)
	wantBlockers(t, "of 3", l, 3, 7, 15, 1, 2)
	wantBlockers(t, "of another one", l, 4, 7, 15, 1, 2, 3)
	wantBlockers(t, "of the only one", held(1, 7, 15, 1, 7, 2), 1, 7, 15)
	wantBlockers(t, "of nobody", nil, 1, 7, 15)
	wantBlockers(t, "of nobody", []api.Held{}, 1, 7, 15)
}

// P12.1: locks on other resources do not block, also where one is Whole and the other one a record.
func TestBlockersOnTheSameResource(t *testing.T) {
	l := held(1, -1, 15, 2, 0, 15, 3, 1, 15, 4, 65535, 15)
	wantBlockers(t, "Whole", l, 9, api.Whole, 15, 1)
	wantBlockers(t, "the first key", l, 9, 0, 15, 2)
	wantBlockers(t, "another key", l, 9, 1, 15, 3)
	wantBlockers(t, "the last key", l, 9, api.MaxKey, 15, 4)
	wantBlockers(t, "a key without locks", l, 9, 2, 15)
	wantBlockers(t, "a scan", l, 9, api.Whole, api.LockT, 1)
	wantBlockers(t, "a reader", l, 9, api.Whole, api.LockS, 1)
}

// P12.1: of each pair of sums of modes, the one that is held blocks the other one if they clash.
func TestBlockersOfAllModes(t *testing.T) {
	for a := range 16 {
		for b := range 16 {
			l := held(2, 7, a, 3, 8, 15)
			if meantClash(a, b) {
				wantBlockers(t, "the modes clash", l, 1, 7, b, 2)
			} else {
				wantBlockers(t, "the modes do not clash", l, 1, 7, b)
			}
			wantMeant(t, "all modes", l, 1, 7, b)
		}
	}
}

// P12.1: the four low-order bits of modes count, in the list as well. The numbers of transactions and of resources may be any.
func TestBlockersOfAnyNumbers(t *testing.T) {
	l := held(2, 7, 16, 3, 7, 18, 4, 7, -16, 5, 7, -1, 6, 7, -3, 0, 7, 2, -5, 7, 2, 300, 7, 2, math.MinInt, 7, 2, math.MaxInt, 7, 2, 8, -2, 2, 9, 65536, 2)
	wantBlockers(t, "of a reader", l, 1, 7, 1, math.MinInt, -5, 0, 3, 5, 300, math.MaxInt)
	wantBlockers(t, "of a reader with higher bits", l, 1, 7, 17, math.MinInt, -5, 0, 3, 5, 300, math.MaxInt)
	wantBlockers(t, "of a reader below zero", l, 0, 7, -15, math.MinInt, -5, 3, 5, 300, math.MaxInt)
	wantBlockers(t, "of higher bits alone", l, 1, 7, 16)
	wantBlockers(t, "of no mode", l, 1, 7, 0)
	wantBlockers(t, "on no resource", l, 1, -2, 1, 8)
	wantBlockers(t, "on no key", l, 1, 65536, 1, 9)
	wantBlockers(t, "of the least number", l, math.MinInt, 7, 8, 5, 6)
}

// P12.1: all modes that are held count, each once.
func TestHolds(t *testing.T) {
	l := held(1, 7, 1, 2, 7, 2, 1, 8, 8, 1, 7, 4, 1, 7, 1, 1, -1, 12, 1, 7, 5, 3, 7, 15)
	wantHolds(t, "several locks", l, 1, 7, 5)
	wantHolds(t, "another transaction", l, 2, 7, 2)
	wantHolds(t, "another resource", l, 1, 8, 8)
	wantHolds(t, "Whole", l, 1, api.Whole, 12)
	wantHolds(t, "all modes", l, 3, 7, 15)
	wantHolds(t, "no lock there", l, 2, 8, 0)
	wantHolds(t, "no lock at all", l, 4, 7, 0)
	wantHolds(t, "nothing is held", nil, 1, 7, 0)
	wantHolds(t, "the same lock again and again", slices.Repeat(held(1, 7, 9), 20), 1, 7, 9)
}

// P12.1: the sum of all modes of two locks, for all sums of modes, also with other bits.
func TestHoldsOfAllModes(t *testing.T) {
	for a := range 16 {
		for b := range 16 {
			want := meantHolds(held(1, 7, a, 1, 7, b), 1, 7)
			wantHolds(t, "all modes", held(1, 7, a, 1, 7, b), 1, 7, want)
			wantHolds(t, "with other locks", held(1, 7, a, 1, 8, 15, 2, 7, 15, 1, 7, b), 1, 7, want)
			wantHolds(t, "with higher bits", held(1, 7, a+16, 1, 7, b+1<<40), 1, 7, want)
			wantHolds(t, "below zero", held(1, 7, a-16, 1, 7, b+math.MinInt), 1, 7, want)
		}
	}
	wantHolds(t, "higher bits alone", held(1, 7, 16), 1, 7, 0)
	wantHolds(t, "all bits", held(1, 7, -1), 1, 7, 15)
	wantHolds(t, "any numbers", held(-3, -9, 6, math.MaxInt, 1<<40, 3), -3, -9, 6)
	wantHolds(t, "any numbers", held(-3, -9, 6, math.MaxInt, 1<<40, 3), math.MaxInt, 1<<40, 3)
}
