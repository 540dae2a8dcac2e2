package wait

import (
	"bytes"
	"slices"
	"testing"

	"bobbin/api"
)

// R3: neither the list nor its lists are changed, nor is the memory behind them.
func TestMemoryIsNotChanged(t *testing.T) {
	behind := []int{2, 3, 77, 78, 1, 79, 4, 80}
	elements := []api.Wait{{Tx: 1, For: behind[0:1]}, {Tx: 1, For: behind[1:2]}, {Tx: 3, For: behind[4:5:5]}, {Tx: 3, For: behind[6:7]}, {Tx: 1, For: behind[:0]}, {Tx: 9, For: []int{9}}}
	l := elements[:5]
	for range 2 {
		wantReached(t, "parts of the same memory", l, 1, 1, 2, 3, 4)
		wantReached(t, "parts of the same memory", l, 9)
		wantStill(t, "parts of the same memory", l, false)
		wantStill(t, "parts of the same memory", l[:2], true)
	}
	if !slices.Equal(behind, []int{2, 3, 77, 78, 1, 79, 4, 80}) {
		t.Errorf("the memory behind the lists was changed to %v", behind)
	}
	if want := (api.Wait{Tx: 9, For: []int{9}}); !same(elements[5:], []api.Wait{want}) {
		t.Errorf("the memory behind the list was changed to %v", elements[5:])
	}
}

// R5: the results depend only on the arguments, whatever was called before.
func TestNothingIsKept(t *testing.T) {
	a, b := waits(1, 2, 2, 3), waits(3, 1, 2, 1)
	for range 3 {
		wantReached(t, "a chain", a, 1, 2, 3)
		wantReached(t, "others", b, 1)
		wantStill(t, "a chain", a, true)
		wantStill(t, "others", b, true)
		wantStill(t, "both", slices.Concat(a, b), false)
		wantReached(t, "both", slices.Concat(a, b), 1, 1, 2, 3)
		wantReached(t, "nothing", nil, 1)
		wantStill(t, "nothing", nil, true)
	}
	a[1].For[0] = 1
	wantReached(t, "changed", a, 1, 1, 2)
	wantStill(t, "changed", a, false)
}

// R5: the results are the same each time, also for graphs in which the waits can be followed in several orders.
func TestSameEachTime(t *testing.T) {
	l := waits(5, 4, 4, 3, 5, 3, 3, 2, 9, 8, 8, 7, 7, 6, 2, 6, 1, 5, 1, 9)
	m := append(copied(l), waits(6, 4)...)
	for range 200 {
		wantStill(t, "without a circle", l, true)
		wantStill(t, "with a circle", m, false)
		wantReached(t, "without a circle", l, 1, 2, 3, 4, 5, 6, 7, 8, 9)
		wantReached(t, "with a circle", m, 8, 2, 3, 4, 6, 7)
	}
}

// txOf returns one of a few transactions, most often, or else any number.
func txOf(b byte) int {
	if b < 240 {
		return int(b % 8)
	}
	return far[int(b)%len(far)]
}

// P1, R1, P13.1 and P13.2: for any list, each call returns what the model does. The zeros among the bytes separate the elements, of which the first byte is the transaction.
func FuzzWait(f *testing.F) {
	f.Add([]byte{1, 2, 0, 2, 3})
	f.Add([]byte{1, 2, 0, 2, 3, 0, 3, 1})
	f.Add([]byte{1, 2, 3, 4, 0, 2, 8, 0, 131, 2, 4, 0, 5, 1, 0, 6})
	f.Add([]byte{250, 1, 2, 0, 3, 255, 0, 255, 7, 2, 0, 129, 251, 0, 0, 248, 253})
	f.Fuzz(func(t *testing.T, left []byte) {
		var l []api.Wait
		for part := range bytes.SplitSeq(left[:min(len(left), 80)], []byte{0}) {
			if len(part) == 0 {
				continue
			}
			w := api.Wait{Tx: txOf(part[0])}
			for _, b := range part[1:] {
				w.For = append(w.For, txOf(b))
			}
			// An element that makes a circle is left out at times, so that many of the lists are still.
			if part[0] < 64 || meantStill(append(slices.Clone(l), w)) {
				l = append(l, w)
			}
		}
		wantMeant(t, "any list", l)
		wantMeant(t, "backward", backward(l))
		wantMeant(t, "joined", joined(l))
	})
}
