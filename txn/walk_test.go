package txn

import (
	"slices"
	"testing"

	"bobbin/api"
)

// P14.1, P14.2 and P14.4: all valid combinations of changes and savepoints, with calls that fit and some that do not.
func TestAllTransactions(t *testing.T) {
	n := 0
	for changes := range 7 {
		for saves := range 5 {
			eachList(saves, 0, changes, func(l []int) {
				if !slices.IsSorted(l) {
					return
				}
				n++
				x := full()
				x.L, x.Saves = x.L[:changes], l
				for i, c := range []api.Change{at(changes*10 + 1), at(changes * 10), {LSN: 99, Page: 256}} {
					wantMeant(t, "all", x, c, i)
				}
				for save := -1; save <= 4; save++ {
					want, wantE := meantAbove(x, save)
					wantAbove(t, "all", x, save, want, wantE)
				}
			})
		}
	}
	if n < 700 {
		t.Errorf("only %d transactions were tried", n)
	}
}

// The calls that change a transaction.
const (
	noteStep = iota
	saveStep
	undoStep
	steps
)

// stepped returns x after one of these calls, whose results must be those of the model, or x as it is if the call is refused.
func stepped(t *testing.T, x api.Tx, call int, c api.Change) api.Tx {
	t.Helper()
	var y, want api.Tx
	var e, wantE api.Errno
	switch call {
	case noteStep:
		want, wantE = meantNote(x, c)
		y, e = Note(x, c)
	case saveStep:
		var n, wantN int
		want, wantN, wantE = meantSave(x)
		if y, n, e = Save(x); n != wantN {
			t.Fatalf("Save(%v) returned the number %d", x, n)
		}
	default:
		var last, wantLast api.Change
		want, wantLast, wantE = meantUndo(x)
		if y, last, e = Undo(x); !sameChange(last, wantLast) {
			t.Fatalf("Undo(%v) returned the change %v", x, last)
		}
	}
	if !same(y, want) || e != wantE {
		t.Fatalf("call %d with %v and %v returned %v and %d", call, x, c, y, e)
	}
	if e != api.OK {
		return x
	}
	wantMay(t, "what a call returned", y, true)
	return y
}

// wantAboves checks Above for all numbers of savepoints, and some that none has.
func wantAboves(t *testing.T, x api.Tx) {
	t.Helper()
	for save := -1; save <= 5; save++ {
		want, wantE := meantAbove(x, save)
		wantAbove(t, "all savepoints", x, save, want, wantE)
	}
}

// P14.1, P14.2 and P14.4: all ways of eight calls from a new transaction, of which some are refused.
func TestAllSteps(t *testing.T) {
	eachList(8, 0, steps-1, func(calls []int) {
		x := begun(t, 5)
		for i, call := range calls {
			x = stepped(t, x, call, at(i+1))
		}
		wantAboves(t, x)
	})
}

// P14.1 to P14.4: a long run of four transactions on two pages. The values that are there are those of the model, so that each undone change gives back what it replaced, and what is used and reserved on a page never grows when one is undone.
func TestLongRun(t *testing.T) {
	l := []api.Tx{begun(t, 1), begun(t, 2), begun(t, 3), begun(t, 4)}
	there := []space{{}, {}}
	taken := func() []int {
		return []int{there[0].used() + Kept(l, 0), there[1].used() + Kept(l, 1)}
	}
	refused := map[api.Errno]int{}
	n := 1
	for lsn := 1; lsn <= 30000; lsn++ {
		n = n * 75 % 65537
		by, key, call := n%4, n/4%6, n/24%7%steps
		// Each transaction writes records of its own, as it holds locks on them.
		c := api.Change{LSN: lsn, Page: key % 2, Key: key*4 + by, Old: there[key%2][key*4+by]}
		if size := n / 168 % 34; size < 33 {
			c.New = filled(size)
		}
		before := taken()
		x := l[by]
		l[by] = stepped(t, x, call, c)
		switch {
		case len(l[by].L) > len(x.L):
			there[c.Page][c.Key] = c.New
		case len(l[by].L) < len(x.L):
			last := x.L[len(x.L)-1]
			if !sameVal(there[last.Page][last.Key], last.New) {
				t.Fatalf("%v was undone, where the value is %v", last, there[last.Page][last.Key])
			}
			there[last.Page][last.Key] = last.Old
			if after := taken(); after[0] > before[0] || after[1] > before[1] {
				t.Fatalf("%v was used and reserved, and %v after undoing %v", before, after, last)
			}
		}
		refused[refusal(x, call)]++
		wantAboves(t, l[by])
		wantKept(t, "the run", l, 0, meantKept(l, 0))
		wantKept(t, "the run", l, 1, meantKept(l, 1))
		if n%50 == 0 { // it ends, and another one begins
			l[by] = begun(t, by+1)
		}
	}
	if refused[api.OK] < 10000 || refused[api.ErrFull] < 100 || refused[api.ErrNone] < 100 {
		t.Errorf("the calls were refused so often: %v", refused)
	}
}

// refusal returns the error of a call by which a transaction has the most already, or nothing any more.
func refusal(x api.Tx, call int) api.Errno {
	switch {
	case call == noteStep && len(x.L) == 6, call == saveStep && len(x.Saves) == 4:
		return api.ErrFull
	case call == undoStep && len(x.L) == 0:
		return api.ErrNone
	}
	return api.OK
}

// odd returns one of the numbers from low on, most often, or else any number.
func odd(b byte, low int) int {
	if b < 250 {
		return low + int(b%8)
	}
	return far[int(b)%len(far)]
}

// valOf returns a value of few bytes, most often, or else none, or one with nearly the most bytes or too many, or bytes without a value.
func valOf(b byte) api.Val {
	switch {
	case b < 8:
		return api.Val{}
	case b == 8:
		return api.Val{B: []byte{8}}
	case b > 250:
		return filled(int(b) - 221)
	}
	return filled(int(b % 9))
}

// P1, R1 and P14.1 to P14.3: for any transaction, change and number, and after any steps from there, each call returns what the model does. Each five bytes are a change.
func FuzzTxn(f *testing.F) {
	f.Add([]byte{1, 1, 0, 0}, []byte{0, 1, 2, 2}, []byte{1, 0, 0, 9, 10, 1, 1, 1, 200, 0, 2, 2, 2, 0, 255}, []byte{0, 1, 2, 0, 2, 2, 2})
	f.Add([]byte{255, 2, 5, 5}, []byte{}, []byte{}, []byte{2, 1, 1, 1, 1, 1, 0, 0, 0, 0, 0, 0, 0})
	f.Add([]byte{9, 0, 250, 3}, []byte{0, 1, 6, 6, 6}, []byte{1, 0, 0, 9, 7, 1, 1, 1, 200, 0, 2, 2, 2, 0, 255, 253, 0, 0, 0, 0}, []byte{0})
	f.Fuzz(func(t *testing.T, head, saves, changes, calls []byte) {
		if len(head) < 4 {
			return
		}
		x := api.Tx{ID: odd(head[0], 1), State: odd(head[1], 1), First: odd(head[2], 0), Last: odd(head[3], 0)}
		for _, b := range saves[:min(len(saves), 8)] {
			x.Saves = append(x.Saves, odd(b, 0))
		}
		for part := range slices.Chunk(changes[:min(len(changes), 45)], 5) {
			if len(part) == 5 {
				lsn := odd(part[0], 1) + 4*len(x.L)
				x.L = append(x.L, api.Change{LSN: lsn, Page: odd(part[1], 0), Key: odd(part[2], 0), Old: valOf(part[3]), New: valOf(part[4])})
			}
		}
		if len(x.L) > 0 && head[0]%2 == 0 { // the last one is noted, rather than there
			c := x.L[len(x.L)-1]
			x.L = x.L[:len(x.L)-1]
			wantMeant(t, "any", x, c, odd(head[1], -1))
		}
		wantMeant(t, "any", x, at(500), odd(head[0], -1))
		for i, call := range calls[:min(len(calls), 30)] {
			x = stepped(t, x, int(call)%steps, at(500+i))
			wantAboves(t, x)
		}
	})
}
