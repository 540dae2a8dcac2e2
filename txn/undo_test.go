package txn

import (
	"testing"

	"bobbin/api"
)

// P14.2 and P14.4: Undo removes the changes in reverse order, with the savepoints above what is left, and nothing else.
func TestUndo(t *testing.T) {
	x := full()
	for left := 5; left >= 0; left-- {
		y := full()
		y.L = y.L[:left]
		for len(y.Saves) > 0 && y.Saves[len(y.Saves)-1] > left {
			y.Saves = y.Saves[:len(y.Saves)-1]
		}
		wantUndo(t, "the last change", x, y, at((left+1)*10), api.OK)
		x = y
	}
	wantUndo(t, "no change is left", x, api.Tx{}, api.Change{}, api.ErrNone)
	if len(x.Saves) != 1 {
		t.Errorf("a savepoint before all changes was removed: %v", x)
	}
}

// P14.2: a savepoint that equals the number of remaining changes stays, greater ones go, however many they are.
func TestUndoSavepoints(t *testing.T) {
	x := saved(t, saved(t, noted(t, begun(t, 1), 1), 0), 1)
	x = saved(t, saved(t, noted(t, x, 2), 2), 3)
	wantUndo(t, "two of four", x, api.Tx{ID: 1, State: api.TxActive, First: 1, Last: 2, L: []api.Change{at(1)}, Saves: []int{1, 1}}, at(2), api.OK)
	x.Saves = []int{2, 2, 2, 2}
	wantUndo(t, "four of four", x, api.Tx{ID: 1, State: api.TxActive, First: 1, Last: 2, L: []api.Change{at(1)}}, at(2), api.OK)
	x.Saves = []int{0, 1, 1, 1}
	wantUndo(t, "none of four", x, api.Tx{ID: 1, State: api.TxActive, First: 1, Last: 2, L: []api.Change{at(1)}, Saves: []int{0, 1, 1, 1}}, at(2), api.OK)
	x.Saves = []int{0, 0, 1, 2}
	wantUndo(t, "one of four", x, api.Tx{ID: 1, State: api.TxActive, First: 1, Last: 2, L: []api.Change{at(1)}, Saves: []int{0, 0, 1}}, at(2), api.OK)
}

// P14.2: Undo is asked for nothing of the State, and First and Last stay as they are.
func TestUndoKeepsTheRest(t *testing.T) {
	for _, state := range []int{api.TxActive, api.TxCommitted, api.TxAborting} {
		x := api.Tx{ID: 255, State: state, First: 50, Last: 2, L: []api.Change{at(3)}, Saves: []int{0, 0}}
		want := api.Tx{ID: 255, State: state, First: 50, Last: 2, Saves: []int{0, 0}}
		wantUndo(t, "any state", x, want, at(3), api.OK)
		wantUndo(t, "any state", want, api.Tx{}, api.Change{}, api.ErrNone)
	}
}

// P14.2: ErrNone without changes, but ErrArg first.
func TestUndoErrors(t *testing.T) {
	wantUndo(t, "new", begun(t, 1), api.Tx{}, api.Change{}, api.ErrNone)
	wantUndo(t, "only savepoints", saved(t, begun(t, 1), 0), api.Tx{}, api.Change{}, api.ErrNone)
	wantUndo(t, "zero", api.Tx{}, api.Tx{}, api.Change{}, api.ErrArg)
	wantUndo(t, "a savepoint above", api.Tx{ID: 1, State: api.TxActive, Saves: []int{1}}, api.Tx{}, api.Change{}, api.ErrArg)
	x := full()
	x.L[0].Page = 256
	wantUndo(t, "a change that is not valid", x, api.Tx{}, api.Change{}, api.ErrArg)
}

// P14.2: Save adds the number of changes, and returns the number of the savepoint.
func TestSave(t *testing.T) {
	x := saved(t, begun(t, 1), 0)
	x = saved(t, noted(t, x, 4, 5), 1)
	x = saved(t, x, 2)
	x = saved(t, noted(t, x, 6, 7, 8, 9), 3)
	want := api.Tx{ID: 1, State: api.TxActive, First: 4, Last: 9, L: []api.Change{at(4), at(5), at(6), at(7), at(8), at(9)}, Saves: []int{0, 2, 2, 6}}
	if !same(x, want) {
		t.Errorf("the savepoints are %v", x)
	}
	wantSave(t, "a fifth", x, api.Tx{}, 0, api.ErrFull)
	for _, state := range []int{api.TxActive, api.TxCommitted, api.TxAborting} {
		y := api.Tx{ID: 255, State: state, First: 50, Last: 2, L: []api.Change{at(3)}}
		wantSave(t, "any state", y, api.Tx{ID: 255, State: state, First: 50, Last: 2, L: []api.Change{at(3)}, Saves: []int{1}}, 0, api.OK)
	}
}

// P14.2: Save reuses the numbers of savepoints that Undo has removed.
func TestSaveAfterUndo(t *testing.T) {
	x := saved(t, saved(t, noted(t, saved(t, begun(t, 1), 0), 4, 5), 1), 2)
	x = undone(t, x, 5)
	x = saved(t, x, 1)
	wantAbove(t, "the new savepoint", x, 1, 0, api.OK)
	wantAbove(t, "the first savepoint", x, 0, 1, api.OK)
	wantAbove(t, "the one that was removed", x, 2, 0, api.ErrNone)
}

// P14.2 and R2: ErrFull for a fifth savepoint, but ErrArg first.
func TestSaveErrors(t *testing.T) {
	x := full()
	wantSave(t, "a fifth", x, api.Tx{}, 0, api.ErrFull)
	x.L[5].LSN = 50
	wantSave(t, "not valid", x, api.Tx{}, 0, api.ErrArg)
	wantSave(t, "zero", api.Tx{}, api.Tx{}, 0, api.ErrArg)
	x = full()
	x.Saves = append(x.Saves, 6)
	wantSave(t, "five already", x, api.Tx{}, 0, api.ErrArg)
}

// P14.2: Above counts from each savepoint, and there are no others.
func TestAbove(t *testing.T) {
	x := full()
	for save, want := range []int{6, 4, 4, 0} {
		wantAbove(t, "there is one", x, save, want, api.OK)
	}
	for _, save := range append([]int{-1, 4, 5, 6, 255}, far...) {
		wantAbove(t, "there is none", x, save, 0, api.ErrNone)
		wantAbove(t, "there is none", begun(t, 1), save, 0, api.ErrNone)
	}
	wantAbove(t, "there is none", begun(t, 1), 0, 0, api.ErrNone)
	x.Saves = x.Saves[:3]
	wantAbove(t, "behind the list", x, 3, 0, api.ErrNone)
	x.Saves[2] = 7
	wantAbove(t, "not valid", x, 0, 0, api.ErrArg)
	wantAbove(t, "not valid", x, 9, 0, api.ErrArg)
	wantAbove(t, "zero", api.Tx{}, 0, 0, api.ErrArg)
	for _, state := range []int{api.TxActive, api.TxCommitted, api.TxAborting} {
		wantAbove(t, "any state", api.Tx{ID: 1, State: state, L: []api.Change{at(3)}, Saves: []int{0}}, 0, 1, api.OK)
	}
}

// P14.4: Above counts exactly the changes that were noted after the savepoint and not undone.
func TestAboveCounts(t *testing.T) {
	x := saved(t, noted(t, saved(t, begun(t, 1), 0), 1, 2), 1)
	x = noted(t, x, 3, 4, 5)
	wantAbove(t, "noted", x, 0, 5, api.OK)
	wantAbove(t, "noted", x, 1, 3, api.OK)
	x = undone(t, undone(t, x, 5), 4)
	wantAbove(t, "undone", x, 0, 3, api.OK)
	wantAbove(t, "undone", x, 1, 1, api.OK)
	x = noted(t, x, 6)
	wantAbove(t, "noted again", x, 0, 4, api.OK)
	wantAbove(t, "noted again", x, 1, 2, api.OK)
	x = undone(t, undone(t, x, 6), 3)
	wantAbove(t, "down to it", x, 1, 0, api.OK)
	x = undone(t, x, 2)
	wantAbove(t, "below it", x, 1, 0, api.ErrNone)
	wantAbove(t, "below it", x, 0, 1, api.OK)
}
