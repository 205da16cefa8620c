package book

import (
	"fmt"
	"math"
	"testing"

	"timekeeper/api"
)

// notTimes are numbers close to the times, and far from them.
func notTimes() []int {
	return []int{-1, -2, -most, most + 1, most + 2, 2 * most, math.MinInt, math.MinInt + 1, math.MaxInt, math.MaxInt - 1}
}

// noSlots are slots each of which has one flaw in a book of so many nodes.
func noSlots(nodes int) []api.Slot {
	l := slots(0, 2, 5, 1, -1, 2, 5, 1, math.MinInt, 2, 5, 1,
		9, 5, 5, 1, 9, 5, 4, 1, 9, 5, 0, 1, 9, 0, 0, 1, 9, most, most, 1, 9, most, 0, 1,
		9, 2, 5, 0, 9, 2, 5, -1, 9, 2, 5, nodes+1, 9, 2, 5, allNodes+1, 9, 2, 5, math.MinInt, 9, 2, 5, math.MaxInt)
	for _, n := range notTimes() {
		l = append(l, api.Slot{ID: 9, From: n, To: most, Nodes: 1}, api.Slot{ID: 9, To: n, Nodes: 1}, api.Slot{ID: 9, From: n, To: n, Nodes: 1})
		if n < most {
			l = append(l, api.Slot{ID: 9, From: n, To: n + 3, Nodes: 1})
		}
	}
	return l
}

func TestEachSlotThatIsNotValid(t *testing.T) {
	for _, nodes := range []int{1, 4, allNodes} {
		// In a book with much room, and in one without any.
		for _, b := range []*Book{bookOf(t, nodes), bookOf(t, nodes, 1, 0, most, nodes)} {
			for _, s := range noSlots(nodes) {
				checkError(t, fmt.Sprint(s), b, func() api.Errno { return b.Take(s) }, api.ErrArg)
			}
		}
	}
}

// choose returns the value of bit n of all, the right or the wrong one.
func choose(all, n, right, wrong int) int {
	if all>>n&1 == 0 {
		return right
	}
	return wrong
}

// A slot with several flaws, a number that is taken, and no room: the first error of these is told.
func TestErrorsOfTakeInOrder(t *testing.T) {
	b := bookOf(t, 4, 1, 0, 10, 3)
	for n := 1; n < 16; n++ {
		for _, id := range []int{1, 2} {
			checkTake(t, b, api.ErrArg, choose(n, 0, id, 0), choose(n, 1, 5, -1), choose(n, 2, 9, most+1), choose(n, 3, 2, 5))
		}
	}
	checkTake(t, b, api.ErrTwice, 1, 5, 9, 2)
	checkTake(t, b, api.ErrTwice, 1, 10, 19, 2)
	checkTake(t, b, api.ErrTwice, 1, 0, 10, 3)
	checkTake(t, b, api.ErrArg, 1, 9, 9, 2)
	checkTake(t, b, api.ErrRoom, 2, 5, 9, 2)
	checkTake(t, b, api.OK, 2, 10, 19, 2)
}

// That there are MaxSlots is told ahead of ErrRoom, but behind the others.
func TestErrorsOfTakeInFullBook(t *testing.T) {
	b := full(t, 5)
	checkTake(t, b, api.ErrArg, 1, 5, 5, 1)
	checkTake(t, b, api.ErrArg, 0, 5, 9, 1)
	checkTake(t, b, api.ErrArg, api.MaxSlots+1, 5, 9, 6)
	checkTake(t, b, api.ErrTwice, 1, most-5, most, 1)
	checkTake(t, b, api.ErrTwice, 1, 0, most, 5)
	checkTake(t, b, api.ErrLong, api.MaxSlots+1, most-5, most, 1)
	checkTake(t, b, api.ErrLong, api.MaxSlots+1, 0, most, 5)
	checkFree(t, b, api.OK, 7)
	checkTake(t, b, api.ErrTwice, 1, 0, most, 5)
	checkTake(t, b, api.ErrRoom, api.MaxSlots+1, 0, most, 5)
	checkTake(t, b, api.OK, api.MaxSlots+1, most-5, most, 5)
	checkTake(t, b, api.ErrLong, 7, most-9, most-5, 1)
}

func TestErrorsOfCut(t *testing.T) {
	b := bookOf(t, 4, 1, 5, 10, 3, 2, most-5, most, 2)
	for _, to := range append(notTimes(), 0, 3, 5, 7, 10, 11, most) {
		checkCut(t, b, api.ErrNone, 3, to)
		checkCut(t, b, api.ErrNone, 0, to)
		checkCut(t, b, api.ErrNone, -1, to)
	}
	for _, to := range notTimes() {
		checkCut(t, b, api.ErrArg, 1, to)
		checkCut(t, b, api.ErrArg, 2, to)
	}
	for _, to := range []int{11, 12, most - 5, most} {
		checkCut(t, b, api.ErrArg, 1, to)
	}
	checkState(t, "as it was", b, slots(1, 5, 10, 3, 2, most-5, most, 2), 0, 4, 5, 1, 10, 4, most-5, 2, most, 4)
}

func TestErrorsOfMove(t *testing.T) {
	b := bookOf(t, 4, 1, 5, 10, 3, 2, most-5, most, 2)
	for _, from := range append(notTimes(), 0, 3, 5, 10, most-7, most-5, most-4, most) {
		checkMove(t, b, api.ErrNone, 3, from)
		checkMove(t, b, api.ErrNone, 0, from)
		checkMove(t, b, api.ErrNone, -1, from)
	}
	for _, from := range append(notTimes(), most, most-1, most-4) {
		checkMove(t, b, api.ErrArg, 1, from)
		checkMove(t, b, api.ErrArg, 2, from)
	}
	// There would be no room either.
	checkMove(t, b, api.ErrRoom, 1, most-5)
	checkMove(t, b, api.ErrRoom, 1, most-9)
	checkMove(t, b, api.ErrRoom, 2, 9)
	checkMove(t, b, api.ErrRoom, 2, 1)
	checkState(t, "as it was", b, slots(1, 5, 10, 3, 2, most-5, most, 2), 0, 4, 5, 1, 10, 4, most-5, 2, most, 4)
}

func TestErrorsOfOut(t *testing.T) {
	b := bookOf(t, 4, 1, 5, 10, 4)
	for _, n := range notTimes() {
		checkNotOut(t, b, api.ErrArg, n, 10, 1)
		checkNotOut(t, b, api.ErrArg, n, most, 1)
		checkNotOut(t, b, api.ErrArg, 0, n, 1)
		checkNotOut(t, b, api.ErrArg, 7, n, 1)
		checkNotOut(t, b, api.ErrArg, n, n, 1)
	}
	for _, k := range []int{0, -1, -4, 5, allNodes, allNodes + 1, math.MinInt, math.MaxInt} {
		checkNotOut(t, b, api.ErrArg, 5, 10, k)
		checkNotOut(t, b, api.ErrArg, 0, most, k)
	}
	for n := 1; n < 8; n++ {
		checkNotOut(t, b, api.ErrArg, choose(n, 0, 5, -1), choose(n, 1, 9, most+1), choose(n, 2, 2, 0))
	}
	checkState(t, "as it was", b, slots(1, 5, 10, 4), 0, 4, 5, 0, 10, 4)
}

// A wrong argument is told ahead of too many steps, and those ahead of reservations that would go.
func TestErrorsOfOutInOrder(t *testing.T) {
	b := ragged(t, 4, mostSteps)
	checkTake(t, b, api.OK, 1, most-20, most-10, 4)
	checkNotOut(t, b, api.ErrArg, most-15, most-12, 5)
	checkNotOut(t, b, api.ErrArg, most-15, most-15, 1)
	checkNotOut(t, b, api.ErrArg, most-15, most+1, 1)
	checkNotOut(t, b, api.ErrLong, most-15, most-12, 1)
	checkNotOut(t, b, api.ErrLong, most-15, most-12, 4)
	if _, ok := b.Get(1); !ok {
		t.Error("the reservation is gone")
	}
	checkOut(t, b, 0, most, 4, 1)
	checkState(t, "all out", b, nil, 0, 0, most, 4)
}

// checkNil asks all calls of a book that is not there, with the same numbers.
func checkNil(t *testing.T, n int) {
	t.Helper()
	var b *Book
	ids, e := b.Out(n, n+5, 1)
	for i, got := range []api.Errno{b.Take(api.Slot{ID: n, From: n, To: n + 5, Nodes: 1}), b.Free(n), b.Free(), b.Free(n, n), b.Cut(n, n), b.Move(n, n), e} {
		if got != api.ErrNil {
			t.Errorf("nil, call %d with %d: error %d", i, n, got)
		}
	}
	s, ok := b.Get(n)
	if len(ids) > 0 || ok || s != (api.Slot{}) || len(b.Slots()) > 0 || len(b.Steps()) > 0 || b.Copy() != nil {
		t.Errorf("nil, with %d: %v, %v, %v, %v, %v, %v", n, ids, s, ok, b.Slots(), b.Steps(), b.Copy())
	}
}

func TestNil(t *testing.T) {
	for _, n := range append(notTimes(), 0, 1, 5, most) {
		checkNil(t, n)
	}
}

// A book that New has not made has no nodes.
func TestBookThatNewHasNotMade(t *testing.T) {
	b := new(Book)
	for _, nodes := range []int{-1, 0, 1, allNodes} {
		checkTake(t, b, api.ErrArg, 1, 0, 5, nodes)
		checkNotOut(t, b, api.ErrArg, 0, 5, nodes)
	}
	checkFree(t, b, api.OK)
	checkFree(t, b, api.ErrNone, 1)
	checkCut(t, b, api.ErrNone, 1, 0)
	checkMove(t, b, api.ErrNone, 1, 0)
	if c := b.Copy(); len(b.Steps())+len(b.Slots())+len(c.Steps())+len(c.Slots()) > 0 {
		t.Errorf("%v, %v and of the copy %v, %v", b.Steps(), b.Slots(), c.Steps(), c.Slots())
	}
}
