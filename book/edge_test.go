package book

import (
	"math"
	"testing"

	"timekeeper/api"
)

func TestNumbersOfNodes(t *testing.T) {
	for _, nodes := range []int{0, -1, allNodes + 1, math.MinInt, math.MaxInt} {
		if b, e := New(nodes); b != nil || e != api.ErrArg {
			t.Errorf("New of %d is %v, error %d", nodes, b, e)
		}
	}
	for _, nodes := range []int{1, 2, allNodes - 1, allNodes} {
		b := bookOf(t, nodes)
		checkState(t, "new", b, nil, 0, nodes)
		checkTake(t, b, api.ErrArg, 1, 0, 5, nodes+1)
		checkTake(t, b, api.ErrArg, 1, 0, 5, 0)
		checkNotOut(t, b, api.ErrArg, 0, 5, nodes+1)
		checkNotOut(t, b, api.ErrArg, 0, 5, 0)
		checkTake(t, b, api.OK, 1, 0, 5, nodes)
		checkTake(t, b, api.ErrRoom, 2, 4, 6, 1)
		checkTake(t, b, api.OK, 2, 5, 7, 1)
		checkFree(t, b, api.OK, 2)
		checkState(t, "all reserved", b, slots(1, 0, 5, nodes), 0, 0, 5, nodes)
		checkOut(t, b, 4, 6, 1, 1)
		checkOut(t, b, 5, 7, nodes)
		if nodes == 1 {
			checkState(t, "out", b, nil, 0, 1, 4, 0, 7, 1)
		} else {
			checkState(t, "out", b, nil, 0, nodes, 4, nodes-1, 5, 0, 7, nodes)
		}
	}
}

func TestFirstAndLastTimes(t *testing.T) {
	b := bookOf(t, 3, 1, 0, most, 1, 2, 0, 1, 1, 3, most-1, most, 1)
	checkState(t, "both ends", b, slots(1, 0, most, 1, 2, 0, 1, 1, 3, most-1, most, 1), 0, 1, 1, 2, most-1, 1, most, 3)
	checkTake(t, b, api.ErrArg, 4, 0, most+1, 1)
	checkTake(t, b, api.ErrArg, 4, most, most+1, 1)
	checkTake(t, b, api.ErrArg, 4, most, most, 1)
	checkTake(t, b, api.ErrArg, 4, 0, 0, 1)
	checkTake(t, b, api.ErrArg, 4, -1, 1, 1)
	checkTake(t, b, api.ErrRoom, 4, most-1, most, 2)
	checkTake(t, b, api.ErrRoom, 4, 0, most, 2)
	checkOut(t, b, most-1, most, 2, 3)
	checkOut(t, b, 0, 1, 3, 1, 2)
	checkState(t, "out at both ends", b, nil, 0, 0, 1, 3, most-1, 1, most, 3)
	checkNotOut(t, b, api.ErrArg, most-1, most+1, 1)
	checkNotOut(t, b, api.ErrArg, most, most, 1)
	checkNotOut(t, b, api.ErrArg, -1, 1, 1)
	checkOut(t, b, 0, most, 3)
	checkState(t, "all out", b, nil, 0, 0, most, 3)
}

// From is just below To, equal to it, or above it.
func TestShortReservations(t *testing.T) {
	for _, at := range []int{0, 1, 7, most - 1} {
		b := bookOf(t, 3)
		checkTake(t, b, api.OK, 1, at, at+1, 2)
		checkTake(t, b, api.ErrArg, 2, at, at, 1)
		checkTake(t, b, api.ErrArg, 2, at+1, at, 1)
		checkNotOut(t, b, api.ErrArg, at, at, 1)
		checkNotOut(t, b, api.ErrArg, at+1, at, 1)
		checkOut(t, b, at, at+1, 1)
		checkOut(t, b, at, at+1, 1, 1)
		checkFree(t, b, api.ErrNone, 1)
	}
}

// A reservation does not include its To, nor an outage its to.
func TestNeighboursDoNotMeet(t *testing.T) {
	b := bookOf(t, 3, 1, 5, 10, 3)
	checkOut(t, b, 0, 5, 3)
	checkOut(t, b, 10, 15, 3)
	checkState(t, "out on both sides", b, slots(1, 5, 10, 3), 0, 0, 15, 3)
	checkOut(t, b, 10, 11, 1)
	checkOut(t, b, 4, 5, 1)
	checkOut(t, b, 9, 10, 1, 1)
	b = bookOf(t, 3, 1, 5, 10, 3)
	checkOut(t, b, 5, 6, 1, 1)
	b = bookOf(t, 3, 1, 5, 10, 3)
	checkOut(t, b, 7, 8, 1, 1)
	b = bookOf(t, 3, 1, 5, 10, 3)
	checkOut(t, b, 0, 100, 1, 1)
}

// Out of as many nodes as are in service, and of more, where some are out already.
func TestOutOfNodesThatAreOut(t *testing.T) {
	b := bookOf(t, 5)
	checkOut(t, b, 0, 10, 2)
	checkOut(t, b, 0, 5, 3)
	checkState(t, "as many as there are", b, nil, 0, 0, 5, 3, 10, 5)
	checkOut(t, b, 5, 10, 4)
	checkState(t, "one more", b, nil, 0, 0, 10, 5)
	checkOut(t, b, 0, 10, 1)
	checkOut(t, b, 3, 7, 5)
	checkState(t, "none is left anyway", b, nil, 0, 0, 10, 5)
	checkOut(t, b, 9, 12, 5)
	checkState(t, "all", b, nil, 0, 0, 12, 5)
	checkOut(t, b, 11, 13, 2)
	checkState(t, "from where none is left", b, nil, 0, 0, 12, 3, 13, 5)
}

// Just as many nodes are left as are reserved, or one fewer.
func TestOutLeavesJustEnough(t *testing.T) {
	b := bookOf(t, 9, 1, 0, 10, 4, 2, 5, 15, 3)
	checkOut(t, b, 5, 10, 2)
	checkState(t, "just enough", b, slots(1, 0, 10, 4, 2, 5, 15, 3), 0, 5, 5, 0, 10, 6, 15, 9)
	checkOut(t, b, 0, 5, 5)
	checkOut(t, b, 10, 15, 6)
	checkState(t, "just enough everywhere", b, slots(1, 0, 10, 4, 2, 5, 15, 3), 0, 0, 15, 9)
	c := b.Copy()
	checkOut(t, c, 9, 10, 1, 2)
	checkState(t, "one fewer for both", c, slots(1, 0, 10, 4), 0, 0, 5, 3, 9, 2, 10, 3, 15, 9)
	c = b.Copy()
	checkOut(t, c, 4, 5, 1, 1)
	checkState(t, "one fewer for one", c, slots(2, 5, 15, 3), 0, 4, 4, 3, 5, 4, 10, 0, 15, 9)
	c = b.Copy()
	checkOut(t, c, 14, 15, 1, 2)
	checkState(t, "one fewer for the other", c, slots(1, 0, 10, 4), 0, 0, 5, 3, 14, 2, 15, 9)
	c = b.Copy()
	checkOut(t, c, 4, 11, 1, 1, 2)
	checkState(t, "one fewer for each", c, nil, 0, 4, 4, 3, 5, 6, 10, 2, 11, 3, 15, 9)
}

// Of several the one with the greatest number goes, and the next, until there are enough.
func TestOrderInWhichReservationsGo(t *testing.T) {
	for k, want := range [][]int{1: nil, 2: {7}, 3: {7}, 4: {5, 7}, 5: {5, 7}, 6: {5, 7}, 7: {2, 5, 7}, 8: {2, 5, 7}} {
		if k == 0 {
			continue
		}
		b := bookOf(t, 8, 5, 0, 10, 3, 7, 0, 10, 2, 2, 0, 10, 2)
		checkOut(t, b, 3, 4, k, want...)
	}
	// It is the number that counts, not when they begin, how many nodes they have, or when they were made.
	checkOut(t, bookOf(t, 4, 9, 0, 10, 1, 3, 5, 15, 1, 6, 2, 7, 2), 0, 20, 1, 9)
	checkOut(t, bookOf(t, 4, 3, 5, 15, 1, 6, 2, 7, 2, 9, 0, 10, 1), 0, 20, 1, 9)
	checkOut(t, bookOf(t, 4, 3, 0, 10, 1, 6, 5, 15, 1, 9, 2, 7, 2), 0, 20, 1, 9)
	checkOut(t, bookOf(t, 4, 9, 0, 10, 1, 3, 5, 15, 1, 6, 2, 7, 2), 0, 20, 2, 6, 9)
	checkOut(t, bookOf(t, 4, 9, 0, 10, 1, 3, 5, 15, 1, 6, 2, 7, 2), 0, 20, 3, 6, 9)
	checkOut(t, bookOf(t, 4, 9, 0, 10, 1, 3, 5, 15, 1, 6, 2, 7, 2), 0, 20, 4, 3, 6, 9)
}

// A reservation goes only for a time that it includes, and at which it is too much.
func TestReservationsThatMayStay(t *testing.T) {
	// 9 is within the outage, but there is room beside it.
	b := bookOf(t, 4, 1, 0, 10, 2, 2, 0, 10, 2, 9, 10, 20, 2)
	checkOut(t, b, 5, 15, 2, 2)
	checkState(t, "9 stays", b, slots(1, 0, 10, 2, 9, 10, 20, 2), 0, 2, 5, 0, 15, 2, 20, 4)
	// 8 is as well, and includes times at which all nodes are reserved, but only ones outside of the outage.
	b = bookOf(t, 4, 1, 0, 10, 2, 2, 0, 5, 2, 8, 8, 20, 2)
	checkOut(t, b, 4, 8, 1, 2)
	checkState(t, "8 stays", b, slots(1, 0, 10, 2, 8, 8, 20, 2), 0, 2, 4, 1, 8, 0, 10, 2, 20, 4)
	// 3 goes for one time, so that 2 may stay at another one.
	b = bookOf(t, 4, 1, 0, 5, 3, 2, 6, 10, 3, 3, 0, 10, 1)
	checkOut(t, b, 0, 10, 1, 3)
	checkState(t, "3 went for both", b, slots(1, 0, 5, 3, 2, 6, 10, 3), 0, 0, 5, 3, 6, 0, 10, 4)
	// 3 is not enough at a time at which 2 is as well.
	b = bookOf(t, 4, 1, 0, 5, 3, 2, 6, 10, 3, 3, 0, 10, 1)
	checkOut(t, b, 0, 10, 2, 1, 2, 3)
	b = bookOf(t, 4, 1, 0, 5, 2, 2, 6, 10, 3, 3, 0, 10, 1)
	checkOut(t, b, 0, 10, 2, 2, 3)
	// 3 has gone ahead of 2, though without 2 it could stay.
	b = bookOf(t, 4, 1, 0, 5, 1, 2, 0, 5, 2, 3, 0, 5, 1)
	checkOut(t, b, 0, 5, 2, 2, 3)
	checkState(t, "both went", b, slots(1, 0, 5, 1), 0, 1, 5, 4)
	// 2 does not go together with 3, which begins later.
	b = bookOf(t, 4, 1, 0, 9, 2, 2, 0, 3, 2, 3, 3, 9, 2)
	checkOut(t, b, 3, 4, 1, 3)
	checkState(t, "2 stays", b, slots(1, 0, 9, 2, 2, 0, 3, 2), 0, 0, 3, 1, 4, 2, 9, 4)
	// Those that go are at several times apart.
	b = bookOf(t, 3, 1, 0, 2, 3, 2, 10, 12, 3, 3, 20, 22, 3, 4, 5, 6, 2)
	checkOut(t, b, 1, 21, 1, 1, 2, 3)
	checkState(t, "4 stays", b, slots(4, 5, 6, 2), 0, 3, 1, 2, 5, 0, 6, 2, 21, 3)
}

// Where nodes are out already, fewer are missing.
func TestOutAgain(t *testing.T) {
	b := bookOf(t, 6, 1, 0, 10, 2, 2, 5, 15, 2)
	checkOut(t, b, 0, 20, 2)
	checkState(t, "two out", b, slots(1, 0, 10, 2, 2, 5, 15, 2), 0, 2, 5, 0, 10, 2, 15, 4, 20, 6)
	checkOut(t, b, 0, 5, 2)
	checkState(t, "two more", b, slots(1, 0, 10, 2, 2, 5, 15, 2), 0, 0, 10, 2, 15, 4, 20, 6)
	checkOut(t, b, 4, 5, 6, 1)
	checkState(t, "none left at 4", b, slots(2, 5, 15, 2), 0, 2, 4, 0, 5, 2, 15, 4, 20, 6)
	checkOut(t, b, 14, 18, 5, 2)
	checkState(t, "none left at 14", b, nil, 0, 2, 4, 0, 5, 4, 14, 0, 18, 4, 20, 6)
}

func TestFreeAtTheEdges(t *testing.T) {
	b := bookOf(t, 4, 1, 0, 10, 1, 2, 0, 10, 1, math.MaxInt, 0, 10, 1)
	for _, l := range [][]int{{1, 1}, {1, 2, 1}, {2, 1, 1}, {1, 2, math.MaxInt, 2}, {1, 3}, {3, 1}, {1, 2, 0}, {math.MaxInt, -1}, {math.MinInt, 1}, {math.MaxInt, math.MaxInt}, {3, 3}} {
		checkFree(t, b, api.ErrNone, l...)
	}
	checkState(t, "nothing is gone", b, slots(1, 0, 10, 1, 2, 0, 10, 1, math.MaxInt, 0, 10, 1), 0, 1, 10, 4)
	checkFree(t, b, api.OK, math.MaxInt, 1, 2)
	checkState(t, "all are gone", b, nil, 0, 4)
}

func TestCutAtTheEdges(t *testing.T) {
	for _, from := range []int{0, 1, 5, most - 10} {
		b := bookOf(t, 4, 1, from, from+10, 3)
		checkCut(t, b, api.ErrArg, 1, from+11)
		checkCut(t, b, api.ErrArg, 1, -1)
		checkCut(t, b, api.OK, 1, from+10)
		checkCut(t, b, api.OK, 1, from+1)
		if s, ok := b.Get(1); s != slots(1, from, from+1, 3)[0] || !ok {
			t.Errorf("from %d, cut to one behind it: %v, %v", from, s, ok)
		}
		checkCut(t, b, api.ErrArg, 1, from+2)
		checkCut(t, b, api.OK, 1, from)
		checkState(t, "cut to From", b, nil, 0, 4)
		checkTake(t, b, api.OK, 1, from, from+10, 3)
		checkCut(t, b, api.OK, 1, 0)
		checkState(t, "cut to 0", b, nil, 0, 4)
	}
	b := bookOf(t, 4, 1, 0, most, 3)
	checkCut(t, b, api.ErrArg, 1, most+1)
	checkCut(t, b, api.OK, 1, most)
	checkState(t, "cut to the last time", b, slots(1, 0, most, 3), 0, 1, most, 4)
	checkCut(t, b, api.OK, 1, most-1)
	checkState(t, "cut ahead of it", b, slots(1, 0, most-1, 3), 0, 1, most-1, 4)
}

func TestMoveAtTheEdges(t *testing.T) {
	b := bookOf(t, 4, 1, 5, 15, 3)
	checkMove(t, b, api.OK, 1, most-10)
	checkState(t, "to the end of all times", b, slots(1, most-10, most, 3), 0, 4, most-10, 1, most, 4)
	checkMove(t, b, api.ErrArg, 1, most-9)
	checkMove(t, b, api.ErrArg, 1, most)
	checkMove(t, b, api.ErrArg, 1, most+1)
	checkMove(t, b, api.ErrArg, 1, math.MaxInt)
	checkMove(t, b, api.ErrArg, 1, -1)
	checkMove(t, b, api.ErrArg, 1, math.MinInt)
	checkMove(t, b, api.OK, 1, most-11)
	checkMove(t, b, api.OK, 1, 0)
	checkState(t, "to 0", b, slots(1, 0, 10, 3), 0, 1, 10, 4)
	checkMove(t, b, api.OK, 1, 9)
	checkMove(t, b, api.OK, 1, 0)
	checkMove(t, b, api.OK, 1, 10)
	checkState(t, "just behind itself", b, slots(1, 10, 20, 3), 0, 4, 10, 1, 20, 4)
	b = bookOf(t, 4, 1, 0, most, 4)
	checkMove(t, b, api.OK, 1, 0)
	checkMove(t, b, api.ErrArg, 1, 1)
	checkMove(t, b, api.ErrArg, 1, -1)
	checkState(t, "always", b, slots(1, 0, most, 4), 0, 0, most, 4)
}

// Its own nodes are no hindrance to a reservation that moves, those of others are, and nodes that are out.
func TestMoveOverItsOldPlace(t *testing.T) {
	b := bookOf(t, 4, 1, 10, 20, 4, 2, 25, 30, 1)
	checkOut(t, b, 0, 5, 1)
	for _, from := range []int{11, 15, 14, 9, 5, 10} {
		checkMove(t, b, api.OK, 1, from)
	}
	checkMove(t, b, api.ErrRoom, 1, 16)
	checkMove(t, b, api.ErrRoom, 1, 4)
	checkMove(t, b, api.ErrRoom, 1, 29)
	checkMove(t, b, api.ErrRoom, 2, 19)
	checkMove(t, b, api.ErrRoom, 2, 6)
	checkMove(t, b, api.OK, 2, 5)
	checkMove(t, b, api.OK, 2, 4)
	checkState(t, "beside one that is out", b, slots(1, 10, 20, 4, 2, 4, 9, 1), 0, 3, 4, 2, 5, 3, 9, 4, 10, 0, 20, 4)
	checkMove(t, b, api.OK, 1, 30)
	checkState(t, "out of the way", b, slots(1, 30, 40, 4, 2, 4, 9, 1), 0, 3, 4, 2, 5, 3, 9, 4, 30, 0, 40, 4)
}

// Numbers need not follow one another, and may be used again.
func TestNumbersOfReservations(t *testing.T) {
	b := bookOf(t, 4, math.MaxInt, 0, 1, 1, 1, 0, 1, 1, 1<<40, 0, 1, 1)
	checkState(t, "great numbers", b, slots(1, 0, 1, 1, 1<<40, 0, 1, 1, math.MaxInt, 0, 1, 1), 0, 1, 1, 4)
	checkOut(t, b, 0, 1, 2, math.MaxInt)
	checkTake(t, b, api.ErrTwice, 1, 5, 6, 1)
	checkTake(t, b, api.OK, math.MaxInt, 5, 6, 1)
	checkOut(t, b, 0, 9, 4, 1, 1<<40, math.MaxInt)
	checkTake(t, b, api.OK, 1, 9, 10, 4)
	checkState(t, "used again", b, slots(1, 9, 10, 4), 0, 0, 10, 4)
}
