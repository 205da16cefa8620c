package book

import (
	"math"
	"slices"
	"testing"

	"timekeeper/api"
	"timekeeper/fit"
	"timekeeper/steps"
)

const (
	most     = api.MaxTime
	allNodes = api.MaxNodes
)

// slots are those of each four of these numbers, an ID, From, To and Nodes.
func slots(numbers ...int) []api.Slot {
	var l []api.Slot
	for x := range slices.Chunk(numbers, 4) {
		l = append(l, api.Slot{ID: x[0], From: x[1], To: x[2], Nodes: x[3]})
	}
	return l
}

// list are the steps of each two of these numbers, an At and a Free.
func list(numbers ...int) []api.Step {
	var l []api.Step
	for x := range slices.Chunk(numbers, 2) {
		l = append(l, api.Step{At: x[0], Free: x[1]})
	}
	return l
}

// bookOf is a book with these reservations, of four numbers each.
func bookOf(t *testing.T, nodes int, numbers ...int) *Book {
	t.Helper()
	b, e := New(nodes)
	if e != api.OK {
		t.Fatalf("New of %d: error %d", nodes, e)
	}
	for _, s := range slots(numbers...) {
		if e := b.Take(s); e != api.OK {
			t.Fatalf("Take of %v: error %d", s, e)
		}
	}
	return b
}

// state is all that a book tells.
type state struct {
	slots []api.Slot
	steps []api.Step
}

func stateOf(b *Book) state {
	return state{b.Slots(), b.Steps()}
}

func (s state) isSame(u state) bool {
	return slices.Equal(s.slots, u.slots) && slices.Equal(s.steps, u.steps)
}

// checkState asks for these reservations, in the order of their numbers, and these steps.
func checkState(t *testing.T, what string, b *Book, want []api.Slot, free ...int) {
	t.Helper()
	if got := b.Slots(); !slices.Equal(got, want) {
		t.Errorf("%s: Slots is %v; asked for: %v", what, got, want)
	}
	if got := b.Steps(); !slices.Equal(got, list(free...)) {
		t.Errorf("%s: Steps is %v; asked for: %v", what, got, list(free...))
	}
	if e := steps.Check(b.Steps()); e != api.OK {
		t.Errorf("%s: Steps is %v: error %d", what, b.Steps(), e)
	}
	for _, s := range want {
		if got, ok := b.Get(s.ID); got != s || !ok {
			t.Errorf("%s: Get of %d is %v, %v; asked for: %v", what, s.ID, got, ok, s)
		}
		for _, id := range []int{s.ID - 1, s.ID + 1} {
			got, ok := b.Get(id)
			if has := slices.ContainsFunc(want, func(u api.Slot) bool { return u.ID == id }); ok != has || !has && got != (api.Slot{}) {
				t.Errorf("%s: Get of %d is %v, %v; asked for: %v", what, id, got, ok, has)
			}
		}
	}
}

// checkError asks for an error, and with it for a book that is as it was.
func checkError(t *testing.T, what string, b *Book, do func() api.Errno, want api.Errno) {
	t.Helper()
	before := stateOf(b)
	if e := do(); e != want {
		t.Errorf("%s: error %d; asked for: %d", what, e, want)
	}
	if after := stateOf(b); want != api.OK && !after.isSame(before) {
		t.Errorf("%s: %v has become %v", what, before, after)
	}
}

func checkTake(t *testing.T, b *Book, want api.Errno, id, from, to, nodes int) {
	t.Helper()
	s := api.Slot{ID: id, From: from, To: to, Nodes: nodes}
	checkError(t, "Take", b, func() api.Errno { return b.Take(s) }, want)
}

func checkFree(t *testing.T, b *Book, want api.Errno, l ...int) {
	t.Helper()
	checkError(t, "Free", b, func() api.Errno { return b.Free(l...) }, want)
}

func checkCut(t *testing.T, b *Book, want api.Errno, id, to int) {
	t.Helper()
	checkError(t, "Cut", b, func() api.Errno { return b.Cut(id, to) }, want)
}

func checkMove(t *testing.T, b *Book, want api.Errno, id, from int) {
	t.Helper()
	checkError(t, "Move", b, func() api.Errno { return b.Move(id, from) }, want)
}

// checkOut asks for the numbers of these reservations to go.
func checkOut(t *testing.T, b *Book, from, to, k int, want ...int) {
	t.Helper()
	if got, e := b.Out(from, to, k); e != api.OK || !slices.Equal(got, want) {
		t.Errorf("Out of %d from %d to %d is %v, error %d; asked for: %v", k, from, to, got, e, want)
	}
}

func checkNotOut(t *testing.T, b *Book, want api.Errno, from, to, k int) {
	t.Helper()
	checkError(t, "Out", b, func() api.Errno {
		ids, e := b.Out(from, to, k)
		if len(ids) > 0 {
			t.Errorf("Out of %d from %d to %d is %v beside error %d", k, from, to, ids, e)
		}
		return e
	}, want)
}

func TestExample(t *testing.T) {
	b := bookOf(t, 4)
	checkTake(t, b, api.OK, 1, 0, 10, 3)
	checkTake(t, b, api.ErrRoom, 2, 5, 9, 2)
	checkState(t, "one reservation", b, slots(1, 0, 10, 3), 0, 1, 10, 4)
	checkOut(t, b, 3, 4, 2, 1)
	checkState(t, "it had to go", b, nil, 0, 4, 3, 2, 4, 4)
}

// The sixth one of the whole.
func TestExampleOfTheWhole(t *testing.T) {
	b := bookOf(t, 4, 1, 10, 20, 3)
	checkState(t, "3 of 4", b, slots(1, 10, 20, 3), 0, 4, 10, 1, 20, 4)
	at, e := fit.First(b.Steps(), api.Window{From: 10, By: most}, 2, 8)
	if at != 20 || e != api.OK {
		t.Errorf("two nodes fit at %d, error %d", at, e)
	}
	checkTake(t, b, api.OK, 2, at, at+8, 2)
	checkTake(t, b, api.ErrRoom, 3, 19, 27, 2)
	checkState(t, "taken", b, slots(1, 10, 20, 3, 2, 20, 28, 2), 0, 4, 10, 1, 20, 2, 28, 4)
}

// The ninth one of the whole: the second workflow has room at 5, and is done at 10.
func TestExampleOfTheDeadline(t *testing.T) {
	b := bookOf(t, 2, 1, 0, 5, 2)
	checkTake(t, b, api.ErrRoom, 2, 0, 5, 2)
	checkTake(t, b, api.ErrRoom, 2, 4, 9, 2)
	checkTake(t, b, api.OK, 2, 5, 10, 2)
	checkState(t, "both", b, slots(1, 0, 5, 2, 2, 5, 10, 2), 0, 0, 10, 2)
}

func TestBookWithoutReservations(t *testing.T) {
	b := bookOf(t, 7)
	checkState(t, "none", b, nil, 0, 7)
	for _, id := range []int{0, 1, -1, math.MaxInt, math.MinInt} {
		if s, ok := b.Get(id); s != (api.Slot{}) || ok {
			t.Errorf("Get of %d is %v, %v", id, s, ok)
		}
		checkFree(t, b, api.ErrNone, id)
		checkCut(t, b, api.ErrNone, id, 5)
		checkMove(t, b, api.ErrNone, id, 5)
	}
	checkFree(t, b, api.OK)
	checkState(t, "still none", b, nil, 0, 7)
}

func TestReservationsAtVariousPlaces(t *testing.T) {
	checkState(t, "one", bookOf(t, 4, 7, 3, 9, 1), slots(7, 3, 9, 1), 0, 4, 3, 3, 9, 4)
	checkState(t, "one behind the other", bookOf(t, 4, 1, 3, 9, 4, 2, 9, 12, 4), slots(1, 3, 9, 4, 2, 9, 12, 4), 0, 4, 3, 0, 12, 4)
	checkState(t, "the other first", bookOf(t, 4, 2, 9, 12, 4, 1, 3, 9, 3), slots(1, 3, 9, 3, 2, 9, 12, 4), 0, 4, 3, 1, 9, 0, 12, 4)
	checkState(t, "with time between", bookOf(t, 4, 1, 3, 9, 4, 2, 10, 12, 4), slots(1, 3, 9, 4, 2, 10, 12, 4), 0, 4, 3, 0, 9, 4, 10, 0, 12, 4)
	checkState(t, "overlapping", bookOf(t, 4, 1, 3, 9, 2, 2, 8, 12, 2), slots(1, 3, 9, 2, 2, 8, 12, 2), 0, 4, 3, 2, 8, 0, 9, 2, 12, 4)
	checkState(t, "one within the other", bookOf(t, 4, 1, 3, 9, 2, 2, 4, 6, 1), slots(1, 3, 9, 2, 2, 4, 6, 1), 0, 4, 3, 2, 4, 1, 6, 2, 9, 4)
	checkState(t, "at its begin", bookOf(t, 4, 1, 3, 9, 2, 2, 3, 6, 1), slots(1, 3, 9, 2, 2, 3, 6, 1), 0, 4, 3, 1, 6, 2, 9, 4)
	checkState(t, "at its end", bookOf(t, 4, 1, 3, 9, 2, 2, 6, 9, 1), slots(1, 3, 9, 2, 2, 6, 9, 1), 0, 4, 3, 2, 6, 1, 9, 4)
	checkState(t, "in one place", bookOf(t, 4, 1, 3, 9, 2, 2, 3, 9, 1), slots(1, 3, 9, 2, 2, 3, 9, 1), 0, 4, 3, 1, 9, 4)
	checkState(t, "many", bookOf(t, 9, 5, 0, 4, 3, 3, 2, 8, 4, 9, 4, 6, 5, 1, 6, 7, 5, 7, 8, 20, 9, 2, 21, 22, 8),
		slots(1, 6, 7, 5, 2, 21, 22, 8, 3, 2, 8, 4, 5, 0, 4, 3, 7, 8, 20, 9, 9, 4, 6, 5), 0, 6, 2, 2, 4, 0, 7, 5, 8, 0, 20, 9, 21, 1, 22, 9)
}

// Just enough nodes are free, or one too few.
func TestRoom(t *testing.T) {
	b := bookOf(t, 9, 1, 10, 20, 5, 2, 15, 30, 3)
	checkTake(t, b, api.ErrRoom, 3, 0, 40, 2)
	checkTake(t, b, api.ErrRoom, 3, 19, 20, 2)
	checkTake(t, b, api.ErrRoom, 3, 15, 16, 2)
	checkTake(t, b, api.ErrRoom, 3, 10, 15, 5)
	checkTake(t, b, api.ErrRoom, 3, 9, 11, 5)
	checkTake(t, b, api.ErrRoom, 3, 20, 30, 7)
	checkTake(t, b, api.ErrRoom, 3, 29, 31, 7)
	checkTake(t, b, api.ErrRoom, 3, 0, 11, 9)
	checkState(t, "nothing else", b, slots(1, 10, 20, 5, 2, 15, 30, 3), 0, 9, 10, 4, 15, 1, 20, 6, 30, 9)
	checkTake(t, b, api.OK, 3, 0, 40, 1)
	checkTake(t, b, api.ErrRoom, 4, 17, 18, 1)
	checkTake(t, b, api.OK, 4, 10, 15, 3)
	checkTake(t, b, api.OK, 5, 20, 30, 5)
	checkTake(t, b, api.OK, 6, 0, 10, 8)
	checkTake(t, b, api.OK, 7, 30, 40, 8)
	checkTake(t, b, api.OK, 8, 40, most, 9)
	checkState(t, "full", b, slots(1, 10, 20, 5, 2, 15, 30, 3, 3, 0, 40, 1, 4, 10, 15, 3, 5, 20, 30, 5, 6, 0, 10, 8, 7, 30, 40, 8, 8, 40, most, 9), 0, 0, most, 9)
}

func TestFree(t *testing.T) {
	b := bookOf(t, 4, 1, 3, 9, 2, 2, 8, 12, 2, 3, 0, 5, 1, 4, 20, 30, 4)
	checkFree(t, b, api.OK)
	checkState(t, "none freed", b, slots(1, 3, 9, 2, 2, 8, 12, 2, 3, 0, 5, 1, 4, 20, 30, 4), 0, 3, 3, 1, 5, 2, 8, 0, 9, 2, 12, 4, 20, 0, 30, 4)
	checkFree(t, b, api.OK, 1)
	checkState(t, "one freed", b, slots(2, 8, 12, 2, 3, 0, 5, 1, 4, 20, 30, 4), 0, 3, 5, 4, 8, 2, 12, 4, 20, 0, 30, 4)
	checkFree(t, b, api.ErrNone, 1)
	checkFree(t, b, api.OK, 4, 2)
	checkState(t, "two more", b, slots(3, 0, 5, 1), 0, 3, 5, 4)
	checkTake(t, b, api.OK, 1, 8, 30, 4)
	checkFree(t, b, api.OK, 1, 3)
	checkState(t, "all", b, nil, 0, 4)
}

func TestCut(t *testing.T) {
	b := bookOf(t, 4, 1, 3, 9, 2, 2, 8, 12, 2)
	checkCut(t, b, api.OK, 1, 9)
	checkState(t, "to where it ends", b, slots(1, 3, 9, 2, 2, 8, 12, 2), 0, 4, 3, 2, 8, 0, 9, 2, 12, 4)
	checkCut(t, b, api.OK, 1, 8)
	checkState(t, "by one", b, slots(1, 3, 8, 2, 2, 8, 12, 2), 0, 4, 3, 2, 12, 4)
	checkCut(t, b, api.ErrArg, 1, 9)
	checkCut(t, b, api.OK, 2, 9)
	checkState(t, "one is left", b, slots(1, 3, 8, 2, 2, 8, 9, 2), 0, 4, 3, 2, 9, 4)
	checkCut(t, b, api.OK, 2, 8)
	checkState(t, "to where it begins", b, slots(1, 3, 8, 2), 0, 4, 3, 2, 8, 4)
	checkCut(t, b, api.ErrNone, 2, 8)
	checkCut(t, b, api.OK, 1, 5)
	checkState(t, "by more", b, slots(1, 3, 5, 2), 0, 4, 3, 2, 5, 4)
	checkCut(t, b, api.OK, 1, 2)
	checkState(t, "ahead of its begin", b, nil, 0, 4)
}

func TestMove(t *testing.T) {
	b := bookOf(t, 4, 1, 3, 9, 3, 2, 12, 15, 2)
	checkMove(t, b, api.OK, 1, 3)
	checkState(t, "to where it is", b, slots(1, 3, 9, 3, 2, 12, 15, 2), 0, 4, 3, 1, 9, 4, 12, 2, 15, 4)
	checkMove(t, b, api.OK, 1, 4)
	checkState(t, "by one", b, slots(1, 4, 10, 3, 2, 12, 15, 2), 0, 4, 4, 1, 10, 4, 12, 2, 15, 4)
	checkMove(t, b, api.OK, 1, 6)
	checkState(t, "just ahead of the other one", b, slots(1, 6, 12, 3, 2, 12, 15, 2), 0, 4, 6, 1, 12, 2, 15, 4)
	checkMove(t, b, api.ErrRoom, 1, 7)
	checkMove(t, b, api.ErrRoom, 1, 14)
	checkMove(t, b, api.OK, 1, 15)
	checkState(t, "just behind it", b, slots(1, 15, 21, 3, 2, 12, 15, 2), 0, 4, 12, 2, 15, 1, 21, 4)
	checkMove(t, b, api.OK, 2, 0)
	checkState(t, "the other one to 0", b, slots(1, 15, 21, 3, 2, 0, 3, 2), 0, 2, 3, 4, 15, 1, 21, 4)
	checkMove(t, b, api.ErrRoom, 2, 13)
	checkMove(t, b, api.ErrRoom, 2, 20)
	checkMove(t, b, api.OK, 1, 100)
	checkMove(t, b, api.OK, 2, 13)
	checkState(t, "far away", b, slots(1, 100, 106, 3, 2, 13, 16, 2), 0, 4, 13, 2, 16, 4, 100, 1, 106, 4)
}

func TestOut(t *testing.T) {
	b := bookOf(t, 9)
	checkOut(t, b, 10, 20, 4)
	checkState(t, "out", b, nil, 0, 9, 10, 5, 20, 9)
	checkOut(t, b, 15, 25, 3)
	checkState(t, "more", b, nil, 0, 9, 10, 5, 15, 2, 20, 6, 25, 9)
	checkOut(t, b, 18, 30, 3)
	checkState(t, "more than there are", b, nil, 0, 9, 10, 5, 15, 2, 18, 0, 20, 3, 25, 6, 30, 9)
	checkOut(t, b, 0, 10, 9)
	checkState(t, "all of them", b, nil, 0, 0, 10, 5, 15, 2, 18, 0, 20, 3, 25, 6, 30, 9)
	checkTake(t, b, api.ErrRoom, 1, 0, 1, 1)
	checkTake(t, b, api.ErrRoom, 1, 19, 21, 1)
	checkTake(t, b, api.ErrRoom, 1, 10, 16, 3)
	checkTake(t, b, api.OK, 1, 10, 15, 5)
	checkTake(t, b, api.OK, 2, 15, 18, 2)
	checkTake(t, b, api.OK, 3, 20, 50, 3)
	checkState(t, "reserved", b, slots(1, 10, 15, 5, 2, 15, 18, 2, 3, 20, 50, 3), 0, 0, 25, 3, 30, 6, 50, 9)
	checkFree(t, b, api.OK, 1, 2, 3)
	checkState(t, "freed", b, nil, 0, 0, 10, 5, 15, 2, 18, 0, 20, 3, 25, 6, 30, 9)
	checkOut(t, b, 0, most, 9)
	checkState(t, "always", b, nil, 0, 0, most, 9)
}

// Nodes stay out of service while reservations come and go.
func TestSeveralThingsOneBehindTheOther(t *testing.T) {
	b := bookOf(t, 6, 1, 0, 10, 2, 2, 5, 15, 3)
	checkOut(t, b, 8, 12, 1)
	checkState(t, "just as many are left", b, slots(1, 0, 10, 2, 2, 5, 15, 3), 0, 4, 5, 1, 8, 0, 10, 2, 12, 3, 15, 6)
	checkCut(t, b, api.OK, 1, 9)
	checkTake(t, b, api.OK, 3, 9, 20, 2)
	checkState(t, "taken", b, slots(1, 0, 9, 2, 2, 5, 15, 3, 3, 9, 20, 2), 0, 4, 5, 1, 8, 0, 12, 1, 15, 4, 20, 6)
	checkMove(t, b, api.ErrRoom, 1, 1)
	checkMove(t, b, api.OK, 3, 12)
	checkState(t, "moved", b, slots(1, 0, 9, 2, 2, 5, 15, 3, 3, 12, 23, 2), 0, 4, 5, 1, 8, 0, 9, 2, 12, 1, 15, 4, 23, 6)
	checkOut(t, b, 11, 13, 2, 3)
	checkState(t, "gone", b, slots(1, 0, 9, 2, 2, 5, 15, 3), 0, 4, 5, 1, 8, 0, 9, 2, 11, 0, 12, 1, 13, 3, 15, 6)
	checkTake(t, b, api.OK, 3, 13, 20, 3)
	checkFree(t, b, api.OK, 2)
	checkState(t, "freed", b, slots(1, 0, 9, 2, 3, 13, 20, 3), 0, 4, 8, 3, 9, 5, 11, 3, 12, 4, 13, 3, 20, 6)
	checkOut(t, b, 0, 30, 6, 1, 3)
	checkState(t, "all out", b, nil, 0, 0, 30, 6)
}

// A reservation that is made and gone leaves the book as it was.
func TestMadeAndGone(t *testing.T) {
	for _, s := range slots(9, 0, 1, 1, 9, 2, 9, 1, 9, 3, 9, 1, 9, 0, most, 1, 9, 12, 15, 2, 9, 9, 12, 4, 9, 18, 20, 3, 9, most-1, most, 4) {
		b := bookOf(t, 5, 1, 3, 9, 2, 2, 8, 12, 1, 3, 12, 14, 3)
		checkOut(t, b, 18, 25, 2)
		before := stateOf(b)
		for name, undo := range map[string]func() api.Errno{
			"freed":            func() api.Errno { return b.Free(9) },
			"cut to its begin": func() api.Errno { return b.Cut(9, s.From) },
			"cut to 0":         func() api.Errno { return b.Cut(9, 0) },
			"cut and freed":    func() api.Errno { return b.Cut(9, (s.From+s.To+1)/2) + b.Free(9) },
			"cut twice":        func() api.Errno { return b.Cut(9, (s.From+s.To+1)/2) + b.Cut(9, s.From) },
		} {
			if e := b.Take(s); e != api.OK {
				t.Fatalf("Take of %v: error %d", s, e)
			}
			if e := undo(); e != api.OK || !stateOf(b).isSame(before) {
				t.Errorf("%v is %s, error %d: %v has become %v", s, name, e, before, stateOf(b))
			}
		}
	}
}

// Moved there and back, it is as it was.
func TestMovedAndMovedBack(t *testing.T) {
	b := bookOf(t, 5, 1, 3, 9, 2, 2, 8, 12, 1, 3, 12, 14, 3)
	before := stateOf(b)
	for _, from := range []int{0, 1, 2, 4, 5, 8, 9, 14, 100, most - 6} {
		checkMove(t, b, api.OK, 1, from)
		checkMove(t, b, api.OK, 1, 3)
		if !stateOf(b).isSame(before) {
			t.Errorf("moved to %d and back: %v has become %v", from, before, stateOf(b))
		}
	}
}
