package book

import (
	"slices"
	"testing"

	"timekeeper/api"
	"timekeeper/steps"
)

// full is a book of MaxSlots reservations, one behind the other, and one time apart.
func full(t *testing.T, nodes int) *Book {
	t.Helper()
	b := bookOf(t, nodes)
	for i := range api.MaxSlots {
		if e := b.Take(api.Slot{ID: i + 1, From: 2*i + 1, To: 2*i + 2, Nodes: 1}); e != api.OK {
			t.Fatalf("reservation %d: error %d", i, e)
		}
	}
	return b
}

// ragged is a book of which so many steps tell what is in service: one node fewer at each second time, and, if their number is even, two fewer behind the last of these.
func ragged(t *testing.T, nodes, n int) *Book {
	t.Helper()
	b := bookOf(t, nodes)
	for i := range (n - 1) / 2 {
		checkOut(t, b, 2*i+1, 2*i+2, 1)
	}
	if n%2 == 0 {
		checkOut(t, b, n-2, n-1, 2)
	}
	if got := b.Steps(); len(got) != n {
		t.Fatalf("%d steps; asked for: %d", len(got), n)
	}
	return b
}

func TestAsManyReservationsAsThereMayBe(t *testing.T) {
	b := full(t, 1)
	if got := b.Slots(); len(got) != api.MaxSlots || got[0].ID != 1 || got[api.MaxSlots-1].ID != api.MaxSlots {
		t.Errorf("%d reservations", len(got))
	}
	if got := b.Steps(); len(got) != 2*api.MaxSlots+1 || steps.Check(got) != api.OK {
		t.Errorf("%d steps, error %d", len(got), steps.Check(got))
	}
	checkTake(t, b, api.ErrLong, api.MaxSlots+1, 0, 1, 1)
	checkCut(t, b, api.OK, 1, 0)
	checkTake(t, b, api.OK, api.MaxSlots+1, 0, 1, 1)
	checkTake(t, b, api.ErrLong, 1, 1, 2, 1)
	// A cut that leaves something, and a move, leave their number as it is.
	checkCut(t, b, api.OK, 2, 4)
	checkMove(t, b, api.OK, 2, most-1)
	checkTake(t, b, api.ErrLong, 1, 1, 2, 1)
	checkOut(t, b, 3, 6, 1, 3)
	checkTake(t, b, api.ErrRoom, 1, 3, 4, 1)
	checkTake(t, b, api.OK, 1, 1, 2, 1)
	checkTake(t, b, api.ErrLong, 3, 7, 8, 1)
}

// All numbers of a full book at once, from the last one on.
func TestFreeOfAllReservations(t *testing.T) {
	b := full(t, 3)
	c := b.Copy()
	var ids []int
	for i := range api.MaxSlots {
		ids = append(ids, api.MaxSlots-i)
	}
	checkFree(t, b, api.ErrNone, append(slices.Clone(ids), 1)...)
	checkFree(t, b, api.ErrNone, append(slices.Clone(ids), api.MaxSlots+1)...)
	checkFree(t, b, api.OK, ids[:api.MaxSlots-1]...)
	checkState(t, "all but one", b, slots(1, 1, 2, 1), 0, 3, 1, 2, 2, 3)
	checkFree(t, c, api.OK, ids...)
	checkState(t, "all", c, nil, 0, 3)
}

// As many steps as there may be: those of the nodes in service, and two for each reservation.
func TestAsManyStepsAsThereMayBe(t *testing.T) {
	b := ragged(t, 5, mostSteps)
	for i := range api.MaxSlots {
		from := 2 * (mostSteps + i)
		if e := b.Take(api.Slot{ID: i + 1, From: from, To: from + 1, Nodes: 1 + i%5}); e != api.OK {
			t.Fatalf("reservation %d: error %d", i, e)
		}
	}
	want := mostSteps + 2*api.MaxSlots
	if got := b.Steps(); len(got) != want || steps.Check(got) != api.OK {
		t.Errorf("%d steps, error %d; asked for: %d", len(got), steps.Check(got), want)
	}
	checkMove(t, b, api.OK, 1, most-1)
	checkMove(t, b, api.OK, 1, 2*mostSteps)
	checkCut(t, b, api.OK, 2, 0)
	checkTake(t, b, api.OK, 2, most-3, most-2, 5)
	if got := b.Steps(); len(got) != want || steps.Check(got) != api.OK {
		t.Errorf("%d steps, error %d; asked for: %d", len(got), steps.Check(got), want)
	}
	checkNotOut(t, b, api.ErrLong, most-3, most-2, 1)
	ids, e := b.Out(0, most, 5)
	if e != api.OK || len(ids) != api.MaxSlots || !slices.IsSorted(ids) || ids[0] != 1 {
		t.Errorf("%d reservations have to go, error %d", len(ids), e)
	}
	checkState(t, "all out", b, nil, 0, 0, most, 5)
}

// 1000 steps of nodes in service may be, and no more.
func TestStepsOfNodesInService(t *testing.T) {
	for _, n := range []int{mostSteps - 2, mostSteps - 1, mostSteps} {
		b := ragged(t, 4, n)
		// Two steps more, or one, because the other one is there.
		apart, next := api.OK, api.OK
		if n+2 > mostSteps {
			apart = api.ErrLong
		}
		if n+1 > mostSteps {
			next = api.ErrLong
		}
		checkLong(t, b, apart, most-9, most-8, 1)
		checkLong(t, b, api.OK, 0, 1, 3)
		checkLong(t, b, api.OK, 0, 2, 3)
		checkLong(t, b, api.OK, 2, 3, 1)
		end := n - 1
		checkLong(t, b, next, end, end+1, 3)
		// No step more, or fewer.
		checkOut(t, b, 1, 2, 2)
		checkOut(t, b, 0, end, 4)
		checkState(t, "all of them", b, nil, 0, 0, end, 4)
		checkOut(t, b, end+1, end+2, 4)
	}
}

// checkLong asks a copy of the book, which is left as it was.
func checkLong(t *testing.T, b *Book, want api.Errno, from, to, k int) {
	t.Helper()
	before := stateOf(b)
	c := b.Copy()
	if want == api.OK {
		checkOut(t, c, from, to, k)
	} else {
		checkNotOut(t, c, want, from, to, k)
	}
	if !stateOf(b).isSame(before) {
		t.Errorf("Out of a copy: %d steps have become %d", len(before.steps), len(b.Steps()))
	}
}

// It is the nodes in service that count, whatever is reserved of them.
func TestReservationsAreNoStepsOfNodesInService(t *testing.T) {
	b := bookOf(t, 3)
	for i := range mostSteps {
		checkTake(t, b, api.OK, i+1, 2*i, 2*i+1, 1)
	}
	for i := range mostSteps/2 - 1 {
		checkOut(t, b, 2*i+1, 2*i+2, 1)
	}
	checkOut(t, b, 4, 5, 2)
	checkOut(t, b, 4, 5, 1, 3)
	checkNotOut(t, b, api.ErrLong, 2*mostSteps, 2*mostSteps+1, 1)
	checkNotOut(t, b, api.ErrLong, 2*mostSteps-2, 2*mostSteps-1, 3)
	// One step fewer, so that there may be two more.
	checkOut(t, b, 0, 1, 1)
	checkOut(t, b, 2*mostSteps-2, most, 1)
	checkNotOut(t, b, api.ErrLong, most-1, most, 3)
	// All nodes are reserved that are in service, so that what is free has few steps.
	b = bookOf(t, 2, 1, 0, most, 1)
	for i := range mostSteps/2 - 2 {
		checkOut(t, b, 2*i+1, 2*i+2, 1)
	}
	for i := range mostSteps/2 - 2 {
		checkTake(t, b, api.OK, i+2, 2*i, 2*i+1, 1)
	}
	checkTake(t, b, api.OK, mostSteps, mostSteps-4, most, 1)
	checkState(t, "none free", b, b.Slots(), 0, 0, most, 2)
	checkOut(t, b, most-1, most, 1, mostSteps)
	checkNotOut(t, b, api.ErrLong, most-5, most-3, 2)
	checkNotOut(t, b, api.ErrLong, most-5, most-3, 1)
}

// Reservations that all overlap: each begins one time behind the one before, and they end in the other order.
func TestReservationsWithinOneAnother(t *testing.T) {
	b := bookOf(t, api.MaxSlots)
	for i := range api.MaxSlots {
		if e := b.Take(api.Slot{ID: i + 1, From: i, To: 3*api.MaxSlots - i, Nodes: 1}); e != api.OK {
			t.Fatalf("reservation %d: error %d", i, e)
		}
	}
	checkTake(t, b, api.ErrLong, api.MaxSlots+1, 0, 1, 1)
	checkCut(t, b, api.OK, 7, 0)
	checkTake(t, b, api.ErrRoom, 7, api.MaxSlots, api.MaxSlots+1, 2)
	checkTake(t, b, api.OK, 7, 6, 3*api.MaxSlots-6, 1)
	at := api.MaxSlots / 2
	checkOut(t, b, at, at+1, api.MaxSlots-at-1)
	checkOut(t, b, at, at+1, 1, at+1)
	// As many may stay as are left: those with the lowest numbers.
	ids, e := b.Out(at+1, most, api.MaxSlots-100)
	if e != api.OK || len(ids) != api.MaxSlots-100-1 || ids[0] != 101 || !slices.IsSorted(ids) {
		t.Errorf("%d reservations have to go, from %v on, error %d", len(ids), ids[:min(len(ids), 3)], e)
	}
}

// What is much larger than allowed only costs the time to look at it.
func TestMuchLargerThanAllowed(t *testing.T) {
	b := full(t, 3)
	all := make([]int, 1<<22)
	for i := range all {
		all[i] = i + 1
	}
	checkFree(t, b, api.ErrNone, all...)
	checkFree(t, b, api.ErrNone, slices.Repeat([]int{5}, 1<<22)...)
	checkFree(t, b, api.ErrNone, make([]int, 1<<22)...)
}
