package book

import (
	"slices"
	"testing"

	"timekeeper/api"
)

// spoil overwrites l, and what is behind it.
func spoil[T any](l []T, mark T) {
	l = l[:cap(l)]
	for i := range l {
		l[i] = mark
	}
}

// busy is a book with some reservations and some nodes out.
func busy(t *testing.T) *Book {
	t.Helper()
	b := bookOf(t, 9, 1, 3, 9, 2, 2, 8, 12, 2, 3, 0, 5, 1, 4, 20, 30, 4, 7, 25, 28, 3)
	checkOut(t, b, 10, 22, 3)
	return b
}

// calls are some that succeed on a busy book, and some that do not.
func calls() []call {
	return []call{
		{kind: "Take", id: 5, from: 1, to: 40, k: 2},
		{kind: "Take", id: 5, from: 1, to: 40, k: 3},
		{kind: "Take", id: 4, from: 1, to: 40, k: 3},
		{kind: "Free"},
		{kind: "Free", l: []int{2}},
		{kind: "Free", l: []int{7, 1, 3}},
		{kind: "Free", l: []int{7, 1, 8}},
		{kind: "Free", l: []int{7, 1, 7}},
		{kind: "Cut", id: 1, to: 4},
		{kind: "Cut", id: 1, to: 3},
		{kind: "Cut", id: 1, to: 10},
		{kind: "Move", id: 4, from: 22},
		{kind: "Move", id: 4, from: 80},
		{kind: "Move", id: 4, from: 19},
		{kind: "Out", from: 0, to: 40, k: 1},
		{kind: "Out", from: 0, to: 40, k: 5},
		{kind: "Out", from: 7, to: 26, k: 3},
		{kind: "Out", from: 7, to: 26, k: 10},
	}
}

func TestArgumentsAreNeitherChangedNorKept(t *testing.T) {
	for _, c := range calls() {
		want := busy(t)
		c.ofBook(want)
		b := busy(t)
		other := c
		// Behind the numbers stand such as might be freed as well.
		roomy := append(slices.Clone(c.l), 4, 3, 2)
		whole := slices.Clone(roomy)
		other.l = roomy[:len(c.l)]
		other.ofBook(b)
		if !slices.Equal(roomy, whole) {
			t.Errorf("%v: the numbers have become %v", c, roomy)
		}
		spoil(roomy, 2)
		if got := stateOf(b); !got.isSame(stateOf(want)) {
			t.Errorf("%v, and its numbers are spoilt: %v; asked for: %v", c, got, stateOf(want))
		}
	}
}

// What is done to a result, and to what is behind it, is nothing to the book, or to another result.
func TestResultsAreApart(t *testing.T) {
	for _, c := range calls() {
		fresh := busy(t)
		wantIds, _ := c.ofBook(fresh)
		want := stateOf(fresh)
		b := busy(t)
		before, copied := stateOf(b), b.Copy()
		ids, _ := c.ofBook(b)
		one, other := stateOf(b), stateOf(b)
		spoil(one.slots, api.Slot{ID: -7, From: -8, To: -9, Nodes: -1})
		spoil(one.steps, api.Step{At: -7, Free: -8})
		spoil(before.slots, api.Slot{})
		spoil(before.steps, api.Step{})
		if !slices.Equal(ids, wantIds) {
			t.Errorf("%v: other answers are spoilt, and the numbers %v have become %v", c, wantIds, ids)
		}
		spoil(ids, -7)
		if !other.isSame(want) || !stateOf(b).isSame(want) {
			t.Errorf("%v: the answers are spoilt, and others are %v, or later %v; asked for: %v", c, other, stateOf(b), want)
		}
		if got := stateOf(copied); !got.isSame(stateOf(busy(t))) {
			t.Errorf("%v: the answers are spoilt, and the copy has become %v", c, got)
		}
		if got, ok := b.Get(1); ok && got.Nodes != 2 {
			t.Errorf("%v: the answers are spoilt, and Get of 1 is %v", c, got)
		}
	}
}

// What is done to a copy leaves the book as it was, and the other way round.
func TestCopiesAreApart(t *testing.T) {
	for _, c := range calls() {
		for _, other := range calls() {
			b := busy(t)
			before := stateOf(b)
			one := b.Copy()
			two := one.Copy()
			c.ofBook(one)
			other.ofBook(two)
			if got := stateOf(b); !got.isSame(before) {
				t.Errorf("%v of a copy: %v has become %v", c, before, got)
			}
			wantOne, wantTwo := busy(t), busy(t)
			c.ofBook(wantOne)
			other.ofBook(wantTwo)
			c.ofBook(b)
			if !stateOf(one).isSame(stateOf(wantOne)) || !stateOf(b).isSame(stateOf(wantOne)) {
				t.Errorf("%v: %v, and of a copy %v; asked for: %v", c, stateOf(b), stateOf(one), stateOf(wantOne))
			}
			if !stateOf(two).isSame(stateOf(wantTwo)) {
				t.Errorf("%v of a copy of the copy: %v; asked for: %v", other, stateOf(two), stateOf(wantTwo))
			}
		}
	}
}

// A copy has the same limits, and the nodes that are out.
func TestCopyGoesOnAsTheBook(t *testing.T) {
	b := busy(t)
	c := b.Copy()
	if b == c || !stateOf(c).isSame(stateOf(b)) {
		t.Errorf("the copy of %v is %v", stateOf(b), stateOf(c))
	}
	checkTake(t, c, api.ErrArg, 9, 50, 60, 10)
	checkTake(t, c, api.ErrTwice, 7, 50, 60, 9)
	checkTake(t, c, api.OK, 9, 50, 60, 9)
	checkTake(t, c, api.ErrRoom, 10, 15, 16, 7)
	checkTake(t, c, api.OK, 10, 15, 16, 6)
	checkNotOut(t, c, api.ErrArg, 50, 60, 10)
	checkOut(t, c, 50, 60, 9, 9)
	checkTake(t, b, api.OK, 9, 50, 60, 9)
	empty := bookOf(t, 3).Copy()
	checkState(t, "empty", empty, nil, 0, 3)
	checkTake(t, empty, api.OK, 1, 0, 5, 3)
}

// Books do not know of one another.
func TestBooksAreApart(t *testing.T) {
	one, two := bookOf(t, 4), bookOf(t, 4)
	checkTake(t, one, api.OK, 1, 0, 10, 4)
	checkState(t, "the other one", two, nil, 0, 4)
	checkTake(t, two, api.OK, 1, 5, 15, 3)
	checkOut(t, two, 0, 5, 4)
	checkState(t, "one", one, slots(1, 0, 10, 4), 0, 0, 10, 4)
	checkFree(t, one, api.OK, 1)
	checkState(t, "the other one", two, slots(1, 5, 15, 3), 0, 0, 5, 1, 15, 4)
}
