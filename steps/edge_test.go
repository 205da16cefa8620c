package steps

import (
	"math"
	"math/big"
	"testing"

	"timekeeper/api"
)

func TestNewAtTheLimits(t *testing.T) {
	for _, n := range []int{0, 1, nodes - 1, nodes} {
		l, e := New(n)
		checkList(t, "New", l, e, list(0, n), api.OK)
	}
	for _, n := range []int{-1, nodes + 1, math.MinInt, math.MaxInt} {
		l, e := New(n)
		checkList(t, "New", l, e, nil, api.ErrArg)
	}
}

func TestAtOutsideOfTheTimes(t *testing.T) {
	for _, l := range [][]api.Step{list(0, 7), example(), list(0, 2, most, 5)} {
		checkAt(t, l, -1, 0, math.MinInt, 0, most+1, 0, math.MaxInt, 0, 0, l[0].Free, most, l[len(l)-1].Free)
	}
}

// From equal to to: for Add and Area nothing, for Least and Most an error.
func TestNoTimeBetween(t *testing.T) {
	for _, l := range [][]api.Step{list(0, 0), list(0, nodes), example(), list(0, 2, most, 5)} {
		for _, at := range []int{0, 1, 10, 15, 20, 21, most - 1, most} {
			checkNoSpan(t, "no time", l, at, at, api.OK)
			for _, k := range []int{-nodes, -1, 0, 1, nodes} {
				checkAdd(t, "no time", l, at, at, k, l)
			}
			checkNoAdd(t, "no time", l, at, at, nodes+1, api.ErrArg)
			checkNoAdd(t, "no time", l, at, at, -nodes-1, api.ErrArg)
		}
	}
}

// Each pair is no time at all, goes back, or has an end that is no time.
func TestWrongSpans(t *testing.T) {
	for _, l := range [][]api.Step{list(0, 5), example(), list(0, 2, most, 5)} {
		for _, pair := range [][2]int{
			{1, 0}, {20, 10}, {most, most - 1}, {most, 0},
			{-1, 0}, {-1, 10}, {-1, -1}, {math.MinInt, 5}, {most + 1, most + 1}, {most + 1, 3}, {math.MaxInt, math.MaxInt},
			{0, most + 1}, {10, most + 1}, {most, most + 1}, {5, math.MaxInt}, {0, -1}, {5, math.MinInt}, {-1, most + 1}, {math.MinInt, math.MaxInt},
		} {
			checkNoSpan(t, "a wrong one", l, pair[0], pair[1], api.ErrArg)
			for _, k := range []int{-nodes - 1, -nodes, -1, 0, 1, nodes, nodes + 1} {
				checkNoAdd(t, "a wrong one", l, pair[0], pair[1], k, api.ErrArg)
			}
		}
	}
}

func TestAddAtTheEndsOfTimes(t *testing.T) {
	one := list(0, 4)
	checkAdd(t, "all times but the last", one, 0, most, 3, list(0, 7, most, 4))
	checkAdd(t, "the first time", one, 0, 1, 3, list(0, 7, 1, 4))
	checkAdd(t, "the last but one", one, most-1, most, 3, list(0, 4, most-1, 7, most, 4))
	checkAdd(t, "from between", one, 10, most, -4, list(0, 4, 10, 0, most, 4))
	l := list(0, 2, most-1, 3, most, 5)
	checkAdd(t, "with steps at the end", l, 0, most, 1, list(0, 3, most-1, 4, most, 5))
	checkAdd(t, "as much as behind", l, most-1, most, 2, list(0, 2, most-1, 5))
	checkAdd(t, "as much as before", l, most-1, most, -1, list(0, 2, most, 5))
	checkAdd(t, "up to the last but one", l, 5, most-1, 1, list(0, 2, 5, 3, most, 5))
	checkSpan(t, "the last but one", l, most-1, most, 3, 3, 3)
	checkSpan(t, "the last two", l, most-2, most, 2, 3, 5)
	checkSpan(t, "the first", l, 0, 1, 2, 2, 2)
	checkSpan(t, "all", l, 0, most, 2, 3, 2*most+1)
}

func TestAddAtTheLimitsOfK(t *testing.T) {
	checkAdd(t, "all at once", list(0, 0), 5, 9, nodes, list(0, 0, 5, nodes, 9, 0))
	checkAdd(t, "all away", list(0, nodes), 5, 9, -nodes, list(0, nodes, 5, 0, 9, nodes))
	checkAdd(t, "none", list(0, nodes), 5, 9, 0, list(0, nodes))
	checkAdd(t, "none", list(0, 0), 0, most, 0, list(0, 0))
	for _, l := range [][]api.Step{list(0, 0), list(0, nodes), example()} {
		for _, k := range []int{nodes + 1, -nodes - 1, math.MaxInt, math.MinInt, math.MaxInt - nodes + 1} {
			checkNoAdd(t, "too much", l, 5, 9, k, api.ErrArg)
		}
	}
}

// What is free comes just to 0 or to all nodes, and then to one beyond.
func TestRoom(t *testing.T) {
	l := list(0, 4, 10, 1, 20, 6, 30, 3)
	checkAdd(t, "just none", l, 0, 30, -1, list(0, 3, 10, 0, 20, 5, 30, 3))
	checkNoAdd(t, "one below", l, 0, 30, -2, api.ErrRoom)
	checkAdd(t, "just none at the first", l, 0, 10, -4, list(0, 0, 10, 1, 20, 6, 30, 3))
	checkNoAdd(t, "one below at the first", l, 0, 10, -5, api.ErrRoom)
	checkAdd(t, "just none at the last", l, 30, 40, -3, list(0, 4, 10, 1, 20, 6, 30, 0, 40, 3))
	checkNoAdd(t, "one below at the last", l, 30, 40, -4, api.ErrRoom)
	checkAdd(t, "just all", l, 0, 30, nodes-6, list(0, nodes-2, 10, nodes-5, 20, nodes, 30, 3))
	checkNoAdd(t, "one beyond", l, 0, 30, nodes-5, api.ErrRoom)
	checkAdd(t, "just all at the first", l, 0, 10, nodes-4, list(0, nodes, 10, 1, 20, 6, 30, 3))
	checkNoAdd(t, "one beyond at the first", l, 0, 10, nodes-3, api.ErrRoom)
	checkNoAdd(t, "one beyond at the last", l, 30, 31, nodes-2, api.ErrRoom)
	checkNoAdd(t, "both", list(0, 1, 5, nodes), 0, 9, -nodes, api.ErrRoom)
	checkAdd(t, "up to the step", l, 0, 10, -4, list(0, 0, 10, 1, 20, 6, 30, 3))
	checkNoAdd(t, "up to one behind it", l, 0, 11, -4, api.ErrRoom)
	checkAdd(t, "from the step on", l, 20, 30, -6, list(0, 4, 10, 1, 20, 0, 30, 3))
	checkNoAdd(t, "from one ahead of it", l, 19, 30, -6, api.ErrRoom)
	checkNoAdd(t, "in between", l, 12, 13, -2, api.ErrRoom)
	checkNoAdd(t, "the last but one", list(0, 9, most-1, 2, most, 9), 0, most, -3, api.ErrRoom)
	checkAdd(t, "the last time does not count", list(0, 9, most, 2), 0, most, -9, list(0, 0, most, 2))
}

func TestSumAtTheLimits(t *testing.T) {
	checkSum(t, "just all", list(0, nodes-1), list(0, 1), list(0, nodes), api.OK)
	checkSum(t, "one beyond", list(0, nodes), list(0, 1), nil, api.ErrArg)
	checkSum(t, "twice all", list(0, nodes), list(0, nodes), nil, api.ErrArg)
	checkSum(t, "all and none", list(0, nodes), list(0, 0), list(0, nodes), api.OK)
	checkSum(t, "just all in between", example(), list(0, 0, 15, nodes-1, 16, 3), list(0, 4, 10, 1, 15, nodes, 16, 4, 20, 7), api.OK)
	checkSum(t, "one beyond in between", example(), list(0, 0, 15, nodes, 16, 3), nil, api.ErrArg)
	checkSum(t, "one beyond at the first", list(0, 7, 1, 0), list(0, nodes-6, 1, 0), nil, api.ErrArg)
	checkSum(t, "one beyond at the last", list(0, 0, 9, 7), list(0, 0, most, nodes-6), nil, api.ErrArg)
	checkSum(t, "never both", list(0, nodes, 10, 0, most, nodes), list(0, 0, 10, nodes, most, 0), list(0, nodes), api.OK)
	checkSum(t, "at the end of times", list(0, 1, most-1, 2, most, 3), list(0, 5, most, 7), list(0, 6, most-1, 7, most, 10), api.OK)
}

// The greatest times and numbers, against numbers without a limit.
func TestAreaIsExact(t *testing.T) {
	exact := func(free, span int) int {
		n := new(big.Int).Mul(big.NewInt(int64(free)), big.NewInt(int64(span)))
		if !n.IsInt64() {
			t.Fatal("too great")
		}
		return int(n.Int64())
	}
	checkSpan(t, "all of all", list(0, nodes), 0, most, nodes, nodes, exact(nodes, most))
	checkSpan(t, "all but one time", list(0, nodes), 1, most, nodes, nodes, exact(nodes, most-1))
	checkSpan(t, "one less", list(0, nodes-1, 1, nodes), 0, most, nodes-1, nodes, exact(nodes, most)-1)
	checkSpan(t, "two halves", list(0, nodes, most/2, nodes-1), 0, most, nodes-1, nodes, exact(nodes, most/2)+exact(nodes-1, most-most/2))
	checkSpan(t, "none", list(0, 0), 0, most, 0, 0, 0)
}

// No number of a step is too small or too great for Tidy.
func TestTidyAnyNumbers(t *testing.T) {
	const low, high = math.MinInt, math.MaxInt
	checkTidy(t, "the ends of the integers", list(high, low, low, high, 0, 0), list(low, high, 0, 0, high, low))
	checkTidy(t, "the last one at the ends", list(low, 1, high, 2, low, high, high, low), list(low, high, high, low))
	checkTidy(t, "the same Free at the ends", list(high, high, low, high), list(low, high))
	checkTidy(t, "ends that differ", list(high, high, low, low), list(low, low, high, high))
	checkTidy(t, "a Free like what is not there", list(low, 0), list(low, 0))
	checkTidy(t, "zeros", list(0, 0, 0, 0), list(0, 0))
	checkTidy(t, "below 0", list(-1, -5, -2, -5, -3, 7, 4, nodes+1, most+1, -1), list(-3, 7, -2, -5, 4, nodes+1, most+1, -1))
}
