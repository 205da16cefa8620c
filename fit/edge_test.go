package fit

import (
	"math"
	"testing"

	"timekeeper/api"
)

// For no time no node need be free.
func TestNoDuration(t *testing.T) {
	for _, l := range [][]api.Step{list(0, 0), list(0, allNodes), example(), many(), list(0, 1, most, 0)} {
		for _, nodes := range []int{1, 2, 5, allNodes} {
			checkTimes(t, in(l, 0, most, nodes, 0), 0, most)
			checkTimes(t, in(l, 12, 35, nodes, 0), 12, 35)
			checkTimes(t, in(l, 10, 20, nodes, 0), 10, 20)
			checkTimes(t, in(l, 15, 15, nodes, 0), 15, 15)
			checkTimes(t, in(l, 0, 0, nodes, 0), 0, 0)
			checkTimes(t, in(l, most, most, nodes, 0), most, most)
			checkTimes(t, in(l, 15, 14, nodes, 0))
			checkTimes(t, in(l, most, 0, nodes, 0))
		}
	}
}

func TestGreatestDuration(t *testing.T) {
	checkTimes(t, in(list(0, 5), 0, most, 5, most), 0, 0)
	checkTimes(t, in(list(0, 5), 0, most, 6, most))
	checkTimes(t, in(list(0, 5), 1, most, 5, most))
	checkTimes(t, in(list(0, 5), 0, most-1, 5, most))
	checkTimes(t, in(list(0, 5), most, most, 5, most))
	checkTimes(t, in(list(0, 5), most, 0, 5, most))
	checkTimes(t, in(list(0, 5, most, 0), 0, most, 5, most), 0, 0)
	checkTimes(t, in(list(0, 5, most-1, 0), 0, most, 5, most))
	checkTimes(t, in(list(0, 5, most-1, 0), 0, most, 5, most-1), 0, 0)
	checkTimes(t, in(list(0, 0, 1, 5), 0, most, 5, most))
	checkTimes(t, in(list(0, 0, 1, 5), 0, most, 5, most-1), 1, 1)
	checkTimes(t, in(list(0, 7, 30, 5, 40, 6), 0, most, 5, most), 0, 0)
	checkTimes(t, in(list(0, 7, 30, 5, 40, 6), 0, most, 6, most))
	checkTimes(t, in(list(0, 5), 0, most, 5, most-1), 0, 1)
	checkWidest(t, in(list(0, 7, 30, 5, 40, 6), 0, most, 1, most), 5, 0)
	checkWidest(t, in(list(0, 7, 30, 5, 40, 6), 0, most, 1, most-40), 6, 40)
	checkWidest(t, in(list(0, 7, most, 0), 0, most, 1, most), 7, 0)
	checkWidest(t, in(list(0, 7, most-1, 0), 0, most, 1, most), 0, 0)
	checkNotWide(t, in(list(0, 5), 1, most, 1, most), api.ErrRoom)
	checkNotWide(t, in(list(0, 5), 0, most-1, 1, most), api.ErrRoom)
}

func TestNodesAtTheLimits(t *testing.T) {
	l := list(0, allNodes, 10, allNodes-1, 20, allNodes, 30, 1, 40, 0)
	checkTimes(t, in(l, 0, 99, 1, 5), 0, 35)
	checkTimes(t, in(l, 0, 99, 2, 5), 0, 25)
	checkTimes(t, in(l, 0, 99, allNodes-1, 5), 0, 25)
	checkTimes(t, in(l, 0, 99, allNodes, 5), 0, 5, 20, 25)
	checkTimes(t, in(list(0, allNodes), 0, most, allNodes, 1), 0, most-1)
	checkTimes(t, in(list(0, allNodes-1), 0, most, allNodes, 1))
	checkTimes(t, in(list(0, 0), 0, most, 1, 1))
	for _, nodes := range []int{0, -1, allNodes + 1, math.MinInt, math.MaxInt} {
		for _, long := range []int{0, 1, 5, most} {
			checkRefused(t, in(l, 0, most, nodes, long))
			checkRefused(t, in(l, 9, 3, nodes, long))
		}
	}
	checkWidest(t, in(l, 0, 99, 1, 5), allNodes, 0)
	checkWidest(t, in(l, 6, 99, 1, 5), allNodes, 20)
	checkWidest(t, in(l, 0, 99, 1, 11), allNodes-1, 0)
	checkWidest(t, in(l, 26, 99, 1, 5), 1, 26)
	checkWidest(t, in(l, 35, 99, 1, 5), 1, 35)
	checkWidest(t, in(l, 36, 99, 1, 5), 0, 36)
}

func TestWindowsAtTheEndsOfTimes(t *testing.T) {
	l := list(0, 3, 1, 0, most-1, 2, most, 1)
	checkTimes(t, in(l, 0, 1, 3, 1), 0, 0)
	checkTimes(t, in(l, 0, most, 3, 1), 0, 0)
	checkTimes(t, in(l, 0, 0, 3, 1))
	checkTimes(t, in(l, 1, most, 3, 1))
	checkTimes(t, in(l, 0, most, 2, 1), 0, 0, most-1, most-1)
	checkTimes(t, in(l, 0, most, 1, 1), 0, 0, most-1, most-1)
	checkTimes(t, in(l, 0, most, 1, 2))
	checkTimes(t, in(l, most-1, most, 2, 1), most-1, most-1)
	checkTimes(t, in(l, most-1, most-1, 2, 1))
	checkTimes(t, in(l, most-2, most-1, 2, 1))
	// What begins at the last time is not over by any one.
	checkTimes(t, in(l, most, most, 1, 1))
	checkTimes(t, in(l, most, most, 1, 0), most, most)
	checkTimes(t, in(list(0, 0, most, 5), 0, most, 1, 1))
	checkTimes(t, in(list(0, 0, most-1, 5), 0, most, 1, 1), most-1, most-1)
	checkWidest(t, in(l, 0, most, 1, 1), 3, 0)
	checkWidest(t, in(l, 1, most, 1, 1), 2, most-1)
	checkWidest(t, in(l, most-1, most, 1, 1), 2, most-1)
	checkWidest(t, in(list(0, 0, most, 5), 0, most, 1, 1), 0, 0)
	checkWidest(t, in(list(0, 0, most, 5), most-1, most, 1, 1), 0, most-1)
	checkNotWide(t, in(l, most, most, 1, 1), api.ErrRoom)
	checkNotWide(t, in(l, 0, 0, 1, 1), api.ErrRoom)
}

// By less than From, equal to it, less than the duration behind it by one, just so, and more by one.
func TestWindowsAsLongAsTheDuration(t *testing.T) {
	for _, from := range []int{0, 1, 12, most - 40} {
		for _, long := range []int{1, 2, 7, 30} {
			r := in(list(0, 5), from, from, 5, long)
			checkTimes(t, r)
			checkNotWide(t, r, api.ErrRoom)
			r.w.By = max(from-1, 0)
			checkTimes(t, r)
			checkNotWide(t, r, api.ErrRoom)
			r.w.By = from + long - 1
			checkTimes(t, r)
			checkNotWide(t, r, api.ErrRoom)
			r.w.By = from + long
			checkTimes(t, r, from, from)
			checkTimes(t, r.of(6))
			checkWidest(t, r, 5, from)
			r.w.By = from + long + 1
			checkTimes(t, r, from, from+1)
			checkWidest(t, r, 5, from)
		}
	}
	for _, w := range windows(1, 0, 20, 10, most, 0, most, most-1, 12, 11) {
		checkTimes(t, in(many(), w.From, w.By, 1, 0))
		checkTimes(t, in(many(), w.From, w.By, 1, 1))
		checkTimes(t, in(many(), w.From, w.By, 1, most))
		checkNotWide(t, in(many(), w.From, w.By, 1, 1), api.ErrRoom)
		checkNotWide(t, in(many(), w.From, w.By, 1, most), api.ErrRoom)
	}
}

func TestNowhereEverywhereOnce(t *testing.T) {
	checkTimes(t, in(many(), 0, most, allNodes, 1))
	checkTimes(t, in(many(), 30, 40, 1, 1))
	checkTimes(t, in(many(), 0, 39, 1, 31))
	checkTimes(t, in(list(0, 3, 5, 4, 9, 3), 0, most, 3, 1), 0, most-1)
	checkTimes(t, in(list(0, 3, 5, 4, 9, 3), 2, 50, 3, 4), 2, 46)
	checkTimes(t, in(many(), 0, 60, 6, 10), 20, 20)
	checkTimes(t, in(many(), 0, 50, 3, 10), 0, 0, 20, 20, 40, 40)
	checkTimes(t, in(many(), 1, 49, 3, 10), 20, 20)
	checkTimes(t, in(many(), 29, 30, 6, 1), 29, 29)
}

// fitsAt asks at each time.
func fitsAt(t *testing.T, r request, want bool, times ...int) {
	t.Helper()
	for _, at := range times {
		if ok, e := r.fits(at); ok != want || e != api.OK {
			t.Errorf("%s: Fits at %d is %v, error %d", r, at, ok, e)
		}
	}
}

func TestTimesOfFits(t *testing.T) {
	r := in(example(), 5, 40, 2, 5)
	fitsAt(t, r, true, 5, 20, 21, 34, 35)
	fitsAt(t, r, false, 0, 1, 4, 6, 10, 15, 19, 36, 39, 40, 41, most-1, most)
	r = in(example(), 0, most, 1, 5)
	fitsAt(t, r, true, 0, 1, 10, 20, most-6, most-5)
	fitsAt(t, r, false, most-4, most-1, most)
	r = in(example(), 0, most, 4, 0)
	fitsAt(t, r, true, 0, 10, 19, most-1, most)
	r = in(example(), 3, most-1, 4, 0)
	fitsAt(t, r, true, 3, 4, most-2, most-1)
	fitsAt(t, r, false, 0, 2, most)
	r = in(example(), 0, most, 1, most)
	fitsAt(t, r, true, 0)
	fitsAt(t, r, false, 1, 2, most-1, most)
	for _, r := range []request{in(example(), 0, most, 1, 0), in(example(), 0, most, 1, 1), in(example(), 9, 3, 1, 1), in(list(0, 0), 3, 9, 1, 1)} {
		for _, at := range []int{-1, math.MinInt, most + 1, math.MaxInt} {
			checkNoTime(t, r, at)
		}
	}
}

func TestWidestAtTheLimitsOfLong(t *testing.T) {
	for _, l := range [][]api.Step{list(0, 0), list(0, 9), many()} {
		for _, w := range windows(0, most, 5, 5, 9, 3, 0, 0) {
			for _, long := range []int{0, -1, most + 1, math.MinInt, math.MaxInt} {
				checkNotWide(t, request{l, w, 1, long}, api.ErrArg)
			}
		}
	}
	checkWidest(t, in(many(), 0, 100, 1, 1), 6, 20)
	checkWidest(t, in(many(), 0, 21, 1, 1), 6, 20)
	checkWidest(t, in(many(), 0, 20, 1, 1), 4, 0)
	checkWidest(t, in(many(), 9, 20, 1, 1), 4, 9)
	checkWidest(t, in(many(), 10, 20, 1, 1), 1, 10)
	checkWidest(t, in(many(), 39, 40, 1, 1), 0, 39)
	checkWidest(t, in(many(), 29, 30, 1, 1), 6, 29)
}
