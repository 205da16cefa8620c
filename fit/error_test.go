package fit

import (
	"math"
	"slices"
	"testing"

	"timekeeper/api"
)

// comb are n steps, one at each second time, with 1 and 2 free nodes in turn.
func comb(n int) []api.Step {
	l := make([]api.Step, n)
	for i := range l {
		l[i] = api.Step{At: 2 * i, Free: 1 + i%2}
	}
	return l
}

// with is the list with another step i, which counts from the end if it is negative.
func with(l []api.Step, i, at, free int) []api.Step {
	l = slices.Clone(l)
	l[(i+len(l))%len(l)] = api.Step{At: at, Free: free}
	return l
}

// noProfiles are lists each of which has one flaw.
func noProfiles() [][]api.Step {
	l := [][]api.Step{nil, {}, comb(api.MaxSteps + 1), comb(30)[1:]}
	for _, free := range []int{-1, allNodes + 1, math.MinInt, math.MaxInt} {
		l = append(l, list(0, free), with(comb(5), 0, 0, free), with(comb(5), 2, 4, free), with(comb(5), -1, 8, free))
	}
	for _, at := range []int{1, -1, most, most + 1, math.MinInt, math.MaxInt} {
		l = append(l, list(at, 3), with(comb(5), 0, at, 1))
	}
	for _, at := range []int{-1, 0, 2, 1, 8, 9, most + 1, math.MinInt, math.MaxInt} {
		// Neither behind the step before, nor ahead of the next.
		l = append(l, with(comb(5), 2, at, 1))
	}
	for _, at := range []int{-1, 0, 6, 5, most + 1, math.MinInt, math.MaxInt} {
		l = append(l, with(comb(5), -1, at, 1))
	}
	return append(l, with(comb(5), 1, 2, 1), with(comb(5), 2, 4, 2), with(comb(5), -1, 8, 2), with(comb(api.MaxSteps), -1, 2*api.MaxSteps, 1))
}

func TestEachListThatIsNoProfile(t *testing.T) {
	for _, l := range noProfiles() {
		for _, r := range []request{
			in(l, 0, most, 1, 1), in(l, 5, 40, 2, 8), in(l, 0, most, allNodes, most), in(l, 12, 30, 1, 0),
			// Nothing fits there.
			in(l, 9, 3, 1, 1), in(l, 5, 5, 1, 2), in(l, 0, most, allNodes, 1),
			// Other arguments are wrong as well.
			in(l, -1, most, 1, 1), in(l, 0, most+1, 1, 1), in(l, 0, most, 0, 1), in(l, 0, most, allNodes+1, 1), in(l, 0, most, 1, -1), in(l, 0, most, 1, most+1), in(l, -1, -2, -3, -4),
		} {
			checkRefused(t, r)
			checkNotWide(t, r, api.ErrArg)
		}
	}
}

// notTimes are numbers close to the times, and far from them.
func notTimes() []int {
	return []int{-1, -2, -most, most + 1, most + 2, 2 * most, math.MinInt, math.MinInt + 1, math.MaxInt, math.MaxInt - 1}
}

// profiles are some with room for much, for little, and for nothing.
func profiles() [][]api.Step {
	return [][]api.Step{list(0, 0), list(0, allNodes), example(), many(), comb(9)}
}

func TestWindowsOfWhatIsNoTime(t *testing.T) {
	for _, l := range profiles() {
		for _, n := range notTimes() {
			for _, w := range append(windows(n, 0, n, 30, n, most, 0, n, 30, n, most, n, n, n), windows(n, -1, -1, n, n, most+1, most+1, n)...) {
				for _, long := range []int{0, 1, 8, most} {
					r := request{l, w, 1, long}
					checkRefused(t, r)
					checkNotWide(t, r, api.ErrArg)
				}
			}
		}
	}
}

func TestDurationsThatAreNone(t *testing.T) {
	for _, l := range profiles() {
		for _, long := range notTimes() {
			for _, w := range windows(0, most, 5, 40, 5, 5, 9, 3, most, 0, most, most) {
				for _, nodes := range []int{1, 4, allNodes} {
					r := request{l, w, nodes, long}
					checkRefused(t, r)
					checkNotWide(t, r, api.ErrArg)
				}
			}
		}
	}
}

// Each of the arguments after the profile is right, or wrong: one that is wrong is told rather than that nothing fits.
func TestSeveralWrongArguments(t *testing.T) {
	choose := func(n, bit, right, wrong int) int {
		if n>>bit&1 == 0 {
			return right
		}
		return wrong
	}
	for _, l := range profiles() {
		for _, w := range windows(0, most, 5, 40, 15, 16, 9, 3) {
			for n := 1; n < 16; n++ {
				r := in(l, choose(n, 0, w.From, -1), choose(n, 1, w.By, most+1), choose(n, 2, 1, 0), choose(n, 3, 8, -8))
				checkRefused(t, r)
				if n != 4 {
					checkNotWide(t, r, api.ErrArg)
				}
			}
			// A t that is no time is told whether the request fits anywhere, or not at all.
			for _, at := range notTimes() {
				checkNoTime(t, request{l, w, 1, 8}, at)
				checkNoTime(t, request{l, w, 1, 0}, at)
				checkNoTime(t, request{l, w, allNodes, most}, at)
			}
		}
	}
}

// A duration that is none for Widest is told rather than a window that is too short for it.
func TestErrorsOfWidestInOrder(t *testing.T) {
	for _, l := range profiles() {
		checkNotWide(t, in(l, 9, 3, 1, 0), api.ErrArg)
		checkNotWide(t, in(l, 9, 3, 1, -7), api.ErrArg)
		checkNotWide(t, in(l, 9, 3, 1, most+1), api.ErrArg)
		checkNotWide(t, in(l, 0, most, 1, most+1), api.ErrArg)
		checkNotWide(t, in(l, -1, 3, 1, 9), api.ErrArg)
		checkNotWide(t, in(l, 3, -1, 1, 9), api.ErrArg)
		checkNotWide(t, in(l, most+1, 3, 1, 9), api.ErrArg)
		checkNotWide(t, in(l, 9, 3, 1, 1), api.ErrRoom)
		checkNotWide(t, in(l, 3, 9, 1, 7), api.ErrRoom)
		checkNotWide(t, in(l, most, 0, 1, most), api.ErrRoom)
	}
	checkNotWide(t, in(nil, 3, 9, 1, 7), api.ErrArg)
	checkNotWide(t, in(list(0, 1, 5, 1), 9, 3, 1, 7), api.ErrArg)
	// Where nothing is free, nothing is what is told, and no error.
	checkWidest(t, in(list(0, 0), 3, 10, 1, 7), 0, 3)
}
