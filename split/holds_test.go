package split

import (
	"math"
	"slices"
	"testing"

	"timekeeper/api"
)

func checkHolds(t *testing.T, name string, f api.Flow, l []api.Window, want bool) {
	t.Helper()
	if Holds(f, l) != want {
		t.Errorf("%s: Holds of %s in %.300v = %t", name, brief(f), l, !want)
	}
}

func TestHolds(t *testing.T) {
	f := example()
	checkHolds(t, "the windows", f, windows(10, 18, 10, 18, 15, 20), true)
	checkHolds(t, "the shares", f, windows(10, 14, 10, 17, 17, 20), true)
	checkHolds(t, "just enough", f, windows(0, 3, 0, 5, 0, 7), true)
	checkHolds(t, "all of the time", f, windows(0, most-2, 0, most-2, 0, most), true)
	checkHolds(t, "the last time of all", f, windows(most-5, most-2, most-7, most-2, most-2, most), true)
	checkHolds(t, "windows that begin ahead of those of others", f, windows(9, 12, 7, 12, 0, 14), true)
	checkHolds(t, "no task", flowOf(), nil, true)
	checkHolds(t, "no task, an empty list", flowOf(), []api.Window{}, true)
}

func TestHoldsNeedsAWindowATask(t *testing.T) {
	l := windows(10, 18, 10, 18, 15, 20)
	for n := range l {
		checkHolds(t, "too few", example(), l[:n], false)
	}
	checkHolds(t, "one too many", example(), append(slices.Clone(l), l[2]), false)
	checkHolds(t, "an empty one too many", example(), append(slices.Clone(l), api.Window{}), false)
	checkHolds(t, "very many", example(), slices.Repeat(l, 1<<18), false)
	checkHolds(t, "no task", flowOf(), l[:1], false)
	checkHolds(t, "no task, an empty window", flowOf(), windows(0, 0), false)
	checkHolds(t, "one task", flowOf(task("a", 1)), nil, false)
}

// Each number of windows that just hold, moved by one: narrower, or not behind what is waited for.
func TestHoldsByOne(t *testing.T) {
	f, l := example(), windows(10, 13, 10, 15, 15, 17)
	checkHolds(t, "just enough", f, l, true)
	for v := range l {
		narrow := slices.Clone(l)
		narrow[v].From++
		checkHolds(t, "one begins later", f, narrow, false)
		narrow = slices.Clone(l)
		narrow[v].By--
		checkHolds(t, "one is done earlier", f, narrow, false)
		wide := slices.Clone(l)
		wide[v].From--
		checkHolds(t, "one begins earlier", f, wide, true)
		wide[v].By++
		checkHolds(t, "one is done later", f, wide, v != 1)
	}
	checkHolds(t, "the other one is done later", f, windows(10, 15, 10, 15, 15, 17), true)
	checkHolds(t, "the other one is done too late", f, windows(10, 16, 10, 15, 15, 17), false)
}

func TestHoldsWithinTimes(t *testing.T) {
	for _, f := range []api.Flow{flowOf(task("a", 5)), flowOf(done(task("a", 5)))} {
		checkHolds(t, "all times", f, windows(0, most), true)
		for _, from := range []int{-1, -2, -most, math.MinInt, math.MinInt + 1, math.MinInt + most} {
			for _, by := range []int{0, 4, 5, 100, most, most + 1, math.MaxInt} {
				checkHolds(t, "ahead of 0", f, windows(from, by), false)
			}
		}
		for _, by := range []int{most + 1, most + 2, 2 * most, math.MaxInt, math.MaxInt - 1} {
			for _, from := range []int{-1, 0, 100, most - 5, most, most + 1, by - 5, by} {
				checkHolds(t, "behind MaxTime", f, windows(from, by), false)
			}
		}
		for _, by := range []int{-1, -6, -most, math.MinInt, math.MinInt + 4} {
			for _, from := range []int{-1, 0, 1, most, math.MaxInt, math.MinInt, by - 5, by} {
				checkHolds(t, "done ahead of 0", f, windows(from, by), false)
			}
		}
		checkHolds(t, "backwards", f, windows(7, 6), false)
		checkHolds(t, "backwards over all times", f, windows(most, 0), false)
		checkHolds(t, "backwards over all numbers", f, windows(math.MaxInt, math.MinInt), false)
		checkHolds(t, "begins behind MaxTime", f, windows(math.MaxInt, most), false)
	}
	checkHolds(t, "as wide as the task", flowOf(task("a", 5)), windows(0, 5), true)
	checkHolds(t, "narrower", flowOf(task("a", 5)), windows(0, 4), false)
	checkHolds(t, "as wide as the greatest task", flowOf(task("a", most)), windows(0, most), true)
	checkHolds(t, "narrower than the greatest task", flowOf(task("a", most)), windows(1, most), false)
	checkHolds(t, "empty", flowOf(task("a", 1)), windows(3, 3), false)
	checkHolds(t, "empty at the end", flowOf(done(task("a", 1))), windows(most, most), true)
	checkHolds(t, "empty at the begin", flowOf(done(task("a", 1))), windows(0, 0), true)
}

// Wrong numbers stand in one of several windows, of a task that others wait for, or that waits for others.
func TestHoldsOfOneWrongWindow(t *testing.T) {
	f := flowOf(task("a", 1, 2), task("b", 1), task("c", 1, 1), done(task("d", 9, 0)))
	l := windows(20, 30, 5, 8, 10, 20, 0, 40)
	checkHolds(t, "without it", f, l, true)
	for v := range l {
		for _, wrong := range windows(-1, 8, math.MinInt, 8, math.MinInt, math.MaxInt, 5, most+1, 5, math.MaxInt, 7, 6, 5, -1, 5, math.MinInt, math.MinInt, math.MinInt, math.MaxInt, math.MinInt) {
			g := slices.Clone(l)
			g[v] = wrong
			checkHolds(t, "with it", f, g, false)
		}
	}
}

// A task is started as late as its window lets it: by then those that it waits for are to be done.
func TestHoldsOfWhatWaits(t *testing.T) {
	row := flowOf(task("a", 1), task("b", 3, 0))
	checkHolds(t, "just in time", row, windows(0, 7, 0, 10), true)
	checkHolds(t, "one too late", row, windows(0, 8, 0, 10), false)
	checkHolds(t, "as late", row, windows(0, 10, 0, 10), false)
	checkHolds(t, "the end of times", row, windows(0, most-3, 0, most), true)
	checkHolds(t, "one too late at the end of times", row, windows(0, most-2, 0, most), false)
	row.Tasks[1].Done = true
	checkHolds(t, "what is done needs no time", row, windows(0, 10, 0, 10), true)
	checkHolds(t, "what is done waits all the same", row, windows(0, 11, 0, 10), false)
	row.Tasks[0].Done, row.Tasks[1].Done = true, false
	checkHolds(t, "for what is done", row, windows(0, 7, 0, 10), true)
	checkHolds(t, "for what is done too late", row, windows(0, 8, 0, 10), false)
	back := flowOf(task("a", 2, 1), task("b", 1, 2), task("c", 1))
	checkHolds(t, "backwards", back, windows(7, 9, 6, 7, 4, 6), true)
	checkHolds(t, "backwards, the first too late", back, windows(7, 9, 6, 8, 4, 6), false)
	checkHolds(t, "backwards, the second too late", back, windows(7, 9, 6, 7, 4, 7), false)
	join := flowOf(task("a", 1), task("b", 1), task("c", 1), task("d", 4, 0, 1, 2))
	for v := range 3 {
		l := windows(0, 6, 0, 6, 0, 6, 0, 10)
		checkHolds(t, "a join", join, l, true)
		l[v].By++
		checkHolds(t, "a join, one too late", join, l, false)
	}
	fork := flowOf(task("a", 1), task("b", 2, 0), task("c", 3, 0), task("d", 4, 0))
	for v := 1; v < 4; v++ {
		l := windows(0, 6, 0, 10, 0, 10, 0, 10)
		checkHolds(t, "a fork", fork, l, true)
		l[v].By = 6 + fork.Tasks[v].Wall
		checkHolds(t, "a fork, one just in time", fork, l, true)
		l[v].By--
		checkHolds(t, "a fork, one too early", fork, l, false)
	}
}

// Over a task that is missing here, nothing is waited for: windows of others may be anywhere.
func TestHoldsOfWhatDoesNotWait(t *testing.T) {
	f := flowOf(task("a", 1), task("b", 2), task("c", 3, 0))
	checkHolds(t, "b is late", f, windows(0, 1, most-2, most, 1, 4), true)
	checkHolds(t, "b is early", f, windows(90, 91, 0, 2, 91, 94), true)
}
