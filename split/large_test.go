package split

import (
	"slices"
	"testing"

	"timekeeper/api"
)

const mostTasks = api.MaxTasks

// linked are as many tasks as there may be, that take so long, each of which waits for those that after tells.
func linked(wall int, after func(v int) []int) api.Flow {
	f := flowOf(many(mostTasks)...)
	for v := range f.Tasks {
		f.Tasks[v].Wall, f.Tasks[v].After = wall, after(v)
	}
	return f
}

// told are windows, shares and slack that each task has for itself.
func told(earliest int, window, share func(v int) (int, int), slack func(v int) int) answers {
	a := answers{earliest: earliest}
	for v := range mostTasks {
		a.windows = append(a.windows, windows(window(v))...)
		a.shares = append(a.shares, windows(share(v))...)
		a.slack = append(a.slack, slack(v))
	}
	return a
}

func always(from, by int) func(int) (int, int) {
	return func(int) (int, int) { return from, by }
}

func same(n int) func(int) int {
	return func(int) int { return n }
}

func upTo(v int) []int {
	var l []int
	for u := range v {
		l = append(l, u)
	}
	return l
}

func TestMostTasksApart(t *testing.T) {
	f := linked(most, func(int) []int { return nil })
	check(t, "apart", f, 0, most, told(most, always(0, most), always(0, most), same(0)))
	check(t, "apart, late", f, 0, most-1, late(most))
	check(t, "apart, over", f, 1, most, refused(api.ErrOver))
	for v := range f.Tasks {
		f.Tasks[v].Done = true
	}
	check(t, "all done", f, 5, most, told(5, always(5, most), always(5, 5), same(most-5)))
	f.Tasks = append(f.Tasks, task("more", 1))
	checkRefused(t, "one too many", f, api.ErrLong)
}

// A row that takes just as long as there are times.
func TestMostTasksInARow(t *testing.T) {
	const wall = most / mostTasks
	const rest = most - wall*mostTasks
	f := linked(wall, func(v int) []int { return upTo(v)[max(v-1, 0):] })
	f.Tasks[mostTasks-1].Wall += rest
	start := func(v int) int { return v * wall }
	window := func(v int) (int, int) {
		if v == mostTasks-1 {
			return start(v), most
		}
		return start(v), start(v + 1)
	}
	check(t, "a row", f, 0, most, told(most, window, window, same(0)))
	check(t, "one below", f, 0, most-1, late(most))
	check(t, "one later", f, 1, most, refused(api.ErrOver))
	f.Tasks[mostTasks-1].Wall++
	check(t, "one more", f, 0, most, refused(api.ErrOver))
	f.Tasks[mostTasks-1].Done = true
	f.Tasks[0].Done = true
	const length = wall * (mostTasks - 2)
	shared := func(v int) int { return wantShare(min(max(v-1, 0), mostTasks-2)*wall, most-9, length) }
	check(t, "both ends are done", f, 9, most, told(9+length,
		func(v int) (int, int) {
			return 9 + min(max(v-1, 0), mostTasks-2)*wall, most - min(max(mostTasks-2-v, 0), mostTasks-2)*wall
		},
		func(v int) (int, int) { return 9 + shared(v), 9 + shared(v+1) },
		same(most-9-length)))
}

// Each task waits for all before it: no workflow has more links. It has far more ways than can be counted.
func TestMostLinks(t *testing.T) {
	f := linked(2, upTo)
	want := told(100+2*mostTasks,
		func(v int) (int, int) { return 100 + 2*v, 100 + 2*v + 2*mostTasks + 2 },
		func(v int) (int, int) { return 100 + 4*v, 100 + 4*v + 4 },
		same(2*mostTasks))
	check(t, "all links", f, 100, 100+4*mostTasks, want)
	l := slices.Clone(want.windows)
	l[0].By = l[mostTasks-1].By - 1
	checkHolds(t, "one that all wait for", f, l, false)
	l[0] = want.windows[0]
	l[mostTasks-1].By = l[mostTasks-2].By + 1
	checkHolds(t, "one that waits for all", f, l, false)
	f.Tasks[0].After = []int{mostTasks - 1}
	check(t, "a cycle", f, 100, 100+4*mostTasks, refused(api.ErrCycle))
	checkHolds(t, "a cycle", f, want.windows, false)
}

// All tasks but the first and the last wait for the first one, and the last one for them.
func TestMostLongestPaths(t *testing.T) {
	f := linked(3, func(v int) []int {
		switch v {
		case 0:
			return nil
		case mostTasks - 1:
			return upTo(v)[1:]
		}
		return []int{0}
	})
	of := func(first, between, last int) func(v int) int {
		return func(v int) int {
			switch v {
			case 0:
				return first
			case mostTasks - 1:
				return last
			}
			return between
		}
	}
	both := func(from, by func(int) int) func(v int) (int, int) {
		return func(v int) (int, int) { return from(v), by(v) }
	}
	check(t, "a fork and a join", f, 0, 20, told(9, both(of(0, 3, 6), of(14, 17, 20)), both(of(0, 6, 13), of(6, 13, 20)), same(11)))
}

// What is much larger than allowed only costs the time to look at it.
func TestMuchLargerThanAllowed(t *testing.T) {
	checkRefused(t, "very many tasks", flowOf(many(1<<16)...), api.ErrLong)
	checkRefused(t, "after very many", flowOf(task("a", 1, upTo(1<<20)...)), api.ErrArg)
	checkRefused(t, "one name", flowOf(slices.Repeat([]api.Task{task("a", most)}, 1<<17)...), api.ErrTwice)
}
