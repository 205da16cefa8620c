package split

import (
	"fmt"
	"slices"
	"testing"

	"timekeeper/api"
)

const most = api.MaxTime

func task(name string, wall int, after ...int) api.Task {
	return api.Task{Name: name, Nodes: 1, Wall: wall, After: after}
}

func done(t api.Task) api.Task {
	t.Done = true
	return t
}

func flowOf(tasks ...api.Task) api.Flow {
	return api.Flow{Name: "w", Tasks: tasks}
}

// example is that of the chapter, and the fifth one of the whole.
func example() api.Flow {
	return flowOf(task("a", 3), task("b", 5), task("c", 2, 0, 1))
}

// windows are those from and by each two of these times.
func windows(times ...int) []api.Window {
	var l []api.Window
	for pair := range slices.Chunk(times, 2) {
		l = append(l, api.Window{From: pair[0], By: pair[1]})
	}
	return l
}

// answers are those of all calls but Holds, for one workflow and the same times.
type answers struct {
	earliest        int
	windows, shares []api.Window
	slack           []int
	errors          [4]api.Errno
}

func ask(f api.Flow, now, by int) answers {
	var a answers
	a.earliest, a.errors[0] = Earliest(f, now)
	a.windows, a.errors[1] = Windows(f, now, by)
	a.shares, a.errors[2] = Shares(f, now, by)
	a.slack, a.errors[3] = Slack(f, now, by)
	return a
}

// same tells no difference between nil and an empty list.
func (a answers) same(b answers) bool {
	return a.earliest == b.earliest && a.errors == b.errors &&
		slices.Equal(a.windows, b.windows) && slices.Equal(a.shares, b.shares) && slices.Equal(a.slack, b.slack)
}

// String leaves out most of what is very long.
func (a answers) String() string {
	return fmt.Sprintf("earliest %d, windows %.300s, shares %.300s, slack %.300s, errors %v", a.earliest, fmt.Sprint(a.windows), fmt.Sprint(a.shares), fmt.Sprint(a.slack), a.errors)
}

// refused are the answers where every call has the same error.
func refused(e api.Errno) answers {
	return answers{errors: [4]api.Errno{e, e, e, e}}
}

// onlyEarliest are the answers where only Earliest has no error.
func onlyEarliest(earliest int, e api.Errno) answers {
	return answers{earliest: earliest, errors: [4]api.Errno{api.OK, e, e, e}}
}

// late are the answers where the tasks can't be done in time.
func late(earliest int) answers {
	return onlyEarliest(earliest, api.ErrLate)
}

func brief(f api.Flow) string {
	return fmt.Sprintf("%.400s", fmt.Sprint(f))
}

// check also holds windows against what Holds says of them.
func check(t *testing.T, name string, f api.Flow, now, by int, want answers) {
	t.Helper()
	got := ask(f, now, by)
	if !got.same(want) {
		t.Errorf("%s: of %s from %d to %d: %s; asked for: %s", name, brief(f), now, by, got, want)
	}
	if got.errors[1] == api.OK && (!Holds(f, got.windows) || !Holds(f, got.shares)) {
		t.Errorf("%s: what is told of %s from %d to %d does not hold: %s", name, brief(f), now, by, got)
	}
}

func TestExample(t *testing.T) {
	check(t, "the chapter's", example(), 10, 20, answers{
		earliest: 17, windows: windows(10, 18, 10, 18, 15, 20), shares: windows(10, 14, 10, 17, 17, 20), slack: []int{5, 3, 3},
	})
	check(t, "by the earliest time", example(), 10, 17, answers{
		earliest: 17, windows: windows(10, 15, 10, 15, 15, 17), shares: windows(10, 13, 10, 15, 15, 17), slack: []int{2, 0, 0},
	})
	check(t, "one below", example(), 10, 16, late(17))
	check(t, "as much time as none", example(), 10, 10, late(17))
	check(t, "ahead of now", example(), 10, 9, late(17))
	check(t, "twice the length", example(), 0, 14, answers{
		earliest: 7, windows: windows(0, 12, 0, 12, 5, 14), shares: windows(0, 6, 0, 10, 10, 14), slack: []int{9, 7, 7},
	})
}

func TestRows(t *testing.T) {
	f := flowOf(task("a", 2), task("b", 3, 0), task("c", 5, 1))
	check(t, "a row", f, 100, 120, answers{
		earliest: 110, windows: windows(100, 112, 102, 115, 105, 120), shares: windows(100, 104, 104, 110, 110, 120), slack: []int{10, 10, 10},
	})
	check(t, "a row that is tight", f, 100, 110, answers{
		earliest: 110, windows: windows(100, 102, 102, 105, 105, 110), shares: windows(100, 102, 102, 105, 105, 110), slack: []int{0, 0, 0},
	})
	check(t, "one more than tight", f, 100, 111, answers{
		earliest: 110, windows: windows(100, 103, 102, 106, 105, 111), shares: windows(100, 102, 102, 105, 105, 111), slack: []int{1, 1, 1},
	})
	check(t, "a row that goes back", flowOf(task("c", 5, 1), task("b", 3, 2), task("a", 2)), 100, 120, answers{
		earliest: 110, windows: windows(105, 120, 102, 115, 100, 112), shares: windows(110, 120, 104, 110, 100, 104), slack: []int{10, 10, 10},
	})
	check(t, "a row of ones", flowOf(task("a", 1), task("b", 1, 0), task("c", 1, 1), task("d", 1, 2)), 0, 6, answers{
		earliest: 4, windows: windows(0, 3, 1, 4, 2, 5, 3, 6), shares: windows(0, 1, 1, 3, 3, 4, 4, 6), slack: []int{2, 2, 2, 2},
	})
}

func TestForksAndJoins(t *testing.T) {
	check(t, "apart", flowOf(task("a", 4), task("b", 6), task("c", 1)), 3, 15, answers{
		earliest: 9, windows: windows(3, 15, 3, 15, 3, 15), shares: windows(3, 11, 3, 15, 3, 5), slack: []int{8, 6, 11},
	})
	check(t, "a fork", flowOf(task("a", 4), task("b", 6, 0), task("c", 2, 0)), 0, 15, answers{
		earliest: 10, windows: windows(0, 9, 4, 15, 4, 15), shares: windows(0, 6, 6, 15, 6, 9), slack: []int{5, 5, 9},
	})
	check(t, "a join", flowOf(task("a", 2, 1, 2, 3), task("b", 1), task("c", 4), task("d", 3)), 50, 60, answers{
		earliest: 56, windows: windows(54, 60, 50, 58, 50, 58, 50, 58), shares: windows(56, 60, 50, 51, 50, 56, 50, 55), slack: []int{4, 7, 4, 5},
	})
	check(t, "over another as well", flowOf(task("a", 1), task("b", 4, 0), task("c", 5, 0, 1)), 0, 20, answers{
		earliest: 10, windows: windows(0, 11, 1, 15, 5, 20), shares: windows(0, 2, 2, 10, 10, 20), slack: []int{10, 10, 10},
	})
	check(t, "a short way beside a long one", flowOf(task("a", 1), task("b", 1, 0), task("c", 9, 0), task("d", 1, 1, 2), task("e", 2)), 0, 22, answers{
		earliest: 11, windows: windows(0, 12, 1, 21, 1, 21, 10, 22, 0, 22), shares: windows(0, 2, 2, 4, 2, 20, 20, 22, 0, 4), slack: []int{11, 19, 11, 11, 20},
	})
}

func TestSeveralLongestPaths(t *testing.T) {
	check(t, "a diamond", flowOf(task("a", 1), task("b", 3, 0), task("c", 3, 0), task("d", 2, 1, 2)), 5, 15, answers{
		earliest: 11, windows: windows(5, 10, 6, 13, 6, 13, 9, 15), shares: windows(5, 6, 6, 11, 6, 11, 11, 15), slack: []int{4, 4, 4, 4},
	})
	check(t, "of one task, of two, and of three", flowOf(task("a", 6), task("b", 2), task("c", 4, 1), task("d", 1), task("e", 2, 3), task("f", 3, 4)), 0, 9, answers{
		earliest: 6, windows: windows(0, 9, 0, 5, 2, 9, 0, 4, 1, 6, 3, 9), shares: windows(0, 9, 0, 3, 3, 9, 0, 1, 1, 4, 4, 9), slack: []int{3, 3, 3, 3, 3, 3},
	})
	check(t, "that cross", flowOf(task("a", 2), task("b", 2), task("c", 3, 0, 1), task("d", 3, 0, 1)), 1, 6, answers{
		earliest: 6, windows: windows(1, 3, 1, 3, 3, 6, 3, 6), shares: windows(1, 3, 1, 3, 3, 6, 3, 6), slack: []int{0, 0, 0, 0},
	})
}

// A task that is done needs no time, but stands between those before and behind it.
func TestDone(t *testing.T) {
	check(t, "in a row", flowOf(task("a", 3), done(task("b", 100, 0)), task("c", 2, 1)), 0, 10, answers{
		earliest: 5, windows: windows(0, 8, 3, 8, 3, 10), shares: windows(0, 6, 6, 6, 6, 10), slack: []int{5, 5, 5},
	})
	check(t, "at the begin", flowOf(done(task("a", 9)), task("b", 4, 0)), 7, 12, answers{
		earliest: 11, windows: windows(7, 8, 7, 12), shares: windows(7, 7, 7, 12), slack: []int{1, 1},
	})
	check(t, "at the end", flowOf(task("a", 4), done(task("b", most, 0)), done(task("c", 1, 1))), 7, 12, answers{
		earliest: 11, windows: windows(7, 12, 11, 12, 11, 12), shares: windows(7, 12, 12, 12, 12, 12), slack: []int{1, 1, 1},
	})
	check(t, "the longest of several", flowOf(done(task("a", 50)), task("b", 4), task("c", 2, 0, 1)), 0, 9, answers{
		earliest: 6, windows: windows(0, 7, 0, 7, 4, 9), shares: windows(0, 0, 0, 6, 6, 9), slack: []int{7, 3, 3},
	})
	check(t, "alone", flowOf(done(task("a", 50)), task("b", 4)), 1, 9, answers{
		earliest: 5, windows: windows(1, 9, 1, 9), shares: windows(1, 1, 1, 9), slack: []int{8, 4},
	})
}

// With a length of 0 the shares are at now, but the windows are as long as all of the time.
func TestAllDone(t *testing.T) {
	f := flowOf(done(task("a", 5)), done(task("b", most, 0)), done(task("c", 1)))
	check(t, "all done", f, 10, 25, answers{
		earliest: 10, windows: windows(10, 25, 10, 25, 10, 25), shares: windows(10, 10, 10, 10, 10, 10), slack: []int{15, 15, 15},
	})
	check(t, "all done, without time", f, 10, 10, answers{
		earliest: 10, windows: windows(10, 10, 10, 10, 10, 10), shares: windows(10, 10, 10, 10, 10, 10), slack: []int{0, 0, 0},
	})
	check(t, "all done, too late", f, 10, 9, late(10))
	check(t, "all done, at any time", f, 0, most, answers{
		earliest: 0, windows: windows(0, most, 0, most, 0, most), shares: windows(0, 0, 0, 0, 0, 0), slack: []int{most, most, most},
	})
	check(t, "all done, at the end of times", f, most, most, answers{
		earliest: most, windows: windows(most, most, most, most, most, most), shares: windows(most, most, most, most, most, most), slack: []int{0, 0, 0},
	})
	check(t, "all done, just too late", f, most, most-1, late(most))
}

func TestNoTask(t *testing.T) {
	for _, now := range []int{0, 1, 77, most - 1, most} {
		for _, by := range []int{0, 1, 77, most - 1, most} {
			want := answers{earliest: now}
			if by < now {
				want = late(now)
			}
			check(t, "no task", flowOf(), now, by, want)
		}
	}
}

func TestOneTask(t *testing.T) {
	f := flowOf(task("a", 5))
	check(t, "tight", f, 0, 5, answers{earliest: 5, windows: windows(0, 5), shares: windows(0, 5), slack: []int{0}})
	check(t, "one below", f, 0, 4, late(5))
	check(t, "wide", f, 3, 77, answers{earliest: 8, windows: windows(3, 77), shares: windows(3, 77), slack: []int{69}})
	check(t, "done", flowOf(done(task("a", 5))), 3, 77, answers{earliest: 3, windows: windows(3, 77), shares: windows(3, 3), slack: []int{74}})
	check(t, "a Wall of 1", flowOf(task("a", 1)), 3, 4, answers{earliest: 4, windows: windows(3, 4), shares: windows(3, 4), slack: []int{0}})
	check(t, "a Wall of 1, one below", flowOf(task("a", 1)), 3, 3, late(4))
}

// Nothing but how long the tasks take, and what they wait for, says when they are to be done.
func TestOtherFields(t *testing.T) {
	for _, f := range []api.Flow{example(), flowOf(), flowOf(task("a", 4, 1), done(task("b", 9)), task("c", 4))} {
		for _, by := range []int{16, 17, 30} {
			g := flowOf(slices.Clone(f.Tasks)...)
			g.Name, g.Deadline, g.Priority = "other", 12, 1000
			for v := range g.Tasks {
				g.Tasks[v].Name, g.Tasks[v].Nodes, g.Tasks[v].Retry = fmt.Sprint("z", 9-v), api.MaxNodes-v, api.MaxRetry
			}
			check(t, "with other fields", g, 10, by, ask(f, 10, by))
		}
	}
}
