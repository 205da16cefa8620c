package split

import (
	"fmt"
	"math"
	"slices"
	"strings"
	"testing"

	"timekeeper/api"
)

// flaw is what makes a workflow of three tasks or more one that is refused.
type flaw struct {
	e     api.Errno
	name  string
	spoil func(f *api.Flow)
}

// many are n tasks with names that no other workflow here has.
func many(n int) []api.Task {
	l := make([]api.Task, n)
	for i := range l {
		l[i] = task(fmt.Sprint("n", i), 1)
	}
	return l
}

// wrongNames are flaws that give the workflow, or a task, a name that is none for it.
func wrongNames() []flaw {
	var l []flaw
	for _, s := range []string{"", "1", "-a", "a b", "a\n", "\xff", strings.Repeat("a", api.MaxWord+1)} {
		l = append(l, flaw{api.ErrForm, "the name " + s, func(f *api.Flow) { f.Name = s }})
		l = append(l, flaw{api.ErrForm, "the task " + s, func(f *api.Flow) { f.Tasks[1].Name = s }})
	}
	for _, s := range []string{"CHILD", "child", "cHiLd"} {
		l = append(l, flaw{api.ErrForm, "the task " + s, func(f *api.Flow) { f.Tasks[2].Name = s }})
	}
	return l
}

// wrongNumbers are flaws that make a number too small or too great.
func wrongNumbers() []flaw {
	var l []flaw
	number := func(name string, least, greatest int, set func(f *api.Flow, n int)) {
		for _, n := range []int{least - 1, greatest + 1, math.MinInt, math.MaxInt} {
			l = append(l, flaw{api.ErrArg, fmt.Sprint(name, " ", n), func(f *api.Flow) { set(f, n) }})
		}
	}
	number("Deadline", 0, most, func(f *api.Flow, n int) { f.Deadline = n })
	number("Priority", 0, 1000, func(f *api.Flow, n int) { f.Priority = n })
	number("Nodes", 1, api.MaxNodes, func(f *api.Flow, n int) { f.Tasks[0].Nodes = n })
	number("Wall", 1, most, func(f *api.Flow, n int) { f.Tasks[1].Wall = n })
	number("Wall of a done one", 1, most, func(f *api.Flow, n int) { f.Tasks[2].Done, f.Tasks[2].Wall = true, n })
	number("Retry", 0, api.MaxRetry, func(f *api.Flow, n int) { f.Tasks[0].Retry = n })
	return l
}

// wrongLinks are flaws of an After alone.
func wrongLinks() []flaw {
	var l []flaw
	for _, after := range [][]int{{1, 0}, {0, 0}, {0, 1, 1}, {-1}, {0, -1}, {api.MaxTasks}, {1, math.MaxInt}, {math.MinInt}} {
		l = append(l, flaw{api.ErrArg, fmt.Sprint("After ", after), func(f *api.Flow) { f.Tasks[2].After = after }})
	}
	return l
}

// cycles are flaws that let tasks wait for one another.
func cycles() []flaw {
	var l []flaw
	for v := range 3 {
		l = append(l, flaw{api.ErrCycle, "one that waits for itself", func(f *api.Flow) { f.Tasks[v].After = []int{v} }})
		l = append(l, flaw{api.ErrCycle, "two that wait for one another", func(f *api.Flow) {
			f.Tasks[v].After, f.Tasks[(v+1)%3].After = []int{(v + 1) % 3}, []int{v}
		}})
	}
	l = append(l, flaw{api.ErrCycle, "three in a ring", func(f *api.Flow) {
		f.Tasks[0].After, f.Tasks[1].After, f.Tasks[2].After = []int{2}, []int{0}, []int{1}
	}})
	return l
}

// flaws are some for each error of flow.Check, in the order in which its chapter names these.
func flaws() [][]flaw {
	twice := flaw{api.ErrTwice, "a name twice", func(f *api.Flow) { f.Tasks[2].Name = f.Tasks[0].Name }}
	long := flaw{api.ErrLong, "too many tasks", func(f *api.Flow) { f.Tasks = append(f.Tasks, many(api.MaxTasks+1-len(f.Tasks))...) }}
	return [][]flaw{wrongNames(), wrongNumbers(), {twice}, {long}, wrongLinks(), cycles()}
}

// spoilt is f in other memory, with these flaws.
func spoilt(f api.Flow, l ...flaw) api.Flow {
	f.Tasks = slices.Clone(f.Tasks)
	for _, x := range l {
		x.spoil(&f)
	}
	return f
}

// bases are workflows that have an answer, and such whose length is no time, with a window for each task.
func bases() []api.Flow {
	return []api.Flow{
		example(), flowOf(done(task("a", 1)), done(task("b", 2, 0)), done(task("c", 3))),
		flowOf(task("a", most), task("b", most, 0), task("c", most, 1)),
	}
}

// checkRefused asks at several times, also at such that would be too late or no times for the workflow without its flaws.
func checkRefused(t *testing.T, name string, f api.Flow, e api.Errno) {
	t.Helper()
	for _, at := range [][2]int{{0, 100}, {0, most}, {10, 9}, {100, 100}, {most, most}, {most, 0}} {
		check(t, name, f, at[0], at[1], refused(e))
	}
	check(t, name+", and now is none", f, -1, 100, refused(api.ErrArg))
	check(t, name+", and by is none", f, 5, most+1, answers{errors: [4]api.Errno{e, api.ErrArg, api.ErrArg, api.ErrArg}})
	if l := slices.Repeat(windows(0, most), len(f.Tasks)); Holds(f, l) || Holds(f, nil) {
		t.Errorf("%s: Holds of %s", name, brief(f))
	}
}

func TestEachFlaw(t *testing.T) {
	for _, f := range bases() {
		for _, l := range flaws() {
			for _, x := range l {
				checkRefused(t, x.name, spoilt(f, x), x.e)
			}
		}
	}
}

// With all tasks done, and the same window for each, nothing but the flaw makes Holds false.
func TestHoldsOfFlaws(t *testing.T) {
	f := flowOf(done(task("a", 1)), done(task("b", 2)), done(task("c", 3)))
	checkHolds(t, "without a flaw", f, slices.Repeat(windows(0, 4), 3), true)
	for _, x := range slices.Concat(flaws()...) {
		g := spoilt(f, x)
		checkHolds(t, x.name, g, slices.Repeat(windows(0, 4), len(g.Tasks)), false)
	}
}

// Of two flaws the one that the chapter of flow names first is told.
func TestTwoFlaws(t *testing.T) {
	all := flaws()
	for _, f := range bases() {
		for i := range all {
			for _, later := range all[i+1:] {
				x, y := all[i][0], later[0]
				checkRefused(t, y.name+", "+x.name, spoilt(f, y, x), x.e)
			}
		}
	}
}

// All flaws at once: as each one is mended, the next is told, then the length, and then the time.
func TestAllFlaws(t *testing.T) {
	all := flaws()
	for _, f := range bases() {
		for i := range all {
			var left []flaw
			for _, l := range slices.Backward(all[i:]) {
				left = append(left, l[0])
			}
			checkRefused(t, "all from "+all[i][0].name, spoilt(f, left...), all[i][0].e)
		}
	}
	check(t, "without flaws", bases()[2], 0, 0, refused(api.ErrOver))
	check(t, "without flaws", bases()[0], most, 0, refused(api.ErrOver))
	check(t, "without flaws", bases()[0], 0, 0, late(7))
}

func TestNothing(t *testing.T) {
	checkRefused(t, "nothing", api.Flow{}, api.ErrForm)
	checkRefused(t, "no task, but a Deadline", api.Flow{Name: "w", Deadline: -1}, api.ErrArg)
	checkRefused(t, "an empty task", flowOf(api.Task{}), api.ErrForm)
	checkRefused(t, "a task without numbers", flowOf(api.Task{Name: "a"}), api.ErrArg)
}
