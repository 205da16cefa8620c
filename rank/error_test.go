package rank

import (
	"fmt"
	"math"
	"slices"
	"strings"
	"testing"

	"timekeeper/api"
)

// flaw is what makes a workflow of three tasks or more one that is refused.
type flaw struct {
	name  string
	e     api.Errno
	spoil func(f *api.Flow)
}

// each makes a flaw of every value.
func each[T any](name string, e api.Errno, set func(f *api.Flow, x T), values ...T) []flaw {
	var l []flaw
	for _, x := range values {
		l = append(l, flaw{fmt.Sprintf("%s %.50q", name, fmt.Sprint(x)), e, func(f *api.Flow) { set(f, x) }})
	}
	return l
}

// many are n tasks with names that no other workflow here has.
func many(n int) []api.Task {
	l := make([]api.Task, n)
	for i := range l {
		l[i] = task(fmt.Sprint("n", i), 1)
	}
	return l
}

// flaws are lists of some for each error of flow.Check, in the order in which its chapter names these.
func flaws() [][]flaw {
	return [][]flaw{
		slices.Concat(
			each("the workflow's name", api.ErrForm, func(f *api.Flow, s string) { f.Name = s }, "", "1", "a b", "\xff", strings.Repeat("a", api.MaxWord+1)),
			each("a task's name", api.ErrForm, func(f *api.Flow, s string) { f.Tasks[1].Name = s }, "", "_", "a b", "\xff", strings.Repeat("a", api.MaxWord+1), "CHILD", "child", "Child"),
		),
		slices.Concat(
			each("Deadline", api.ErrArg, func(f *api.Flow, n int) { f.Deadline = n }, -1, most+1, math.MinInt, math.MaxInt),
			each("Priority", api.ErrArg, func(f *api.Flow, n int) { f.Priority = n }, -1, 1001, math.MinInt, math.MaxInt),
			each("Nodes", api.ErrArg, func(f *api.Flow, n int) { f.Tasks[2].Nodes = n }, 0, -1, api.MaxNodes+1, math.MinInt, math.MaxInt),
			each("Wall", api.ErrArg, func(f *api.Flow, n int) { f.Tasks[0].Wall = n }, 0, -1, most+1, math.MinInt, math.MaxInt),
			each("Wall of a done one", api.ErrArg, func(f *api.Flow, n int) { f.Tasks[0].Done, f.Tasks[0].Wall = true, n }, 0, -1, most+1, math.MinInt, math.MaxInt),
			each("Retry", api.ErrArg, func(f *api.Flow, n int) { f.Tasks[1].Retry = n }, -1, api.MaxRetry+1, math.MinInt, math.MaxInt),
		),
		each("a name twice", api.ErrTwice, func(f *api.Flow, v int) { f.Tasks[v].Name = f.Tasks[0].Name }, 1, 2),
		each("too many tasks", api.ErrLong, func(f *api.Flow, n int) { f.Tasks = append(f.Tasks, many(n-len(f.Tasks))...) }, api.MaxTasks+1, 2*api.MaxTasks),
		each("After", api.ErrArg, func(f *api.Flow, l []int) { f.Tasks[2].After = l }, []int{1, 0}, []int{0, 0}, []int{-1}, []int{0, math.MaxInt}, []int{math.MinInt}, []int{api.MaxTasks}),
		slices.Concat(
			each("a task that waits for itself", api.ErrCycle, func(f *api.Flow, v int) { f.Tasks[v].After = []int{v} }, 0, 1, 2),
			each("tasks that wait for one another", api.ErrCycle, func(f *api.Flow, v int) {
				f.Tasks[0].After, f.Tasks[v].After = []int{v}, []int{0}
			}, 1, 2),
		),
	}
}

// spoilt is f in other memory, with these flaws.
func spoilt(f api.Flow, l ...flaw) api.Flow {
	f.Tasks = slices.Clone(f.Tasks)
	for _, x := range l {
		x.spoil(&f)
	}
	return f
}

// overs are workflows some of whose numbers are no times: what is wrong with a workflow is told ahead of this.
func overs() []api.Flow {
	return []api.Flow{
		flowOf(wide("a", api.MaxNodes, most), wide("b", api.MaxNodes, most, 0), wide("c", api.MaxNodes, most, 1)),
		flowOf(task("a", most), task("b", most), task("c", most)),
		flowOf(task("a", 1), wide("b", 2, most), task("c", 1)),
	}
}

func TestEachFlaw(t *testing.T) {
	for _, f := range append(overs(), example(), flowOf(done(task("a", 1)), done(task("b", 2)), done(task("c", 3)))) {
		for _, l := range flaws() {
			for _, x := range l {
				check(t, x.name, spoilt(f, x), refused(x.e))
			}
		}
	}
}

// Of two flaws the one that the chapter of flow names first is told.
func TestTwoFlaws(t *testing.T) {
	all := flaws()
	for _, f := range append(overs(), example()) {
		for i := range all {
			for k := i + 1; k < len(all); k++ {
				x, y := all[i][0], all[k][0]
				check(t, y.name+", "+x.name, spoilt(f, y, x), refused(x.e))
			}
		}
	}
}

// All flaws at once: as each one is mended, the next is told, and at the end the numbers that are no times.
func TestAllFlaws(t *testing.T) {
	all := flaws()
	for _, f := range overs() {
		for i := range all {
			var left []flaw
			for _, l := range slices.Backward(all[i:]) {
				left = append(left, l[0])
			}
			check(t, all[i][0].name+" first", spoilt(f, left...), refused(all[i][0].e))
		}
		if _, e := Area(f); e != api.ErrOver {
			t.Errorf("without flaws: Area of %s: error %d", short(f), e)
		}
	}
}

func TestNothing(t *testing.T) {
	check(t, "nothing", api.Flow{}, refused(api.ErrForm))
	check(t, "no task, but a Deadline", api.Flow{Name: "w", Deadline: -1}, refused(api.ErrArg))
	check(t, "an empty task", flowOf(api.Task{}), refused(api.ErrForm))
	check(t, "a task without numbers", flowOf(api.Task{Name: "a"}), refused(api.ErrArg))
}

// Widest of what has too great numbers is told all the same.
func TestOvers(t *testing.T) {
	over := number{e: api.ErrOver}
	l := overs()
	check(t, "a row", l[0], unranked(answers{down: list{e: api.ErrOver}, total: over, area: over, widest: number{n: api.MaxNodes}}))
	want := told([]int{most, most, most}, []int{0, 0, 0}, []int{0}, []int{0, 1, 2}, [4]int{most, 0, 0, 1})
	want.total, want.area = over, over
	check(t, "apart", l[1], want)
	want = told([]int{1, most, 1}, []int{0, 0, 0}, []int{1}, []int{1, 0, 2}, [4]int{most, 0, 0, 2})
	want.total, want.area = over, over
	check(t, "one of them", l[2], want)
}
