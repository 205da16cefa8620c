package rank

import (
	"fmt"
	"math"
	"reflect"
	"slices"
	"testing"

	"timekeeper/api"
)

const most = api.MaxTime

// task is one of a single node.
func task(name string, wall int, after ...int) api.Task {
	return wide(name, 1, wall, after...)
}

func wide(name string, nodes int, wall int, after ...int) api.Task {
	return api.Task{Name: name, Nodes: nodes, Wall: wall, After: after}
}

func done(t api.Task) api.Task {
	t.Done = true
	return t
}

func flowOf(tasks ...api.Task) api.Flow {
	return api.Flow{Name: "w", Tasks: tasks}
}

// example is that of the chapter, and the fourth one of the whole.
func example() api.Flow {
	return flowOf(task("a", 3), task("b", 5), task("c", 2, 0, 1))
}

// list and number are what a call answers.
type list struct {
	l []int
	e api.Errno
}

type number struct {
	n int
	e api.Errno
}

func listed(l []int, e api.Errno) list {
	return list{l, e}
}

func numbered(n int, e api.Errno) number {
	return number{n, e}
}

// answers are those of all calls of one workflow.
type answers struct {
	up, down, path, order       list
	length, total, area, widest number
}

func ask(f api.Flow) answers {
	return answers{
		up: listed(Up(f)), down: listed(Down(f)), path: listed(Path(f)), order: listed(Order(f)),
		length: numbered(Length(f)), total: numbered(Total(f)), area: numbered(Area(f)), widest: numbered(Widest(f)),
	}
}

// told are the answers without an error, by whose order they are given: Up, Down, Path, Order, and Length, Total, Area, Widest.
func told(up, down, path, order []int, numbers [4]int) answers {
	return answers{
		up: list{l: up}, down: list{l: down}, path: list{l: path}, order: list{l: order},
		length: number{n: numbers[0]}, total: number{n: numbers[1]}, area: number{n: numbers[2]}, widest: number{n: numbers[3]},
	}
}

// refused are the answers of what is no workflow.
func refused(e api.Errno) answers {
	return answers{list{e: e}, list{e: e}, list{e: e}, list{e: e}, number{e: e}, number{e: e}, number{e: e}, number{e: e}}
}

// unranked are the answers where Up is too great.
func unranked(a answers) answers {
	over := list{e: api.ErrOver}
	a.up, a.path, a.order, a.length = over, over, over, number{e: api.ErrOver}
	return a
}

// short is the text of x, but not all of it if x is large.
func short(x any) string {
	return fmt.Sprintf("%.400s", fmt.Sprintf("%v", x))
}

func check(t *testing.T, name string, f api.Flow, want answers) {
	t.Helper()
	got := ask(f)
	checkList := func(call string, got, want list) {
		t.Helper()
		if got.e != want.e || !slices.Equal(got.l, want.l) {
			t.Errorf("%s: %s of %s = %s; asked for: %s", name, call, short(f), short(got), short(want))
		}
	}
	checkNumber := func(call string, got, want number) {
		t.Helper()
		if got != want {
			t.Errorf("%s: %s of %s = %v; asked for: %v", name, call, short(f), got, want)
		}
	}
	checkList("Up", got.up, want.up)
	checkList("Down", got.down, want.down)
	checkList("Path", got.path, want.path)
	checkList("Order", got.order, want.order)
	checkNumber("Length", got.length, want.length)
	checkNumber("Total", got.total, want.total)
	checkNumber("Area", got.area, want.area)
	checkNumber("Widest", got.widest, want.widest)
}

func TestWeight(t *testing.T) {
	for _, wall := range []int{1, 2, 7, most - 1, most} {
		if n := Weight(task("a", wall, 0, 1)); n != wall {
			t.Errorf("Weight of a Wall of %d = %d", wall, n)
		}
		if n := Weight(done(wide("a", 3, wall))); n != 0 {
			t.Errorf("Weight of a Wall of %d, done = %d", wall, n)
		}
	}
}

// What is not a task of any workflow has a weight all the same.
func TestWeightOfNoTask(t *testing.T) {
	for _, wall := range []int{0, -1, most + 1, math.MinInt, math.MaxInt} {
		x := api.Task{Name: "\xff", Nodes: -3, Wall: wall, Retry: -1, After: []int{-1, -1}}
		if n := Weight(x); n != wall {
			t.Errorf("Weight of a Wall of %d = %d", wall, n)
		}
		if n := Weight(done(x)); n != 0 {
			t.Errorf("Weight of a Wall of %d, done = %d", wall, n)
		}
	}
}

func TestExamples(t *testing.T) {
	check(t, "the chapter's", example(), told([]int{5, 7, 2}, []int{0, 0, 5}, []int{1, 2}, []int{1, 0, 2}, [4]int{7, 10, 10, 1}))
	f := flowOf(wide("a", 2, 3), wide("b", 2, 5), wide("c", 1, 2, 0, 1))
	check(t, "the whole's seventh", f, told([]int{5, 7, 2}, []int{0, 0, 5}, []int{1, 2}, []int{1, 0, 2}, [4]int{7, 10, 18, 2}))
	f = api.Flow{Name: "one", Deadline: 9, Tasks: []api.Task{wide("t", 2, 5)}}
	check(t, "the whole's ninth", f, told([]int{5}, []int{0}, []int{0}, []int{0}, [4]int{5, 5, 10, 2}))
}

func TestFewTasks(t *testing.T) {
	none := told(nil, nil, nil, nil, [4]int{})
	check(t, "no task", flowOf(), none)
	check(t, "no task in an empty list", api.Flow{Name: "w", Tasks: []api.Task{}}, none)
	one := func(t api.Task, weight int, area int, widest int) (api.Flow, answers) {
		return flowOf(t), told([]int{weight}, []int{0}, []int{0}, []int{0}, [4]int{weight, weight, area, widest})
	}
	for name, x := range map[string]struct {
		t                    api.Task
		weight, area, widest int
	}{
		"one task":             {task("a", 1), 1, 1, 1},
		"nodes":                {wide("a", 3, 7), 7, 21, 3},
		"the greatest Wall":    {task("a", most), most, most, 1},
		"the greatest Nodes":   {wide("a", api.MaxNodes, 1), 1, api.MaxNodes, api.MaxNodes},
		"many nodes for long":  {wide("a", api.MaxNodes, most/api.MaxNodes), most / api.MaxNodes, most / api.MaxNodes * api.MaxNodes, api.MaxNodes},
		"one done":             {done(task("a", 1)), 0, 0, 0},
		"the greatest, done":   {done(wide("a", api.MaxNodes, most)), 0, 0, 0},
		"tried again, no more": {api.Task{Name: "a", Nodes: 1, Wall: 4, Retry: api.MaxRetry}, 4, 4, 1},
	} {
		f, want := one(x.t, x.weight, x.area, x.widest)
		check(t, name, f, want)
	}
}

func TestRows(t *testing.T) {
	check(t, "a row", flowOf(wide("a", 2, 2), wide("b", 3, 3, 0), wide("c", 1, 4, 1)),
		told([]int{9, 7, 4}, []int{0, 2, 5}, []int{0, 1, 2}, []int{0, 1, 2}, [4]int{9, 9, 17, 3}))
	check(t, "a row that goes back", flowOf(task("a", 2, 1), task("b", 3, 2), task("c", 4)),
		told([]int{2, 5, 9}, []int{7, 4, 0}, []int{2, 1, 0}, []int{2, 1, 0}, [4]int{9, 9, 9, 1}))
	check(t, "two rows", flowOf(task("a", 1), task("b", 5), task("c", 6, 0), task("d", 1, 1)),
		told([]int{7, 6, 6, 1}, []int{0, 0, 1, 5}, []int{0, 2}, []int{0, 1, 2, 3}, [4]int{7, 13, 13, 1}))
	check(t, "many short or one long", flowOf(task("a", 9), task("b", 2), task("c", 2, 1), task("d", 2, 2), task("e", 2, 3)),
		told([]int{9, 8, 6, 4, 2}, []int{0, 0, 2, 4, 6}, []int{0}, []int{0, 1, 2, 3, 4}, [4]int{9, 17, 17, 1}))
	check(t, "many short that are longer", flowOf(task("a", 7), task("b", 2), task("c", 2, 1), task("d", 2, 2), task("e", 2, 3)),
		told([]int{7, 8, 6, 4, 2}, []int{0, 0, 2, 4, 6}, []int{1, 2, 3, 4}, []int{1, 0, 2, 3, 4}, [4]int{8, 15, 15, 1}))
}

func TestForksAndJoins(t *testing.T) {
	check(t, "a fork", flowOf(task("a", 1), task("b", 4, 0), task("c", 5, 0), task("d", 2, 0)),
		told([]int{6, 4, 5, 2}, []int{0, 1, 1, 1}, []int{0, 2}, []int{0, 2, 1, 3}, [4]int{6, 12, 12, 1}))
	check(t, "a join", flowOf(task("a", 1, 1, 2, 3), task("b", 4), task("c", 5), task("d", 2)),
		told([]int{1, 5, 6, 3}, []int{5, 0, 0, 0}, []int{2, 0}, []int{2, 1, 3, 0}, [4]int{6, 12, 12, 1}))
	check(t, "a fork and a join", flowOf(task("a", 1), task("b", 4, 0), task("c", 5, 0), task("d", 2, 1, 2)),
		told([]int{8, 6, 7, 2}, []int{0, 1, 1, 6}, []int{0, 2, 3}, []int{0, 2, 1, 3}, [4]int{8, 12, 12, 1}))
	check(t, "over another as well", flowOf(task("a", 1), task("b", 4, 0), task("c", 5, 0, 1)),
		told([]int{10, 9, 5}, []int{0, 1, 5}, []int{0, 1, 2}, []int{0, 1, 2}, [4]int{10, 10, 10, 1}))
	check(t, "the wide one is short", flowOf(wide("a", 9, 1), wide("b", 1, 2), wide("c", 3, 3, 0, 1)),
		told([]int{4, 5, 3}, []int{0, 0, 2}, []int{1, 2}, []int{1, 0, 2}, [4]int{5, 6, 20, 9}))
	check(t, "the one that takes longest is on no critical path", flowOf(task("a", 6), task("b", 4), task("c", 3, 1)),
		told([]int{6, 7, 3}, []int{0, 0, 4}, []int{1, 2}, []int{1, 0, 2}, [4]int{7, 13, 13, 1}))
}

// Of several with the same Up, Path takes the first one in f, and Order leaves them as those of dag stand.
func TestSameRanks(t *testing.T) {
	check(t, "alone", flowOf(task("a", 2), task("b", 2), task("c", 2)),
		told([]int{2, 2, 2}, []int{0, 0, 0}, []int{0}, []int{0, 1, 2}, [4]int{2, 6, 6, 1}))
	check(t, "two ways of a diamond", flowOf(task("a", 1), task("b", 3, 0), task("c", 3, 0), task("d", 2, 1, 2)),
		told([]int{6, 5, 5, 2}, []int{0, 1, 1, 4}, []int{0, 1, 3}, []int{0, 1, 2, 3}, [4]int{6, 9, 9, 1}))
	check(t, "two ways, named backwards", flowOf(task("a", 2, 1, 2), task("b", 3, 3), task("c", 3, 3), task("d", 1)),
		told([]int{2, 5, 5, 6}, []int{4, 1, 1, 0}, []int{3, 1, 0}, []int{3, 1, 2, 0}, [4]int{6, 9, 9, 1}))
	check(t, "two begins", flowOf(task("a", 1), task("b", 4), task("c", 4), task("d", 3, 1, 2)),
		told([]int{1, 7, 7, 3}, []int{0, 0, 0, 4}, []int{1, 3}, []int{1, 2, 3, 0}, [4]int{7, 12, 12, 1}))
	check(t, "ways of the same length, of one task and of two", flowOf(task("a", 5), task("b", 2), task("c", 3, 1)),
		told([]int{5, 5, 3}, []int{0, 0, 2}, []int{0}, []int{0, 1, 2}, [4]int{5, 10, 10, 1}))
	check(t, "a way of two first", flowOf(task("a", 2), task("b", 3, 0), task("c", 5)),
		told([]int{5, 3, 5}, []int{0, 2, 0}, []int{0, 1}, []int{0, 2, 1}, [4]int{5, 10, 10, 1}))
	check(t, "the order of dag is not that of f", flowOf(task("a", 3, 1), task("b", 2), task("c", 3), task("d", 5)),
		told([]int{3, 5, 3, 5}, []int{2, 0, 0, 0}, []int{1, 0}, []int{1, 3, 0, 2}, [4]int{5, 13, 13, 1}))
	check(t, "what may start first stands first", flowOf(task("a", 3, 2), task("b", 3), task("c", 1)),
		told([]int{3, 3, 4}, []int{1, 0, 0}, []int{2, 0}, []int{2, 1, 0}, [4]int{4, 7, 7, 1}))
}

func TestDone(t *testing.T) {
	check(t, "in a row", flowOf(wide("a", 2, 3), done(wide("b", 9, 100, 0)), wide("c", 1, 2, 1)),
		told([]int{5, 2, 2}, []int{0, 3, 3}, []int{0, 1, 2}, []int{0, 1, 2}, [4]int{5, 5, 8, 2}))
	check(t, "at the begin", flowOf(done(wide("a", 9, 3)), task("b", 4, 0)),
		told([]int{4, 4}, []int{0, 0}, []int{0, 1}, []int{0, 1}, [4]int{4, 4, 4, 1}))
	check(t, "at the end", flowOf(task("a", 3), done(wide("b", 9, 4, 0)), done(task("c", 4, 1))),
		told([]int{3, 0, 0}, []int{0, 3, 3}, []int{0, 1, 2}, []int{0, 1, 2}, [4]int{3, 3, 3, 1}))
	check(t, "one way of two", flowOf(task("a", 1), done(task("b", 9, 0)), task("c", 1, 0), task("d", 1, 1, 2)),
		told([]int{3, 1, 2, 1}, []int{0, 1, 1, 2}, []int{0, 2, 3}, []int{0, 2, 1, 3}, [4]int{3, 3, 3, 1}))
	check(t, "the first in f waits for a done one", flowOf(task("a", 4, 1), done(task("b", 9)), task("c", 4)),
		told([]int{4, 4, 4}, []int{0, 0, 0}, []int{0}, []int{1, 0, 2}, [4]int{4, 8, 8, 1}))
	check(t, "over several done ones, backwards", flowOf(task("a", 4, 1), done(task("b", 9, 2)), done(task("c", 9)), task("d", 4)),
		told([]int{4, 4, 4, 4}, []int{0, 0, 0, 0}, []int{0}, []int{2, 1, 0, 3}, [4]int{4, 8, 8, 1}))
	check(t, "a running one after a done one that waits for it", flowOf(task("a", 2), done(task("b", 2, 0)), task("c", 2)),
		told([]int{2, 0, 2}, []int{0, 2, 0}, []int{0, 1}, []int{0, 2, 1}, [4]int{2, 4, 4, 1}))
}

func TestAllDone(t *testing.T) {
	check(t, "apart", flowOf(done(task("a", 1)), done(wide("b", 5, most))),
		told([]int{0, 0}, []int{0, 0}, []int{0}, []int{0, 1}, [4]int{}))
	check(t, "in a row", flowOf(done(task("a", 1)), done(task("b", 2, 0)), done(task("c", most, 1))),
		told([]int{0, 0, 0}, []int{0, 0, 0}, []int{0, 1, 2}, []int{0, 1, 2}, [4]int{}))
	check(t, "in a row that goes back", flowOf(done(task("a", 1, 1)), done(task("b", 2, 2)), done(task("c", most))),
		told([]int{0, 0, 0}, []int{0, 0, 0}, []int{0}, []int{2, 1, 0}, [4]int{}))
	check(t, "a join", flowOf(done(task("a", most)), done(wide("b", api.MaxNodes, most, 2)), done(task("c", most))),
		told([]int{0, 0, 0}, []int{0, 0, 0}, []int{0}, []int{0, 2, 1}, [4]int{}))
}

// What does not make a task longer changes no answer.
func TestOtherFields(t *testing.T) {
	for _, f := range []api.Flow{example(), flowOf(), flowOf(task("a", 4, 1), done(task("b", 9)), task("c", 4))} {
		g := f
		g.Name, g.Deadline, g.Priority = "other", 1, 1000
		g.Tasks = slices.Clone(f.Tasks)
		for v := range g.Tasks {
			g.Tasks[v].Name = fmt.Sprint("z", len(f.Tasks)-v)
			g.Tasks[v].Retry = api.MaxRetry
		}
		if got, want := ask(g), ask(f); !reflect.DeepEqual(got, want) {
			t.Errorf("of %s: %v; asked for: %v", short(g), got, want)
		}
	}
}

// The nodes of a task weigh only in Area and Widest, and what is done weighs nowhere.
func TestNodes(t *testing.T) {
	f := flowOf(wide("a", 2, 3), wide("b", 7, 5), wide("c", api.MaxNodes, 2, 0, 1))
	want := told([]int{5, 7, 2}, []int{0, 0, 5}, []int{1, 2}, []int{1, 0, 2}, [4]int{7, 10, 41 + 2*api.MaxNodes, api.MaxNodes})
	check(t, "nodes", f, want)
	f.Tasks[2].Done = true
	check(t, "the widest done", f, told([]int{3, 5, 0}, []int{0, 0, 5}, []int{1, 2}, []int{1, 0, 2}, [4]int{5, 8, 41, 7}))
	f.Tasks[0], f.Tasks[1] = f.Tasks[1], f.Tasks[0]
	check(t, "the other way round", f, told([]int{5, 3, 0}, []int{0, 0, 5}, []int{0, 2}, []int{0, 1, 2}, [4]int{5, 8, 41, 7}))
}
