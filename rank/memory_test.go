package rank

import (
	"reflect"
	"slices"
	"testing"

	"timekeeper/api"
)

// marked is l in other memory, with spare capacity that is full of marks.
func marked[T any](l []T, mark T) []T {
	l = append(make([]T, 0, len(l)+4), l...)
	spoil(l[len(l):cap(l)], mark)
	return l
}

// spoil overwrites a list and what is behind it.
func spoil[T any](l []T, x T) {
	l = l[:cap(l)]
	for i := range l {
		l[i] = x
	}
}

// roomy is f in other memory, where each list has marks behind it.
func roomy(f api.Flow) api.Flow {
	f.Tasks = marked(f.Tasks, api.Task{Name: "spare"})
	for v, t := range f.Tasks {
		f.Tasks[v].After = marked(t.After, -9)
	}
	return f
}

// whole is f with all that stands behind its lists.
func whole(f api.Flow) api.Flow {
	f.Tasks = slices.Clone(f.Tasks[:cap(f.Tasks)])
	for v, t := range f.Tasks {
		f.Tasks[v].After = slices.Clone(t.After[:cap(t.After)])
	}
	return f
}

// spoilFlow overwrites all lists of f, the tasks last.
func spoilFlow(f api.Flow) {
	for _, t := range f.Tasks {
		spoil(t.After, -7)
	}
	spoil(f.Tasks, api.Task{Name: "spoilt", After: []int{-7}})
}

// someFlows are also those that are refused, and those whose numbers are too great.
func someFlows() []api.Flow {
	l := append(overs(), example(), flowOf(), flowOf(task("a", 1)),
		flowOf(task("a", 2, 1, 2), task("b", 3, 3), task("c", 3, 3), task("d", 1)),
		flowOf(task("a", 4, 1), done(task("b", 9, 2)), done(task("c", 9)), task("d", 4)),
		flowOf(done(task("a", 1)), done(task("b", 2, 0)), done(task("c", most, 0, 1))),
		flowOf(task("a", 1), task("b", 2), task("c", 3, 1, 0)), flowOf(task("a", 1, 0)), flowOf(task("a", 1), task("a", 2)), api.Flow{})
	next := draws(3)
	for n := range 20 {
		l = append(l, drawn(next, n, 2, 5, 30))
	}
	return l
}

// calls are those that answer a list.
func calls() map[string]func(api.Flow) ([]int, api.Errno) {
	return map[string]func(api.Flow) ([]int, api.Errno){"Up": Up, "Down": Down, "Path": Path, "Order": Order}
}

func TestArgumentsAreNotChanged(t *testing.T) {
	for _, f := range someFlows() {
		g := roomy(f)
		want := whole(g)
		ask(g)
		for _, x := range g.Tasks {
			Weight(x)
		}
		if !reflect.DeepEqual(whole(g), want) {
			t.Errorf("%s has become %s", short(f), short(g))
		}
	}
}

// What is done to an argument later is nothing to a result.
func TestArgumentsAreNotKept(t *testing.T) {
	for _, f := range someFlows() {
		want := ask(f)
		g := roomy(f)
		got := ask(g)
		spoilFlow(g)
		if !reflect.DeepEqual(got, want) {
			t.Errorf("%s is spoilt, and the answers are %s; asked for: %s", short(f), short(got), short(want))
		}
	}
}

// What is done to a result is nothing to an argument.
func TestResultsAreNotArguments(t *testing.T) {
	for _, f := range someFlows() {
		g := roomy(f)
		want := whole(g)
		for name, call := range calls() {
			l, _ := call(g)
			spoil(l, -7)
			if !reflect.DeepEqual(whole(g), want) {
				t.Errorf("%s is spoilt, and %s has become %s", name, short(f), short(g))
			}
		}
	}
}

// Two results share nothing, whether they are those of one call or of several.
func TestResultsAreApart(t *testing.T) {
	for _, f := range someFlows() {
		want := ask(f)
		for name, call := range calls() {
			first := ask(f)
			l, _ := call(f)
			spoil(l, -7)
			if !reflect.DeepEqual(first, want) || !reflect.DeepEqual(ask(f), want) {
				t.Errorf("%s of %s is spoilt, and other answers as well", name, short(f))
			}
			for _, x := range [][]int{first.up.l, first.down.l, first.path.l, first.order.l} {
				kept := slices.Clone(x)
				again := ask(f)
				spoil(again.up.l, -5)
				spoil(again.down.l, -6)
				spoil(again.path.l, -7)
				spoil(again.order.l, -8)
				if !slices.Equal(x, kept) {
					t.Errorf("the answers of %s are spoilt, and earlier ones as well", short(f))
				}
			}
		}
	}
}

// Several workflows, and several tasks, may have one memory.
func TestFlowsThatShareMemory(t *testing.T) {
	shared := []api.Task{task("a", 3), task("b", 5), task("c", 2, 0, 1), task("d", 9, 2)}
	f, g := flowOf(shared[:3]...), flowOf(shared...)
	want := ask(example())
	check(t, "three of four", f, want)
	check(t, "four", g, told([]int{14, 16, 11, 9}, []int{0, 0, 5, 7}, []int{1, 2, 3}, []int{1, 0, 2, 3}, [4]int{16, 19, 19, 1}))
	check(t, "three of four again", f, want)
	after := append(make([]int, 0, 5), 0, 1)
	f = flowOf(task("a", 3), task("b", 5), task("c", 2), task("d", 4))
	f.Tasks[2].After, f.Tasks[3].After = after, after
	check(t, "one list for two", f, told([]int{7, 9, 2, 4}, []int{0, 0, 5, 5}, []int{1, 3}, []int{1, 0, 3, 2}, [4]int{9, 14, 14, 1}))
}
