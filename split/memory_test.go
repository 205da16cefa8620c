package split

import (
	"reflect"
	"slices"
	"testing"

	"timekeeper/api"
)

// fill overwrites l, and what is behind it.
func fill[T any](l []T, mark T) {
	l = l[:cap(l)]
	for i := range l {
		l[i] = mark
	}
}

// roomy is l in other memory, with marks behind it.
func roomy[T any](l []T, mark T) []T {
	other := make([]T, len(l)+3)
	fill(other, mark)
	return other[:copy(other, l)]
}

// roomyFlow is f in other memory, where each list has marks behind it.
func roomyFlow(f api.Flow) api.Flow {
	f.Tasks = roomy(f.Tasks, api.Task{Name: "spare", Wall: -9})
	for v := range f.Tasks {
		f.Tasks[v].After = roomy(f.Tasks[v].After, -9)
	}
	return f
}

// whole is f with what stands behind its lists, in other memory.
func whole(f api.Flow) api.Flow {
	f.Tasks = slices.Clone(f.Tasks[:cap(f.Tasks)])
	for v, t := range f.Tasks {
		f.Tasks[v].After = slices.Clone(t.After[:cap(t.After)])
	}
	return f
}

// fillFlow overwrites all lists of f, the tasks last.
func fillFlow(f api.Flow) {
	for _, t := range f.Tasks {
		fill(t.After, -7)
	}
	fill(f.Tasks, api.Task{Name: "spoilt", After: []int{-7}})
}

// fillAnswers overwrites the lists of a.
func fillAnswers(a answers) {
	fill(a.windows, api.Window{From: -7, By: -8})
	fill(a.shares, api.Window{From: -9, By: -10})
	fill(a.slack, -11)
}

// flows are some that are told of from 10 to 60, some that are late then, and some that are refused.
func flows() []api.Flow {
	l := append(bases(), flowOf(), flowOf(task("a", 1)), flowOf(task("a", 2, 1), done(task("b", 3, 2)), task("c", 3)),
		flowOf(task("a", 1, 0)), flowOf(task("a", 1), task("a", 2)), flowOf(task("a", 1), task("b", 2), task("c", 3, 1, 0)), api.Flow{})
	roll := dice(80)
	for n := range 20 {
		l = append(l, drawn(roll, n, 12))
	}
	return l
}

func TestArgumentsAreNotChanged(t *testing.T) {
	for _, f := range flows() {
		g := roomyFlow(f)
		want := whole(g)
		a := ask(g, 10, 60)
		for _, l := range [][]api.Window{a.windows, a.shares, slices.Repeat(windows(0, most), len(f.Tasks)), windows(3, 2)} {
			l = roomy(l, api.Window{From: -3, By: -4})
			kept := slices.Clone(l[:cap(l)])
			Holds(g, l)
			if !slices.Equal(l[:cap(l)], kept) {
				t.Errorf("of %s: the windows have become %v", brief(f), l)
			}
		}
		if !reflect.DeepEqual(whole(g), want) {
			t.Errorf("%s has become %s", brief(f), brief(g))
		}
	}
}

// What is done to an argument later is nothing to a result.
func TestArgumentsAreNotKept(t *testing.T) {
	for _, f := range flows() {
		g := roomyFlow(f)
		got := ask(g, 10, 60)
		fillFlow(g)
		if want := ask(f, 10, 60); !got.same(want) {
			t.Errorf("%s is spoilt, and the answers are %s; asked for: %s", brief(f), got, want)
		}
	}
}

// What is done to a result, and to what is behind it, is nothing to an argument.
func TestResultsAreNotArguments(t *testing.T) {
	for _, f := range flows() {
		g := roomyFlow(f)
		want := whole(g)
		fillAnswers(ask(g, 10, 60))
		if !reflect.DeepEqual(whole(g), want) {
			t.Errorf("the answers are spoilt, and %s has become %s", brief(f), brief(g))
		}
	}
}

// Two results share nothing, whether they are those of one call or of several.
func TestResultsAreApart(t *testing.T) {
	for _, f := range flows() {
		first := ask(f, 10, 60)
		kept := first
		kept.windows, kept.shares, kept.slack = slices.Clone(first.windows), slices.Clone(first.shares), slices.Clone(first.slack)
		fillAnswers(ask(f, 10, 60))
		if !first.same(kept) || !ask(f, 10, 60).same(kept) {
			t.Errorf("of %s: later answers are spoilt, and %s as well", brief(f), first)
		}
		fill(first.windows, api.Window{From: -7, By: -8})
		if !slices.Equal(first.shares, kept.shares) || !slices.Equal(first.slack, kept.slack) {
			t.Errorf("of %s: the windows are spoilt, and %s as well", brief(f), first)
		}
		fill(first.shares, api.Window{From: -9, By: -10})
		if !slices.Equal(first.slack, kept.slack) {
			t.Errorf("of %s: the shares are spoilt, and %s as well", brief(f), first)
		}
	}
}

// Workflows, tasks and windows may have one memory.
func TestArgumentsThatShareMemory(t *testing.T) {
	shared := []api.Task{task("a", 3), task("b", 5), task("c", 2, 0, 1), task("d", 9, 2)}
	three, four := flowOf(shared[:3]...), flowOf(shared...)
	want := answers{earliest: 17, windows: windows(10, 18, 10, 18, 15, 20), shares: windows(10, 14, 10, 17, 17, 20), slack: []int{5, 3, 3}}
	check(t, "three of four", three, 10, 20, want)
	check(t, "four", four, 10, 26, answers{
		earliest: 26, windows: windows(10, 15, 10, 15, 15, 17, 17, 26), shares: windows(10, 13, 10, 15, 15, 17, 17, 26), slack: []int{2, 0, 0, 0},
	})
	check(t, "three of four again", three, 10, 20, want)
	l := windows(10, 15, 10, 15, 15, 17, 17, 26, 0, 0)
	checkHolds(t, "four windows of five", four, l[:4], true)
	checkHolds(t, "three windows of five", three, l[:3], true)
}
