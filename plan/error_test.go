package plan

import (
	"math"
	"slices"
	"strings"
	"testing"

	"timekeeper/api"
	"timekeeper/flow"
)

// flaw makes something wrong that was right.
type flaw struct {
	what string
	e    api.Errno
	make func(r *request, starts *[]int)
}

// right is what no call refuses, with starts that hold.
func right() (request, []int) {
	r := request{example(), list(0, 3), 10, 20}
	r.f.Tasks = append(r.f.Tasks, done(task("d", 1, 1, 2)))
	return r, []int{15, 10, 18, -1}
}

func ofFlow(what string, e api.Errno, change func(f *api.Flow)) flaw {
	return flaw{what, e, func(r *request, _ *[]int) { change(&r.f) }}
}

// flowFlaws are those of flow.Check, in its order. None of them takes another one back.
func flowFlaws() []flaw {
	return []flaw{
		ofFlow("a workflow's name", api.ErrForm, func(f *api.Flow) { f.Name = "" }),
		ofFlow("a task's name", api.ErrForm, func(f *api.Flow) { f.Tasks[0].Name = "Child" }),
		ofFlow("another task's name", api.ErrForm, func(f *api.Flow) { f.Tasks[3].Name = "a b" }),
		ofFlow("a name that is too long", api.ErrForm, func(f *api.Flow) { f.Tasks[2].Name = strings.Repeat("c", api.MaxWord+1) }),
		ofFlow("a deadline below 0", api.ErrArg, func(f *api.Flow) { f.Deadline = -1 }),
		ofFlow("a deadline beyond all times", api.ErrArg, func(f *api.Flow) { f.Deadline = most + 1 }),
		ofFlow("a priority", api.ErrArg, func(f *api.Flow) { f.Priority = 1001 }),
		ofFlow("no nodes", api.ErrArg, func(f *api.Flow) { f.Tasks[1].Nodes = 0 }),
		ofFlow("nodes below 0", api.ErrArg, func(f *api.Flow) { f.Tasks[1].Nodes = math.MinInt }),
		ofFlow("too many nodes", api.ErrArg, func(f *api.Flow) { f.Tasks[3].Nodes = allNodes + 1 }),
		ofFlow("no Wall", api.ErrArg, func(f *api.Flow) { f.Tasks[0].Wall = 0 }),
		ofFlow("a Wall below 0", api.ErrArg, func(f *api.Flow) { f.Tasks[2].Wall = math.MinInt }),
		ofFlow("a Wall beyond all times", api.ErrArg, func(f *api.Flow) { f.Tasks[2].Wall = math.MaxInt }),
		ofFlow("a Retry", api.ErrArg, func(f *api.Flow) { f.Tasks[2].Retry = api.MaxRetry + 1 }),
		ofFlow("a name that is there twice", api.ErrTwice, func(f *api.Flow) { f.Tasks = append(f.Tasks, task("q", 1, 1), task("q", 1, 1)) }),
		ofFlow("too many tasks", api.ErrLong, func(f *api.Flow) { f.Tasks = append(f.Tasks, manyTasks(api.MaxTasks-3)...) }),
		ofFlow("a task that is waited for twice", api.ErrArg, func(f *api.Flow) { f.Tasks[2].After = []int{0, 0} }),
		ofFlow("tasks that are waited for backwards", api.ErrArg, func(f *api.Flow) { f.Tasks[2].After = []int{1, 0} }),
		ofFlow("a task that is waited for and is none", api.ErrArg, func(f *api.Flow) { f.Tasks[1].After = []int{len(f.Tasks)} }),
		ofFlow("a task below 0", api.ErrArg, func(f *api.Flow) { f.Tasks[3].After = []int{-1, 2} }),
		ofFlow("a task that waits for itself", api.ErrCycle, func(f *api.Flow) { f.Tasks[3].After = []int{3} }),
		ofFlow("tasks that wait for one another", api.ErrCycle, func(f *api.Flow) { f.Tasks[0].After = []int{2} }),
	}
}

// manyTasks are so many, with names of their own.
func manyTasks(n int) []api.Task {
	l := make([]api.Task, n)
	for i := range l {
		l[i] = task("t"+string(rune('一'+i)), 1, 1)
	}
	return l
}

// stepsFlaws are those of steps.Check.
func stepsFlaws() []flaw {
	var all []flaw
	for _, l := range [][]api.Step{
		nil, {}, list(1, 3), list(-1, 3), list(0, -1), list(0, allNodes+1), list(0, 3, 0, 2), list(0, 3, 5, 3), list(0, 3, 5, 2, 4, 3), list(0, 3, most+1, 4),
		list(0, 3, math.MaxInt, 4), list(0, math.MaxInt), list(0, 3, 5, math.MinInt), comb(api.MaxSteps + 1),
	} {
		all = append(all, flaw{"no profile " + short(l), api.ErrArg, func(r *request, _ *[]int) { r.l = l }})
	}
	return all
}

// timeFlaws are those of now, of by, or of both.
func timeFlaws(isNow bool, isBy bool) []flaw {
	var all []flaw
	for _, n := range notTimes() {
		if isNow {
			all = append(all, flaw{"now " + short(n), api.ErrArg, func(r *request, _ *[]int) { r.now = n }})
		}
		if isBy {
			all = append(all, flaw{"by " + short(n), api.ErrArg, func(r *request, _ *[]int) { r.by = n }})
		}
	}
	return all
}

// rankFlaw is that of rank.Order.
func rankFlaw() flaw {
	return ofFlow("a rank that is too great", api.ErrOver, func(f *api.Flow) {
		f.Tasks[0].Wall = most
	})
}

// startsFlaws are those of starts.
func startsFlaws() []flaw {
	var all []flaw
	for what, l := range map[string][]int{
		"no starts": nil, "too few starts": {15, 10, 18}, "too many starts": {15, 10, 18, -1, -1}, "a start of a done task": {15, 10, 18, 20}, "a start of a done task below": {15, 10, 18, -2},
		"a task without a start": {-1, 10, 18, -1}, "a start below 0": {15, -3, 18, -1}, "the least start": {15, math.MinInt, 18, -1}, "a start beyond all times": {15, 10, most + 1, -1},
		"an end beyond all times": {most - 2, 10, 18, -1}, "the greatest start": {15, 10, math.MaxInt, -1},
	} {
		all = append(all, flaw{what, api.ErrArg, func(_ *request, starts *[]int) { *starts = l }})
	}
	return all
}

func late(what string, change func(r *request, _ *[]int)) flaw {
	return flaw{what, api.ErrLate, change}
}

// lateFlaws come last: the first ones are told whatever the tasks are.
func lateFlaws() []flaw {
	return []flaw{
		late("now behind by", func(r *request, _ *[]int) { r.now, r.by = 21, 20 }),
		late("by ahead of now", func(r *request, _ *[]int) { r.by = 9 }),
		late("an end behind by", func(r *request, _ *[]int) { r.by = 19 }),
		late("no time at all", func(r *request, _ *[]int) { r.by = r.now }),
	}
}

// checkFlaws asks call for the error of each of these by itself, and for that of the first one of each two from different groups: it is made last, so that it stays.
func checkFlaws(t *testing.T, name string, call func(r request, starts []int) (bool, api.Errno), groups ...[]flaw) {
	t.Helper()
	if zero, e := call(right()); e != api.OK {
		t.Fatalf("%s: nothing is wrong, and the answer is nothing (%v), error %d", name, zero, e)
	}
	check := func(e api.Errno, flaws ...flaw) {
		r, starts := right()
		var what []string
		for _, x := range slices.Backward(flaws) {
			x.make(&r, &starts)
			what = append(what, x.what)
		}
		if zero, got := call(r, starts); got != e || !zero {
			t.Errorf("%s with %s: nothing beside it (%v), error %d; asked for: error %d", name, strings.Join(what, " and "), zero, got, e)
		}
	}
	all := slices.Concat(groups...)
	for _, x := range all {
		check(x.e, x)
	}
	for i, first := range groups {
		for _, second := range groups[i+1:] {
			for _, x := range first {
				for _, y := range second {
					check(x.e, x, y)
				}
			}
		}
	}
}

// flowGroups are the flaws of flow.Check in groups, of which the errors of an earlier one come first.
func flowGroups() [][]flaw {
	var groups [][]flaw
	for _, x := range flowFlaws() {
		if n := len(groups); n == 0 || groups[n-1][0].e != x.e {
			groups = append(groups, nil)
		}
		groups[len(groups)-1] = append(groups[len(groups)-1], x)
	}
	return groups
}

func TestErrorsOfForwardBackwardAndAdmit(t *testing.T) {
	groups := append(flowGroups(), stepsFlaws(), timeFlaws(true, true), []flaw{rankFlaw()}, lateFlaws())
	checkFlaws(t, "Forward", func(r request, _ []int) (bool, api.Errno) {
		starts, e := r.forward()
		return len(starts) == 0, e
	}, groups...)
	checkFlaws(t, "Backward", func(r request, _ []int) (bool, api.Errno) {
		starts, e := r.backward()
		return len(starts) == 0, e
	}, groups...)
	checkFlaws(t, "Admit", func(r request, _ []int) (bool, api.Errno) {
		starts, n, e := r.admit()
		return len(starts) == 0 && (n == 0 || e == api.ErrLate && n == max(r.now+10, 20)), e
	}, groups...)
}

func TestErrorsOfOffer(t *testing.T) {
	none := []flaw{
		late("too many nodes", func(r *request, _ *[]int) { r.l = list(0, 1) }),
		late("now too late", func(r *request, _ *[]int) { r.now = most - 9 }),
		late("no time", func(r *request, _ *[]int) { r.now = most }),
	}
	checkFlaws(t, "Offer", func(r request, _ []int) (bool, api.Errno) {
		n, e := r.offer()
		return n == 0, e
	}, append(flowGroups(), stepsFlaws(), timeFlaws(true, false), []flaw{rankFlaw()}, none)...)
}

func TestErrorsOfEnd(t *testing.T) {
	checkFlaws(t, "End", func(r request, starts []int) (bool, api.Errno) {
		n, e := r.end(starts)
		return n == 0, e
	}, append(flowGroups(), startsFlaws())...)
}

func TestErrorsOfTaken(t *testing.T) {
	room := []flaw{
		{"too few nodes", api.ErrRoom, func(r *request, _ *[]int) { r.l = list(0, 3, 18, 2, 19, 0) }},
		{"too few nodes for two", api.ErrRoom, func(_ *request, starts *[]int) { *starts = []int{14, 10, 18, -1} }},
	}
	checkFlaws(t, "Taken", func(r request, starts []int) (bool, api.Errno) {
		l, e := r.taken(starts)
		return len(l) == 0, e
	}, append(flowGroups(), stepsFlaws(), startsFlaws(), room)...)
}

func TestErrorsOfPull(t *testing.T) {
	hold := []flaw{
		{"too few nodes", api.ErrArg, func(r *request, _ *[]int) { r.l = list(0, 3, 18, 2, 19, 0) }},
		{"now behind a start", api.ErrArg, func(r *request, _ *[]int) { r.now = 11 }},
		{"two at a time", api.ErrArg, func(_ *request, starts *[]int) { *starts = []int{14, 10, 18, -1} }},
		{"a start ahead of an end", api.ErrArg, func(_ *request, starts *[]int) { *starts = []int{15, 10, 17, -1} }},
	}
	checkFlaws(t, "Pull", func(r request, starts []int) (bool, api.Errno) {
		l, e := r.pull(starts)
		return len(l) == 0, e
	}, append(flowGroups(), stepsFlaws(), timeFlaws(true, false), startsFlaws(), hold)...)
}

// Each flaw alone is enough for Holds to be false.
func TestHoldsWithFlaws(t *testing.T) {
	r, starts := right()
	if !r.holds(starts) {
		t.Errorf("%s: %v does not hold", r, starts)
	}
	for _, x := range slices.Concat(flowFlaws(), stepsFlaws(), timeFlaws(true, true), startsFlaws(), lateFlaws(), []flaw{rankFlaw()}) {
		r, starts := right()
		x.make(&r, &starts)
		if r.holds(starts) {
			t.Errorf("%s: it holds", x.what)
		}
	}
}

// An error of the workflow is told even if nothing else is right.
func TestAllWrong(t *testing.T) {
	for _, x := range flowFlaws() {
		r, starts := right()
		x.make(&r, &starts)
		want := flow.Check(r.f)
		r.l, r.now, r.by, starts = nil, math.MinInt, math.MaxInt, []int{math.MinInt}
		checkNone(t, r, want)
		_, e1 := r.offer()
		_, e2 := r.end(starts)
		_, e3 := r.taken(starts)
		_, e4 := r.pull(starts)
		if want != x.e || e1 != want || e2 != want || e3 != want || e4 != want || r.holds(starts) {
			t.Errorf("%s: errors %d %d %d %d; asked for: %d", x.what, e1, e2, e3, e4, x.e)
		}
	}
}
