package life

import (
	"fmt"
	"math"
	"slices"
	"strings"
	"testing"

	"timekeeper/api"
)

// wrong is what is asked: a workflow, its life, and a task.
type wrong struct {
	f api.Flow
	x api.Life
	v int
}

// flaw makes something wrong that was right.
type flaw struct {
	what string
	e    api.Errno
	make func(w *wrong)
}

// right has tasks in all states but Cancelled: 1 runs, 5 and 8 are ready, and 7 waits for 1.
func right(v int) wrong {
	f := flowOf(task("a", 2), task("b", 1, 0), task("c", 0, 0), task("d", 0, 2), done(task("e", 1, 2)), task("f", 0, 4), task("g", 0, 3), task("h", 0, 1), task("i", 1), done(task("j", 2)))
	return wrong{f, lifeOf("S1 R F1 D S W D W W1 S"), v}
}

func ofFlow(what string, e api.Errno, change func(f *api.Flow)) flaw {
	return flaw{what, e, func(w *wrong) { change(&w.f) }}
}

// manyTasks are so many, with names of their own.
func manyTasks(n int) []api.Task {
	l := make([]api.Task, n)
	for i := range l {
		l[i] = task(fmt.Sprint("t", i), 0)
	}
	return l
}

// flowGroups are the flaws of flow.Check, of which those of an earlier group come first.
func flowGroups() [][]flaw {
	return [][]flaw{
		{
			ofFlow("a workflow's name", api.ErrForm, func(f *api.Flow) { f.Name = "" }),
			ofFlow("a task's name", api.ErrForm, func(f *api.Flow) { f.Tasks[0].Name = "Child" }),
			ofFlow("a name that is too long", api.ErrForm, func(f *api.Flow) { f.Tasks[2].Name = strings.Repeat("c", api.MaxWord+1) }),
		}, {
			ofFlow("a deadline", api.ErrArg, func(f *api.Flow) { f.Deadline = -1 }),
			ofFlow("a priority", api.ErrArg, func(f *api.Flow) { f.Priority = 1001 }),
			ofFlow("no nodes", api.ErrArg, func(f *api.Flow) { f.Tasks[1].Nodes = 0 }),
			ofFlow("a Wall", api.ErrArg, func(f *api.Flow) { f.Tasks[2].Wall = math.MaxInt }),
			ofFlow("a Retry below 0", api.ErrArg, func(f *api.Flow) { f.Tasks[2].Retry = -1 }),
			ofFlow("a Retry beyond the greatest", api.ErrArg, func(f *api.Flow) { f.Tasks[4].Retry = api.MaxRetry + 1 }),
		}, {
			ofFlow("a name that is there twice", api.ErrTwice, func(f *api.Flow) { f.Tasks = append(f.Tasks, task("q", 0), task("q", 0)) }),
		}, {
			ofFlow("too many tasks", api.ErrLong, func(f *api.Flow) { f.Tasks = append(f.Tasks, manyTasks(api.MaxTasks-9)...) }),
		}, {
			ofFlow("a task that is waited for twice", api.ErrArg, func(f *api.Flow) { f.Tasks[2].After = []int{0, 0} }),
			ofFlow("tasks that are waited for backwards", api.ErrArg, func(f *api.Flow) { f.Tasks[2].After = []int{1, 0} }),
			ofFlow("a task that is waited for and is none", api.ErrArg, func(f *api.Flow) { f.Tasks[1].After = []int{len(f.Tasks)} }),
			ofFlow("a task below 0", api.ErrArg, func(f *api.Flow) { f.Tasks[3].After = []int{-1, 2} }),
		}, {
			ofFlow("a task that waits for itself", api.ErrCycle, func(f *api.Flow) { f.Tasks[5].After = []int{5} }),
			ofFlow("a done task that waits for itself", api.ErrCycle, func(f *api.Flow) { f.Tasks[9].After = []int{9} }),
			ofFlow("tasks that wait for one another", api.ErrCycle, func(f *api.Flow) { f.Tasks[0].After = []int{7} }),
			ofFlow("done tasks that wait for one another", api.ErrCycle, func(f *api.Flow) { f.Tasks[4].After, f.Tasks[9].After = []int{9}, []int{4} }),
		},
	}
}

// state and fails are flaws of one task of the life. Each breaks no other rule than the one that it tells.
func state(what string, v int, word string) flaw {
	return flaw{fmt.Sprint(what, ": task ", v, " is ", word), api.ErrArg, func(w *wrong) {
		w.x.State[v], w.x.Fails[v] = lifeOf(word).State[0], lifeOf(word).Fails[0]
	}}
}

func states(v int, n int) flaw {
	return flaw{fmt.Sprint("state of task ", v, " is ", n), api.ErrArg, func(w *wrong) { w.x.State[v] = n }}
}

func fails(v int, n int) flaw {
	return flaw{fmt.Sprint("fails of task ", v, " are ", n), api.ErrArg, func(w *wrong) { w.x.Fails[v] = n }}
}

func ofLife(what string, change func(x *api.Life)) flaw {
	return flaw{what, api.ErrArg, func(w *wrong) { change(&w.x) }}
}

// lengthFlaws are those of a life that is too short or too long.
func lengthFlaws() []flaw {
	return []flaw{
		ofLife("no life", func(x *api.Life) { *x = api.Life{} }),
		ofLife("no State", func(x *api.Life) { x.State = nil }),
		ofLife("no Fails", func(x *api.Life) { x.Fails = nil }),
		ofLife("a State fewer", func(x *api.Life) { x.State = x.State[:9] }),
		ofLife("Fails of one fewer", func(x *api.Life) { x.Fails = x.Fails[:9] }),
		ofLife("a task fewer", func(x *api.Life) { x.State, x.Fails = x.State[:9], x.Fails[:9] }),
		ofLife("a State more", func(x *api.Life) { x.State = append(x.State, api.Waiting) }),
		ofLife("Fails of one more", func(x *api.Life) { x.Fails = append(x.Fails, 0) }),
		ofLife("a task more", func(x *api.Life) { x.State, x.Fails = append(x.State, api.Waiting), append(x.Fails, 0) }),
	}
}

// lifeFlaws are the other ones of a life, each by itself.
func lifeFlaws() []flaw {
	return []flaw{
		states(5, -1), states(5, 6), states(8, math.MinInt), states(8, math.MaxInt), states(9, -2),
		fails(0, -1), fails(5, -1), fails(8, math.MinInt), fails(1, -1), fails(3, -1), fails(2, -1),
		fails(0, 3), fails(1, 2), fails(3, 1), fails(5, 1), fails(8, 2), fails(8, math.MaxInt),
		fails(2, 0), fails(2, 2), fails(2, math.MaxInt),
		fails(4, 1), fails(9, 1), fails(9, 2), fails(9, 3), fails(9, -1),
		state("done and waits", 9, "W"), state("done and runs", 9, "R"), state("done and failed", 9, "F3"), state("done and dead", 9, "D"), state("done and waits", 4, "W"), state("done and dead", 4, "D"),
		state("runs ahead of another", 7, "R"), state("failed ahead of another", 7, "F1"), state("succeeded ahead of another", 7, "S"),
		state("dead for no other", 5, "D"), state("dead for no other", 7, "D"), state("dead for no other", 8, "D"),
		state("not dead", 3, "W"), state("not dead, but another behind it", 6, "W"), state("runs behind a failed one", 3, "R"), state("succeeded behind a dead one", 6, "S"), state("failed behind a failed one", 3, "F1"),
		state("cancelled while others wait", 8, "C"), state("cancelled while others run", 5, "C"), state("cancelled, not dead", 6, "C"),
		ofLife("all waits, but what is done", func(x *api.Life) { *x = lifeOf("W W W W S W W W W W") }),
		ofLife("one still waits", func(x *api.Life) { *x = lifeOf("S1 C F1 D S C D C W1 S") }),
		ofLife("one still runs", func(x *api.Life) { *x = lifeOf("S1 R F1 D S C D C C1 S") }),
	}
}

// taskFlaws are tasks that are none, and those that are not in the state that is asked for.
func taskFlaws(others ...int) [][]flaw {
	var none, state []flaw
	for _, v := range []int{-1, 10, math.MinInt, math.MaxInt} {
		none = append(none, flaw{fmt.Sprint("task ", v), api.ErrNone, func(w *wrong) { w.v = v }})
	}
	for _, v := range others {
		state = append(state, flaw{fmt.Sprint("task ", v), api.ErrState, func(w *wrong) { w.v = v }})
	}
	return [][]flaw{none, state}
}

// checkFlaws asks call for the error of each of these by itself, and for that of the first one of each two from different groups: it is made last, so that it stays.
func checkFlaws(t *testing.T, name string, v int, call func(w wrong) (bool, api.Errno), groups ...[]flaw) {
	t.Helper()
	if _, e := call(right(v)); e != api.OK {
		t.Fatalf("%s: nothing is wrong, and the answer is error %d", name, e)
	}
	check := func(e api.Errno, flaws ...flaw) {
		w := right(v)
		var what []string
		for _, x := range slices.Backward(flaws) {
			x.make(&w)
			what = append(what, x.what)
		}
		if zero, got := call(w); got != e || !zero {
			t.Errorf("%s with %s: nothing beside it (%v), error %d; asked for: error %d", name, strings.Join(what, " and "), zero, got, e)
		}
	}
	for i, first := range groups {
		for _, x := range first {
			check(x.e, x)
			for _, second := range groups[i+1:] {
				for _, y := range second {
					check(x.e, x, y)
				}
			}
		}
	}
}

func isNothing(x api.Life) bool {
	return len(x.State) == 0 && len(x.Fails) == 0
}

func TestErrorsOfCheckReadyOpenAndCancel(t *testing.T) {
	groups := append(flowGroups(), slices.Concat(lengthFlaws(), lifeFlaws()))
	checkFlaws(t, "Check", 0, func(w wrong) (bool, api.Errno) {
		return true, Check(w.f, w.x)
	}, groups...)
	checkFlaws(t, "Ready", 0, func(w wrong) (bool, api.Errno) {
		l, e := Ready(w.f, w.x)
		return len(l) == 0, e
	}, groups...)
	checkFlaws(t, "Open", 0, func(w wrong) (bool, api.Errno) {
		n, e := Open(w.f, w.x)
		return n == 0, e
	}, groups...)
	checkFlaws(t, "Cancel", 0, func(w wrong) (bool, api.Errno) {
		x, e := Cancel(w.f, w.x)
		return isNothing(x), e
	}, groups...)
}

func TestErrorsOfBegin(t *testing.T) {
	checkFlaws(t, "Begin", 0, func(w wrong) (bool, api.Errno) {
		x, e := Begin(w.f)
		return isNothing(x), e
	}, flowGroups()...)
}

func TestErrorsOfStart(t *testing.T) {
	groups := slices.Concat(flowGroups(), [][]flaw{slices.Concat(lengthFlaws(), lifeFlaws())}, taskFlaws(0, 1, 2, 3, 4, 6, 7, 9))
	for _, v := range []int{5, 8} {
		checkFlaws(t, "Start", v, func(w wrong) (bool, api.Errno) {
			x, e := Start(w.f, w.x, w.v)
			return isNothing(x), e
		}, groups...)
	}
}

func TestErrorsOfSucceedFailAndAgain(t *testing.T) {
	groups := slices.Concat(flowGroups(), [][]flaw{slices.Concat(lengthFlaws(), lifeFlaws())}, taskFlaws(0, 2, 3, 4, 5, 6, 7, 8, 9))
	checkFlaws(t, "Succeed", 1, func(w wrong) (bool, api.Errno) {
		x, e := Succeed(w.f, w.x, w.v)
		return isNothing(x), e
	}, groups...)
	checkFlaws(t, "Again", 1, func(w wrong) (bool, api.Errno) {
		x, e := Again(w.f, w.x, w.v)
		return isNothing(x), e
	}, groups...)
	checkFlaws(t, "Fail", 1, func(w wrong) (bool, api.Errno) {
		x, died, e := Fail(w.f, w.x, w.v)
		return isNothing(x) && len(died) == 0, e
	}, groups...)
	// Without a Retry there would be dead ones to tell.
	checkFlaws(t, "Fail without a Retry", 1, func(w wrong) (bool, api.Errno) {
		if w.f.Tasks[1].Retry == 1 && len(w.x.Fails) > 1 && w.x.Fails[1] == 0 {
			w.x.Fails[1] = 1
		}
		x, died, e := Fail(w.f, w.x, w.v)
		return isNothing(x) && len(died) == 0, e
	}, groups...)
}

// All flaws at once: as those of one group after the other are mended, the next is told.
func TestAllWrong(t *testing.T) {
	groups := slices.Concat(flowGroups(), [][]flaw{lengthFlaws()}, taskFlaws(3))
	for i, first := range groups {
		w := right(1)
		for _, l := range slices.Backward(groups[i:]) {
			l[0].make(&w)
		}
		_, e1 := Start(w.f, w.x, w.v)
		_, e2 := Succeed(w.f, w.x, w.v)
		_, _, e3 := Fail(w.f, w.x, w.v)
		_, e4 := Again(w.f, w.x, w.v)
		if want := first[0].e; e1 != want || e2 != want || e3 != want || e4 != want {
			t.Errorf("%s first: errors %d %d %d %d; asked for: %d", first[0].what, e1, e2, e3, e4, want)
		}
	}
}
