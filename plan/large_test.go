package plan

import (
	"fmt"
	"slices"
	"testing"

	"timekeeper/api"
	"timekeeper/steps"
)

// row are n tasks, each of which waits for the one before it; those whose index isDone accepts are done.
func row(n int, wall int, isDone func(v int) bool) []api.Task {
	l := make([]api.Task, n)
	for v := range l {
		l[v] = task(fmt.Sprint("t", v), 1+v%3, wall)
		l[v].Done = isDone(v)
		if v > 0 {
			l[v].After = []int{v - 1}
		}
	}
	return l
}

func never(int) bool { return false }

// times are n numbers, each so much greater than the one before it.
func times(n, first, step int) []int {
	l := make([]int, n)
	for v := range l {
		l[v] = first + v*step
	}
	return l
}

func TestLongRow(t *testing.T) {
	n := api.MaxTasks
	r := on(list(0, 3), 5, 5+2*n, row(n, 2, never)...)
	checkForward(t, r, times(n, 5, 2)...)
	checkBackward(t, r, times(n, 5, 2)...)
	checkBackward(t, r.until(most), times(n, most-2*n, 2)...)
	checkPulled(t, r, times(n, 1000, 3), times(n, 5, 2))
	checkNone(t, r.until(r.by-1), api.ErrLate)
	starts, by, e := r.until(r.by - 1).admit()
	if len(starts) > 0 || by != r.by || e != api.ErrLate {
		t.Errorf("Admit is %s by %d, error %d", short(starts), by, e)
	}
	r = on(list(0, 3), 5, most, row(n+1, 2, never)...)
	checkNone(t, r, api.ErrLong)
	if n, e := r.offer(); n != 0 || e != api.ErrLong {
		t.Errorf("Offer is %d, error %d", n, e)
	}
	if n, e := r.end(times(n+1, 5, 2)); n != 0 || e != api.ErrLong {
		t.Errorf("End is %d, error %d", n, e)
	}
	if l, e := r.pull(times(n+1, 5, 2)); len(l) > 0 || e != api.ErrLong {
		t.Errorf("Pull is %s, error %d", short(l), e)
	}
	if l, e := r.taken(times(n+1, 5, 2)); len(l) > 0 || e != api.ErrLong || r.holds(times(n+1, 5, 2)) {
		t.Errorf("Taken is %s, error %d", short(l), e)
	}
}

// A row that takes all times there are.
func TestRowOfAllTimes(t *testing.T) {
	n := api.MaxTasks
	wall := most / n
	r := on(list(0, 3), 0, most, row(n, wall, never)...)
	checkForward(t, r, times(n, 0, wall)...)
	checkBackward(t, r, times(n, most-n*wall, wall)...)
	checkNone(t, r.from(most-n*wall+1), api.ErrLate)
}

// Over many tasks that are done, one behind the other.
func TestLongRowOfDoneTasks(t *testing.T) {
	n := api.MaxTasks
	r := on(list(0, 3), 5, most, row(n, 2, func(v int) bool { return v > 0 && v < n-1 })...)
	want := slices.Repeat([]int{-1}, n)
	want[0], want[n-1] = 5, 7
	checkForward(t, r, want...)
	want[0], want[n-1] = most-4, most-2
	checkBackward(t, r, want...)
	want[0], want[n-1] = most-4, most-3
	if r.holds(want) {
		t.Errorf("%s: a task starts ahead of the end of the first one", r)
	}
	r = on(list(0, 3), 5, most, row(n, 2, func(v int) bool { return v%2 == 1 })...)
	for v := range want {
		want[v] = 5 + v
		if v%2 == 1 {
			want[v] = -1
		}
	}
	checkForward(t, r, want...)
}

// layers are so many layers of so many tasks, each of which waits for all of the layer before it. All but the first and the last one are done.
func layers(many, wide int) []api.Task {
	var l []api.Task
	for i := range many {
		for k := range wide {
			x := task(fmt.Sprint("t", i, "-", k), 1, 1+k)
			x.Done = i > 0 && i < many-1
			if i > 0 {
				x.After = times(wide, (i-1)*wide, 1)
			}
			l = append(l, x)
		}
	}
	return l
}

// There are more ways over done tasks than can be gone through one by one.
func TestManyWaysOverDoneTasks(t *testing.T) {
	for _, x := range []struct{ many, wide int }{{2048, 2}, {64, 64}, {3, 500}} {
		r := on(list(0, x.wide), 0, most, layers(x.many, x.wide)...)
		n := len(r.f.Tasks)
		want := slices.Repeat([]int{-1}, n)
		for k := range x.wide {
			want[k], want[n-1-k] = 0, x.wide
		}
		checkForward(t, r, want...)
		for k := range x.wide {
			// The last layer begins with its longest task, and the first one ends then.
			want[n-x.wide+k] = most - (1 + k)
			want[k] = most - x.wide - (1 + k)
		}
		checkBackward(t, r, want...)
	}
}

// Each task waits for all before it: all the links that there can be.
func TestAllLinks(t *testing.T) {
	n := 1000
	tasks := make([]api.Task, n)
	for v := range tasks {
		tasks[v] = task(fmt.Sprint("t", v), allNodes, 3, times(v, 0, 1)...)
	}
	r := on(list(0, allNodes), 1, most, tasks...)
	checkForward(t, r, times(n, 1, 3)...)
	checkBackward(t, r, times(n, most-3*n, 3)...)
}

// Many tasks of which only one can run at a time, between the steps of a profile that has as many as it may have then.
func TestManySteps(t *testing.T) {
	n := 1000
	l := comb(api.MaxSteps - n)
	tasks := make([]api.Task, n)
	for v := range tasks {
		tasks[v] = task(fmt.Sprint("t", v), 2, 1)
	}
	r := on(l, 0, most, tasks...)
	want := make([]int, n)
	at := 2
	for v := range want {
		want[v] = at
		// At the first time of two there are two nodes, and then once more.
		if at++; at%4 == 0 {
			at += 2
		}
	}
	checkForward(t, r, want...)
	left, e := r.taken(want)
	if e != api.OK || steps.Check(left) != api.OK {
		t.Errorf("Taken is %s, error %d", short(left), e)
	}
	checkPulled(t, r, times(n, 2*len(l)+1, 1), want)
	if _, e := r.taken(times(n, 2*len(l)+1, 5)); e != api.ErrLong {
		t.Errorf("Taken with two steps more for each task: error %d", e)
	}
	r.l = comb(api.MaxSteps + 1)
	checkNone(t, r, api.ErrArg)
}

// Much that is no workflow, no profile, and no starts.
func TestMuchTooLarge(t *testing.T) {
	many := row(200000, 1, never)
	r := on(comb(500000), 0, most, many...)
	checkNone(t, r, api.ErrLong)
	r.f.Tasks = many[:10]
	checkNone(t, r, api.ErrArg)
	r.l = comb(100)
	starts := make([]int, 1000000)
	if n, e := r.end(starts); n != 0 || e != api.ErrArg {
		t.Errorf("End is %d, error %d", n, e)
	}
	if l, e := r.taken(starts); len(l) > 0 || e != api.ErrArg || r.holds(starts) {
		t.Errorf("Taken is %s, error %d", short(l), e)
	}
	if l, e := r.pull(starts); len(l) > 0 || e != api.ErrArg {
		t.Errorf("Pull is %s, error %d", short(l), e)
	}
}
