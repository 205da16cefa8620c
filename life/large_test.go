package life

import (
	"fmt"
	"slices"
	"testing"

	"timekeeper/api"
)

// row are n tasks, each of which waits for the one before it; those whose index isDone accepts are done.
func row(n int, isDone func(v int) bool) api.Flow {
	f := flowOf(make([]api.Task, n)...)
	for v := range f.Tasks {
		f.Tasks[v] = task(fmt.Sprint("t", v), v%(api.MaxRetry+1))
		f.Tasks[v].Done = isDone(v)
		if v > 0 {
			f.Tasks[v].After = []int{v - 1}
		}
	}
	return f
}

func never(int) bool { return false }

// times are n numbers from first on, each so much greater than the one before it.
func times(n, first, step int) []int {
	l := make([]int, n)
	for i := range l {
		l[i] = first + i*step
	}
	return l
}

// failedAt makes v run and fail, and asks for those that die of it.
func failedAt(t *testing.T, f api.Flow, x api.Life, v int, want []int) api.Life {
	t.Helper()
	x, e1 := Start(f, x, v)
	x, died, e2 := Fail(f, x, v)
	if e1 != api.OK || e2 != api.OK || !slices.Equal(died, want) {
		t.Fatalf("Fail of %d of %d tasks: %s, errors %d %d; asked for: %s", v, len(f.Tasks), short(died), e1, e2, short(want))
	}
	for w, s := range x.State {
		if isDead := slices.Contains(want, w); isDead != (s == api.Dead) && w != v {
			t.Fatalf("Fail of %d of %d tasks: task %d is in state %d", v, len(f.Tasks), w, s)
		}
	}
	return x
}

func TestLongRow(t *testing.T) {
	n := api.MaxTasks
	f := row(n, never)
	x, e := Begin(f)
	if e != api.OK || !Same(x, api.Life{State: make([]int, n), Fails: make([]int, n)}) {
		t.Fatalf("Begin: %s, error %d", short(x), e)
	}
	checkStand(t, f, x, []int{0}, n)
	checkStand(t, f, failedAt(t, f, x, 0, times(n-1, 1, 1)), nil, 0)
	// All but the last one have succeeded.
	for v := range n - 1 {
		x.State[v] = api.Succeeded
	}
	x.Fails[n-1] = f.Tasks[n-1].Retry
	checkStand(t, f, x, []int{n - 1}, 1)
	checkStand(t, f, failedAt(t, f, x, n-1, nil), nil, 0)
	f = row(n+1, never)
	x = api.Life{State: make([]int, n+1), Fails: make([]int, n+1)}
	checkRefused(t, f, x, api.ErrLong, "begin", "start 0", "succeed 0", "fail 0", "again 0", "cancel")
	if e := Check(f, x); e != api.ErrLong {
		t.Errorf("Check of %d tasks: error %d", n+1, e)
	}
}

// From the begin to the end of a long row, task by task.
func TestWholeRow(t *testing.T) {
	n := 400
	f := row(n, never)
	x, _ := Begin(f)
	for v := range n {
		checkStand(t, f, x, []int{v}, n-v)
		x, _, _ = do(f, x, fmt.Sprint("start ", v))
		checkStand(t, f, x, nil, n-v)
		x, _, _ = do(f, x, fmt.Sprint("succeed ", v))
	}
	checkStand(t, f, x, nil, 0)
	if want := (api.Life{State: slices.Repeat([]int{api.Succeeded}, n), Fails: make([]int, n)}); !Same(x, want) {
		t.Errorf("at the end: %s", short(x))
	}
}

// A row of which every other task is done, and one of which all in the middle are.
func TestLongRowOfDoneTasks(t *testing.T) {
	n := api.MaxTasks
	f := row(n, func(v int) bool { return v%2 == 1 })
	x, _ := Begin(f)
	checkStand(t, f, x, times(n/2, 0, 2), n/2)
	checkStand(t, f, failedAt(t, f, x, 0, nil), times(n/2-1, 2, 2), n/2-1)
	f = row(n, func(v int) bool { return v > 0 && v < n-1 })
	x, _ = Begin(f)
	checkStand(t, f, x, []int{0, n - 1}, 2)
	checkStand(t, f, failedAt(t, f, x, 0, nil), []int{n - 1}, 1)
	f = row(n, func(v int) bool { return true })
	x, _ = Begin(f)
	checkStand(t, f, x, nil, 0)
}

// Many paths lead from the first layer to the last one, more than can be gone through one by one.
func TestManyPaths(t *testing.T) {
	for _, x := range []struct{ many, wide int }{{2048, 2}, {64, 64}, {3, 500}} {
		n := x.many * x.wide
		f := flowOf(make([]api.Task, n)...)
		for v := range f.Tasks {
			f.Tasks[v] = task(fmt.Sprint("t", v), 0)
			if layer := v / x.wide; layer > 0 {
				f.Tasks[v].After = times(x.wide, (layer-1)*x.wide, 1)
			}
		}
		y, _ := Begin(f)
		checkStand(t, f, y, times(x.wide, 0, 1), n)
		y = failedAt(t, f, y, x.wide-1, times(n-x.wide, x.wide, 1))
		checkStand(t, f, y, times(x.wide-1, 0, 1), x.wide-1)
		// The next one that fails has no others to take with it.
		y, e1 := Start(f, y, 0)
		y, died, e2 := Fail(f, y, 0)
		if e1 != api.OK || e2 != api.OK || len(died) > 0 || y.State[0] != api.Failed {
			t.Errorf("Fail: %s have died, errors %d %d", short(died), e1, e2)
		}
	}
}

// Each task waits for all before it: all the links that there can be.
func TestAllLinks(t *testing.T) {
	n := 1000
	f := flowOf(make([]api.Task, n)...)
	for v := range f.Tasks {
		f.Tasks[v] = task(fmt.Sprint("t", v), 0, times(v, 0, 1)...)
	}
	x, _ := Begin(f)
	checkStand(t, f, x, []int{0}, n)
	checkStand(t, f, failedAt(t, f, x, 0, times(n-1, 1, 1)), nil, 0)
}

// Much that is no workflow, and no life.
func TestMuchTooLarge(t *testing.T) {
	f := row(200000, never)
	x := api.Life{State: make([]int, 1000000), Fails: make([]int, 1000000)}
	checkRefused(t, f, x, api.ErrLong, "begin", "start 0", "succeed 0", "fail 0", "again 0", "cancel")
	f.Tasks = f.Tasks[:10]
	checkRefused(t, f, x, api.ErrArg, "start 0", "succeed 0", "fail 0", "again 0", "cancel")
	if l, e := Ready(f, x); len(l) > 0 || e != api.ErrArg {
		t.Errorf("Ready is %s, error %d", short(l), e)
	}
	if n, e := Open(f, x); n != 0 || e != api.ErrArg {
		t.Errorf("Open is %d, error %d", n, e)
	}
	if !Same(x, api.Life{State: make([]int, 1000000), Fails: make([]int, 1000000)}) || Same(x, api.Life{State: x.State, Fails: x.Fails[:999999]}) {
		t.Error("Same of a million tasks")
	}
}
