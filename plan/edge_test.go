package plan

import (
	"math"
	"slices"
	"testing"

	"timekeeper/api"
)

// notTimes are numbers close to the times, and far from them.
func notTimes() []int {
	return []int{-1, -2, -most, most + 1, most + 2, 2 * most, math.MinInt, math.MinInt + 1, math.MaxInt, math.MaxInt - 1}
}

func TestFirstAndLastTimes(t *testing.T) {
	free := list(0, 3)
	for _, now := range []int{0, 1, most - 10, most - 5, most - 1, most} {
		checkForward(t, on(free, now, now), []int{}...)
		if now < most {
			checkForward(t, on(free, now, now+1, task("a", 1, 1)), now)
			checkForward(t, on(free, now, most, task("a", 1, 1)), now)
			checkBackward(t, on(free, now, now+1, task("a", 1, 1)), now)
			checkBackward(t, on(free, now, most, task("a", 1, 1)), most-1)
		}
		if now > 0 {
			checkOffered(t, on(free, now, now-1), now)
			checkOffered(t, on(free, now, 0), now)
			checkNotBackward(t, on(free, now, now-1), api.ErrLate)
			checkNotBackward(t, on(free, now, now-1, task("a", 1, 1)), api.ErrLate)
		}
	}
	for _, n := range notTimes() {
		for _, tasks := range [][]api.Task{nil, example().Tasks, {done(task("a", 1, 1))}} {
			for _, r := range []request{on(free, n, most, tasks...), on(free, n, n, tasks...), on(free, 0, n, tasks...), on(free, most, n, tasks...)} {
				checkNone(t, r, api.ErrArg)
			}
			r := on(free, n, most, tasks...)
			if at, e := r.offer(); at != 0 || e != api.ErrArg {
				t.Errorf("%s: Offer is %d, error %d", r, at, e)
			}
		}
	}
}

// Now is equal to by, just below, and just above it.
func TestNowAndBy(t *testing.T) {
	for _, now := range []int{0, 1, 7, most - 1} {
		one := []api.Task{task("a", 2, 1)}
		checkOffered(t, on(list(0, 2), now, now, one...), now+1)
		checkNone(t, on(list(0, 2), now, now, one...), api.ErrLate)
		checkForward(t, on(list(0, 2), now, now+1, one...), now)
		checkBackward(t, on(list(0, 2), now, now+1, one...), now)
		checkNone(t, on(list(0, 2), now+1, now, one...), api.ErrLate)
		checkNone(t, on(list(0, 2), now+1, now, done(one[0])), api.ErrLate)
		checkForward(t, on(list(0, 2), now, now, done(one[0])), -1)
		checkBackward(t, on(list(0, 2), now, now, done(one[0])), -1)
	}
	checkNoOffer(t, on(list(0, 2), most, most, task("a", 1, 1)), api.ErrLate)
	checkNoOffer(t, on(list(0, 2), most, most-1, task("a", 1, 1)), api.ErrLate)
}

// The end is just by, or one behind it, with each of several tasks as the last one.
func TestEndAtBy(t *testing.T) {
	for _, tasks := range [][]api.Task{
		{task("a", 1, 4)}, {task("a", 1, 3), task("b", 1, 1, 0)}, {task("a", 1, 1, 1), task("b", 1, 3)},
		{task("a", 1, 4), task("b", 1, 2)}, {task("a", 1, 2), task("b", 1, 4)}, {task("a", 2, 2), task("b", 2, 2)},
		{task("a", 2, 1), done(task("b", 2, 2, 0)), task("c", 2, 3, 1)},
	} {
		for _, now := range []int{0, 1, 50, most - 5, most - 4} {
			r := on(list(0, 2), now, now+4, tasks...)
			if starts, n, e := r.admit(); e != api.OK || n != now+4 {
				t.Errorf("%s: Admit is %v by %d, error %d", r, starts, n, e)
			}
			if starts, e := r.backward(); e != api.OK || !r.holds(starts) {
				t.Errorf("%s: Backward is %v, error %d", r, starts, e)
			}
			checkOffered(t, r.until(now+3), now+4)
			checkNotBackward(t, r.until(now+3), api.ErrLate)
		}
		// An end just at MaxTime was among them; here it would be one beyond.
		r := on(list(0, 2), most-3, most, tasks...)
		checkNoOffer(t, r, api.ErrLate)
		checkNotBackward(t, r, api.ErrLate)
	}
}

// The greatest Walls: they fit as long as the end is a time.
func TestGreatWalls(t *testing.T) {
	all := task("a", allNodes, most)
	checkForward(t, on(list(0, allNodes), 0, most, all), 0)
	checkBackward(t, on(list(0, allNodes), 0, most, all), 0)
	checkTaken(t, on(list(0, allNodes), 0, most, all), []int{0}, list(0, 0, most, allNodes))
	checkNoOffer(t, on(list(0, allNodes), 1, most, all), api.ErrLate)
	checkNone(t, on(list(0, allNodes), 0, most-1, all), api.ErrLate)
	checkNone(t, on(list(0, allNodes-1), 0, most, all), api.ErrLate)
	checkNone(t, on(list(0, allNodes, most-1, allNodes-1), 0, most, all), api.ErrLate)
	// What is free from MaxTime on is nothing to it.
	checkForward(t, on(list(0, allNodes, most, 0), 0, most, all), 0)
	checkTaken(t, on(list(0, allNodes, most, 0), 0, most, all), []int{0}, list(0, 0))
	two := []api.Task{task("a", 3, most-7), task("b", 2, 7, 0)}
	checkForward(t, on(list(0, 3), 0, most, two...), 0, most-7)
	checkBackward(t, on(list(0, 3), 0, most, two...), 0, most-7)
	checkNoOffer(t, on(list(0, 3), 1, most, two...), api.ErrLate)
	two[1].After = nil
	checkForward(t, on(list(0, 4), 0, most, two...), 0, most-7)
	checkBackward(t, on(list(0, 4), 0, most, two...), 0, most-7)
	checkForward(t, on(list(0, 5), 0, most, two...), 0, 0)
	// Each is a time, and both together are none, but they need not wait for one another.
	apart := []api.Task{task("a", 1, most), task("b", 1, most-1)}
	checkForward(t, on(list(0, 2), 0, most, apart...), 0, 0)
	checkBackward(t, on(list(0, 2), 0, most, apart...), 0, 1)
	checkNoOffer(t, on(list(0, 1), 0, most, apart...), api.ErrLate)
}

// Starts that are at the ends of all times, and beyond them.
func TestEndOfStarts(t *testing.T) {
	f := flowOf(task("a", 1, 3), done(task("b", 2, most)), task("c", 1, most, 1))
	for _, x := range []struct {
		starts []int
		want   int
		e      api.Errno
	}{
		{[]int{0, -1, 0}, most, api.OK}, {[]int{most - 3, -1, 0}, most, api.OK}, {[]int{7, -1, 0}, most, api.OK},
		{[]int{most - 2, -1, 0}, 0, api.ErrArg}, {[]int{most, -1, 0}, 0, api.ErrArg}, {[]int{most + 1, -1, 0}, 0, api.ErrArg},
		{[]int{0, -1, 1}, 0, api.ErrArg}, {[]int{0, -1, -1}, 0, api.ErrArg}, {[]int{-1, -1, 0}, 0, api.ErrArg}, {[]int{-2, -1, 0}, 0, api.ErrArg},
		{[]int{0, 0, 0}, 0, api.ErrArg}, {[]int{0, -2, 0}, 0, api.ErrArg}, {[]int{0, 1, 0}, 0, api.ErrArg}, {[]int{0, most, 0}, 0, api.ErrArg},
		{[]int{0, -1}, 0, api.ErrArg}, {[]int{0, -1, 0, 0}, 0, api.ErrArg}, {[]int{0, -1, 0, -1}, 0, api.ErrArg}, {nil, 0, api.ErrArg},
		{[]int{math.MinInt, -1, 0}, 0, api.ErrArg}, {[]int{math.MaxInt, -1, 0}, 0, api.ErrArg}, {[]int{0, math.MinInt, 0}, 0, api.ErrArg},
		{[]int{math.MaxInt - 2, -1, 0}, 0, api.ErrArg}, {[]int{-3, -1, 0}, 0, api.ErrArg},
	} {
		if n, e := End(f, x.starts); n != x.want || e != x.e {
			t.Errorf("End of %v is %d, error %d; asked for: %d, error %d", x.starts, n, e, x.want, x.e)
		}
	}
	for _, x := range []struct {
		f      api.Flow
		starts []int
		want   int
	}{
		{flowOf(), nil, 0}, {flowOf(), []int{}, 0}, {flowOf(done(task("a", 1, 5))), []int{-1}, 0}, {flowOf(done(task("a", 1, 5)), done(task("b", 1, 5, 0))), []int{-1, -1}, 0},
		{flowOf(task("a", 1, 5)), []int{0}, 5}, {flowOf(task("a", 1, 5)), []int{9}, 14}, {flowOf(task("a", 1, 9), task("b", 1, 2)), []int{1, 3}, 10},
		{flowOf(task("a", 1, 9), task("b", 1, 2)), []int{1, 9}, 11}, {flowOf(task("a", 1, 9), task("b", 1, 2, 0)), []int{5, 0}, 14},
	} {
		if n, e := End(x.f, x.starts); n != x.want || e != api.OK {
			t.Errorf("End of %v with %v is %d, error %d; asked for: %d", x.f, x.starts, n, e, x.want)
		}
	}
}

// Starts need not hold to leave something: only the nodes have to be free.
func TestTakenOfAnyStarts(t *testing.T) {
	r := on(list(0, 3, 10, 2, 20, 3), 50, 40, task("a", 1, 5, 1), task("b", 1, 5, 2), task("c", 1, 5))
	checkTaken(t, r, []int{0, 0, 0}, list(0, 0, 5, 3, 10, 2, 20, 3))
	checkTaken(t, r, []int{0, 5, 10}, list(0, 2, 10, 1, 15, 2, 20, 3))
	checkTaken(t, r, []int{8, 8, 30}, list(0, 3, 8, 1, 10, 0, 13, 2, 20, 3, 30, 2, 35, 3))
	checkTaken(t, r, []int{most - 5, 0, 20}, list(0, 2, 5, 3, 10, 2, 25, 3, most-5, 2, most, 3))
	checkTaken(t, r, []int{5, 0, 20}, list(0, 2, 25, 3))
}

// Too many nodes for one time are too many, whichever tasks need them.
func TestTakenWithoutRoom(t *testing.T) {
	r := on(list(0, 3, 10, 2, 20, 3), 0, most, task("a", 1, 5), task("b", 2, 5), done(task("c", 9, 99)))
	for a := range 30 {
		for b := range 30 {
			isRoom := true
			for at := range 40 {
				need := 0
				if a <= at && at < a+5 {
					need++
				}
				if b <= at && at < b+5 {
					need += 2
				}
				if need > 3 || need > 2 && 10 <= at && at < 20 {
					isRoom = false
				}
			}
			left, e := r.taken([]int{a, b, -1})
			if isRoom != (e == api.OK) || !isRoom && (e != api.ErrRoom || len(left) > 0) || isRoom != r.holds([]int{a, b, -1}) {
				t.Errorf("%s: with starts at %d and %d there is left %v, error %d", r, a, b, left, e)
			}
		}
	}
	// Far more than all nodes of any cluster.
	var many []api.Task
	for i := range 3000 {
		many = append(many, task("t"+string(rune('一'+i)), allNodes, most))
	}
	if left, e := Taken(flowOf(many...), list(0, allNodes), make([]int, 3000)); e != api.ErrRoom || len(left) > 0 {
		t.Errorf("%v, error %d", left, e)
	}
}

// Now and by are asked of Holds alone, and may be such that no task could start; where no task has to, this is nothing.
func TestHoldsAtTheEnds(t *testing.T) {
	f := flowOf(task("a", 1, 3), done(task("b", 1, 3)))
	for _, x := range []struct {
		now, by, start int
		want           bool
	}{
		{0, 3, 0, true}, {0, 2, 0, false}, {1, 3, 0, false}, {0, most, most - 3, true}, {0, most, most - 2, false}, {most - 3, most, most - 3, true},
		{most - 2, most, most - 3, false}, {5, 8, 5, true}, {5, 8, 4, false}, {5, 8, 6, false}, {8, 5, 5, false}, {8, 5, 8, false},
	} {
		if got := Holds(f, list(0, 1), x.now, x.by, []int{x.start, -1}); got != x.want {
			t.Errorf("Holds from %d by %d at %d is %v", x.now, x.by, x.start, got)
		}
	}
	for _, g := range []api.Flow{flowOf(), flowOf(done(task("a", 1, 3)), done(task("b", 2, 2, 0)))} {
		starts := slices.Repeat([]int{-1}, len(g.Tasks))
		for _, n := range []int{0, 1, most - 1, most} {
			if !Holds(g, list(0, 0), n, 0, starts) || !Holds(g, list(0, 0), 0, n, starts) || !Holds(g, list(0, 0), most, n, starts) {
				t.Errorf("%v does not hold from or by %d", g, n)
			}
		}
		for _, n := range notTimes() {
			if Holds(g, list(0, 0), n, most, starts) || Holds(g, list(0, 0), 0, n, starts) {
				t.Errorf("%v holds from or by %d", g, n)
			}
		}
	}
	for _, n := range notTimes() {
		if Holds(f, list(0, 1), n, most, []int{0, -1}) || Holds(f, list(0, 1), 0, n, []int{0, -1}) {
			t.Errorf("holds from or by %d", n)
		}
	}
}

// One after the other, tasks may take longer than any time: such starts leave something if they overlap, but don't hold.
func TestStartsWithoutRanks(t *testing.T) {
	r := on(list(0, 3), 0, most, task("a", 1, most), task("b", 1, most, 0), task("c", 1, 1, 1))
	starts := []int{0, 0, most - 1}
	checkTaken(t, r, starts, list(0, 1, most-1, 0, most, 3))
	if r.holds(starts) {
		t.Errorf("%s: %v hold", r, starts)
	}
	if pulled, e := r.pull(starts); e != api.ErrArg || len(pulled) > 0 {
		t.Errorf("%s: Pull is %v, error %d", r, pulled, e)
	}
	checkNone(t, r, api.ErrOver)
	checkNone(t, r.from(9).until(3), api.ErrOver)
}

func TestPullAtTheEnds(t *testing.T) {
	r := on(list(0, 2), 0, 0, task("a", 1, 3), task("b", 2, 2, 0))
	late := []int{most - 5, most - 2}
	checkPulled(t, r, late, []int{0, 3})
	checkPulled(t, r.from(most-6), late, []int{most - 6, most - 3})
	checkPulled(t, r.from(most-5), late, late)
	if pulled, e := r.from(most - 4).pull(late); e != api.ErrArg || len(pulled) > 0 {
		t.Errorf("Pull from behind the starts is %v, error %d", pulled, e)
	}
	checkPulled(t, r, []int{0, 3}, []int{0, 3})
	checkPulled(t, on(list(0, 0), most, 0, done(task("a", 1, 3))), []int{-1}, []int{-1})
	checkPulled(t, on(list(0, 0), most, 0), nil, nil)
	checkPulled(t, on(list(0, 2), 0, 0, task("a", 2, most)), []int{0}, []int{0})
	checkPulled(t, on(list(0, 1, 7, 2), 0, 0, task("a", 2, most-9)), []int{9}, []int{7})
}

// The last task's nodes are taken as well: with too many steps there is no answer, where one less would do.
func TestJustEnoughSteps(t *testing.T) {
	comb := comb(api.MaxSteps)
	end := 2 * api.MaxSteps
	f := flowOf(task("a", 1, 2), task("b", 1, 1, 0))
	// Each begins and ends within a step, and needs two more.
	for missing, want := range []api.Errno{api.ErrLong, api.ErrLong, api.OK, api.OK} {
		r := request{f, comb[:len(comb)-missing], end + 1, most}
		starts, e := r.forward()
		if e != want {
			t.Errorf("with %d steps: Forward is %v, error %d", len(r.l), starts, e)
		}
		if want == api.OK {
			checkForward(t, r, end+1, end+3)
			continue
		}
		checkNotForward(t, r, want)
		if n, e := r.offer(); n != 0 || e != want {
			t.Errorf("with %d steps: Offer is %d, error %d", len(r.l), n, e)
		}
		if left, e := r.taken([]int{end + 1, end + 3}); e != want || len(left) > 0 {
			t.Errorf("with %d steps: Taken has %d, error %d", len(r.l), len(left), e)
		}
		if r.holds([]int{end + 1, end + 3}) {
			t.Errorf("with %d steps: it holds", len(r.l))
		}
		checkNotBackward(t, r.until(end+10), want)
	}
}

// What needs too many steps is told by the task that needs them, and what does not fit by the one that does not.
func TestTooLateOrTooLong(t *testing.T) {
	end := 2 * api.MaxSteps
	long := task("b", 1, 1)
	wide := task("a", 3, 2)
	full := comb(api.MaxSteps)
	checkNotForward(t, on(full, end+1, most, wide, long), api.ErrLate)
	checkNotBackward(t, on(full, end+1, most, wide, long), api.ErrLong)
	wide.Wall = 1
	long.Wall = 2
	checkNotForward(t, on(full, end+1, most, wide, long), api.ErrLong)
	checkNotBackward(t, on(full, end+1, most, wide, long), api.ErrLate)
	// Too late for its first task by that time, which is told ahead of what comes by a later one.
	checkNoOffer(t, on(full, end+1, end+2, long), api.ErrLong)
	checkNotForward(t, on(full, end+1, end+3, long), api.ErrLong)
	checkNoOffer(t, on(full, end+1, end, long), api.ErrLong)
}

// Taken one by one, tasks may need more steps than together.
func TestStepsOfAllTasksTogether(t *testing.T) {
	full := comb(api.MaxSteps)
	r := on(full, 0, most, task("a", 1, 1), task("b", 1, 1))
	left, e := r.taken([]int{2, 3})
	if e != api.OK || len(left) > api.MaxSteps || left[0] != full[0] || left[1] != full[3] {
		t.Errorf("Taken has %d steps %v, error %d", len(left), left[:min(len(left), 5)], e)
	}
	if left, e := r.taken([]int{2, 5}); e != api.ErrLong || len(left) > 0 {
		t.Errorf("Taken has %d steps, error %d", len(left), e)
	}
	// Where too many steps are needed, and too many nodes as well, the nodes are told.
	if left, e := on(full, 0, most, task("a", 1, 1), task("b", 2, 1)).taken([]int{5, 4}); e != api.ErrRoom || len(left) > 0 {
		t.Errorf("Taken has %d steps, error %d", len(left), e)
	}
}

// Where a profile with all other tasks, or with the moved one, would have too many steps, Pull has no answer: starts that it returns always hold.
func TestPullWithoutSteps(t *testing.T) {
	tasks := []api.Task{task("a", 1, 1), task("b", 1, 1)}
	for _, x := range []struct {
		steps, now int
		starts     []int
		want       api.Errno
	}{
		{api.MaxSteps, 4, []int{4, 5}, api.ErrLong}, {api.MaxSteps - 1, 4, []int{4, 5}, api.OK},
		{api.MaxSteps, 1, []int{2, 3}, api.ErrLong}, {api.MaxSteps - 1, 1, []int{2, 3}, api.ErrLong}, {api.MaxSteps - 2, 1, []int{2, 3}, api.OK},
	} {
		r := on(comb(x.steps), x.now, most, tasks...)
		if !r.holds(x.starts) {
			t.Errorf("%s: %v does not hold", r, x.starts)
		}
		pulled, e := r.pull(x.starts)
		if e != x.want || (e == api.OK) != (len(pulled) > 0) {
			t.Errorf("%s: Pull of %v is %v, error %d; asked for: error %d", r, x.starts, pulled, e, x.want)
		}
		if e == api.OK {
			checkHolds(t, r, pulled)
		}
	}
}

// comb are n steps, one at each second time, with 1 and 2 free nodes in turn.
func comb(n int) []api.Step {
	l := make([]api.Step, n)
	for i := range l {
		l[i] = api.Step{At: 2 * i, Free: 1 + i%2}
	}
	return l
}
