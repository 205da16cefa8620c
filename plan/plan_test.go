package plan

import (
	"fmt"
	"slices"
	"testing"

	"timekeeper/api"
	"timekeeper/flow"
	"timekeeper/rank"
	"timekeeper/steps"
)

const (
	most     = api.MaxTime
	allNodes = api.MaxNodes
)

// list are the steps of each two of these numbers, an At and a Free.
func list(numbers ...int) []api.Step {
	var l []api.Step
	for pair := range slices.Chunk(numbers, 2) {
		l = append(l, api.Step{At: pair[0], Free: pair[1]})
	}
	return l
}

func task(name string, nodes int, wall int, after ...int) api.Task {
	return api.Task{Name: name, Nodes: nodes, Wall: wall, After: after}
}

// done is t, done. It still has its nodes and its Wall, which are nothing any more.
func done(t api.Task) api.Task {
	t.Done = true
	return t
}

func flowOf(tasks ...api.Task) api.Flow {
	return api.Flow{Name: "w", Tasks: tasks}
}

// example is the workflow of the chapter, and the seventh one of the whole.
func example() api.Flow {
	return flowOf(task("a", 2, 3), task("b", 2, 5), task("c", 1, 2, 0, 1))
}

// request is what is asked: a workflow is to be done on a profile, from now on and by a time.
type request struct {
	f       api.Flow
	l       []api.Step
	now, by int
}

// on is the workflow of these tasks on a profile.
func on(l []api.Step, now int, by int, tasks ...api.Task) request {
	return request{flowOf(tasks...), l, now, by}
}

func (r request) forward() ([]int, api.Errno)    { return Forward(r.f, r.l, r.now, r.by) }
func (r request) backward() ([]int, api.Errno)   { return Backward(r.f, r.l, r.now, r.by) }
func (r request) offer() (int, api.Errno)        { return Offer(r.f, r.l, r.now) }
func (r request) admit() ([]int, int, api.Errno) { return Admit(r.f, r.l, r.now, r.by) }

func (r request) end(starts []int) (int, api.Errno)          { return End(r.f, starts) }
func (r request) taken(starts []int) ([]api.Step, api.Errno) { return Taken(r.f, r.l, starts) }
func (r request) holds(starts []int) bool                    { return Holds(r.f, r.l, r.now, r.by, starts) }
func (r request) pull(starts []int) ([]int, api.Errno)       { return Pull(r.f, r.l, r.now, starts) }

// until is r by another time.
func (r request) until(by int) request {
	r.by = by
	return r
}

// from is r from another time on.
func (r request) from(now int) request {
	r.now = now
	return r
}

// String leaves out most of what is very long.
func (r request) String() string {
	return fmt.Sprintf("%d tasks %.300s from %d by %d in %d steps %v", len(r.f.Tasks), fmt.Sprint(r.f.Tasks), r.now, r.by, len(r.l), r.l[:min(len(r.l), 30)])
}

// short is the text of x, but not all of it if x is long.
func short(x any) string {
	return fmt.Sprintf("%.300s", fmt.Sprint(x))
}

// lastEnd is End, task by task.
func lastEnd(f api.Flow, starts []int) int {
	last := 0
	for v, t := range f.Tasks {
		if !t.Done && starts[v]+t.Wall > last {
			last = starts[v] + t.Wall
		}
	}
	return last
}

// checkHolds asks that these starts can be kept, and leave a profile.
func checkHolds(t *testing.T, r request, starts []int) {
	t.Helper()
	if !r.holds(starts) {
		t.Errorf("%s: starts %s do not hold", r, short(starts))
	}
	if n, e := r.end(starts); n != lastEnd(r.f, starts) || e != api.OK {
		t.Errorf("%s: End of starts %s is %d, error %d", r, short(starts), n, e)
	}
	left, e := r.taken(starts)
	if e != api.OK || steps.Check(left) != api.OK {
		t.Errorf("%s: starts %s leave %s, error %d", r, short(starts), short(left), e)
	}
}

// checkForward asks for these starts of Forward, and for what Admit and Offer tell of them.
func checkForward(t *testing.T, r request, want ...int) {
	t.Helper()
	starts, e := r.forward()
	if e != api.OK || !slices.Equal(starts, want) {
		t.Errorf("%s: Forward is %s, error %d; asked for: %s", r, short(starts), e, short(want))
		return
	}
	checkHolds(t, r, want)
	end := max(r.now, lastEnd(r.f, want))
	if starts, n, e := r.admit(); e != api.OK || n != end || !slices.Equal(starts, want) {
		t.Errorf("%s: Admit is %s by %d, error %d; asked for: %s by %d", r, short(starts), n, e, short(want), end)
	}
	if n, e := r.offer(); n != end || e != api.OK {
		t.Errorf("%s: Offer is %d, error %d; asked for: %d", r, n, e, end)
	}
	checkPulled(t, r, want, want)
}

// checkBackward asks for these starts of Backward.
func checkBackward(t *testing.T, r request, want ...int) {
	t.Helper()
	starts, e := r.backward()
	if e != api.OK || !slices.Equal(starts, want) {
		t.Errorf("%s: Backward is %s, error %d; asked for: %s", r, short(starts), e, short(want))
		return
	}
	checkHolds(t, r, want)
}

// checkPulled asks for these starts of Pull.
func checkPulled(t *testing.T, r request, starts []int, want []int) {
	t.Helper()
	pulled, e := r.pull(starts)
	if e != api.OK || !slices.Equal(pulled, want) {
		t.Errorf("%s: Pull of %s is %s, error %d; asked for: %s", r, short(starts), short(pulled), e, short(want))
		return
	}
	checkHolds(t, r.until(most), want)
}

// checkNone asks for an error of Forward and Backward, which Admit has as well.
func checkNone(t *testing.T, r request, want api.Errno) {
	t.Helper()
	checkNotForward(t, r, want)
	checkNotBackward(t, r, want)
}

func checkNotBackward(t *testing.T, r request, want api.Errno) {
	t.Helper()
	if starts, e := r.backward(); e != want || len(starts) > 0 {
		t.Errorf("%s: Backward is %s, error %d; asked for: error %d", r, short(starts), e, want)
	}
}

func checkNotForward(t *testing.T, r request, want api.Errno) {
	t.Helper()
	if starts, e := r.forward(); e != want || len(starts) > 0 {
		t.Errorf("%s: Forward is %s, error %d; asked for: error %d", r, short(starts), e, want)
	}
	starts, n, e := r.admit()
	if e != want || len(starts) > 0 || e != api.ErrLate && n != 0 {
		t.Errorf("%s: Admit is %s by %d, error %d; asked for: error %d", r, short(starts), n, e, want)
	}
}

// checkOffered asks that r is too late for Forward, and that this time is offered and accepted, but no earlier one.
func checkOffered(t *testing.T, r request, want int) {
	t.Helper()
	checkNotForward(t, r, api.ErrLate)
	if _, n, _ := r.admit(); n != want {
		t.Errorf("%s: Admit offers %d; asked for: %d", r, n, want)
	}
	if n, e := r.offer(); n != want || e != api.OK {
		t.Errorf("%s: Offer is %d, error %d; asked for: %d", r, n, e, want)
	}
	if r.by >= want {
		t.Errorf("%s: %d is no later", r, want)
	}
	for by := want; by <= most; by += 1 + (most-want)/3 {
		if starts, n, e := r.until(by).admit(); n != want || e != api.OK {
			t.Errorf("%s: %d was offered, and for %d Admit is %s by %d, error %d", r, want, by, short(starts), n, e)
		}
	}
	if want > 0 {
		checkNotForward(t, r.until(want-1), api.ErrLate)
	}
}

// checkNoOffer asks that r is too late for Forward, and will be too late by any time.
func checkNoOffer(t *testing.T, r request, want api.Errno) {
	t.Helper()
	checkNotForward(t, r, api.ErrLate)
	if _, n, _ := r.admit(); n != 0 {
		t.Errorf("%s: Admit offers %d", r, n)
	}
	if n, e := r.offer(); n != 0 || e != want {
		t.Errorf("%s: Offer is %d, error %d; asked for: error %d", r, n, e, want)
	}
}

// checkTaken asks for what these starts leave.
func checkTaken(t *testing.T, r request, starts []int, want []api.Step) {
	t.Helper()
	if left, e := r.taken(starts); e != api.OK || !slices.Equal(left, want) {
		t.Errorf("%s: Taken of %s is %s, error %d; asked for: %s", r, short(starts), short(left), e, short(want))
	}
}

func TestExampleOfTheChapter(t *testing.T) {
	r := request{example(), list(0, 3), 10, 20}
	checkForward(t, r, 15, 10, 18)
	checkTaken(t, r, []int{15, 10, 18}, list(0, 3, 10, 1, 18, 2, 20, 3))
	checkOffered(t, r.until(19), 20)
	checkForward(t, r.until(most), 15, 10, 18)
	checkBackward(t, r, 15, 10, 18)
	checkNotBackward(t, r.until(19), api.ErrLate)
	checkBackward(t, r.until(30), 25, 20, 28)
}

// The ninth example of the whole: two workflows with one task each.
func TestExampleOfTheWhole(t *testing.T) {
	r := on(list(0, 2), 0, 9, task("t", 2, 5))
	checkForward(t, r, 0)
	left, _ := r.taken([]int{0})
	r.l = left
	checkOffered(t, r, 10)
	checkForward(t, r.until(10), 5)
	checkBackward(t, r.until(10), 5)
}

func TestNoTask(t *testing.T) {
	for _, l := range [][]api.Step{list(0, 0), list(0, allNodes), list(0, 3, 10, 1)} {
		for _, now := range []int{0, 1, 10, most} {
			for _, r := range []request{on(l, now, now), on(l, now, most)} {
				checkForward(t, r)
				checkBackward(t, r)
				checkTaken(t, r, nil, l)
			}
		}
	}
	checkOffered(t, on(list(0, 3), 7, 6), 7)
	checkNotBackward(t, on(list(0, 3), 7, 6), api.ErrLate)
}

func TestOneTask(t *testing.T) {
	l := list(0, 4, 10, 1, 20, 4)
	for _, x := range []struct{ nodes, wall, now, by, first, last int }{
		{2, 5, 5, 40, 5, 35}, {2, 8, 5, 40, 20, 32}, {2, 10, 0, 40, 0, 30}, {2, 11, 0, 40, 20, 29},
		{1, 20, 3, 40, 3, 20}, {4, 1, 9, 21, 9, 20}, {4, 1, 10, 21, 20, 20}, {4, 10, 0, 20, 0, 0}, {1, 7, 12, 19, 12, 12},
	} {
		r := on(l, x.now, x.by, task("a", x.nodes, x.wall))
		checkForward(t, r, x.first)
		checkBackward(t, r, x.last)
	}
	checkOffered(t, on(l, 5, 27, task("a", 2, 8)), 28)
	checkOffered(t, on(l, 5, 27, task("a", 2, 11)), 31)
	checkNoOffer(t, on(l, 0, most, task("a", 5, 1)), api.ErrLate)
	checkNone(t, on(l, 0, most, task("a", 5, 1)), api.ErrLate)
	checkNone(t, on(l, 5, 27, task("a", 2, 8)), api.ErrLate)
	checkNone(t, on(l, 10, 20, task("a", 2, 1)), api.ErrLate)
}

func TestChains(t *testing.T) {
	r := on(list(0, 5), 3, 20, task("a", 2, 2), task("b", 3, 4, 0), task("c", 1, 1, 1))
	checkForward(t, r, 3, 5, 9)
	checkBackward(t, r, 13, 15, 19)
	checkTaken(t, r, []int{3, 5, 9}, list(0, 5, 3, 3, 5, 2, 9, 4, 10, 5))
	checkOffered(t, r.until(9), 10)
	checkNone(t, r.until(9), api.ErrLate)
	// The other way round in f.
	r = on(list(0, 5), 3, 20, task("a", 2, 2, 1), task("b", 3, 4, 2), task("c", 1, 1))
	checkForward(t, r, 8, 4, 3)
	checkBackward(t, r, 18, 14, 13)
	// With a gap that only the first one fits into.
	r.l = list(0, 1, 5, 0, 9, 3)
	checkForward(t, r, 13, 9, 3)
	checkBackward(t, r, 18, 14, 13)
	checkBackward(t, r.until(15), 13, 9, 4)
	checkNotBackward(t, r.until(14), api.ErrLate)
}

func TestForksAndJoins(t *testing.T) {
	fork := []api.Task{task("a", 1, 2), task("b", 2, 3, 0), task("c", 2, 4, 0), task("d", 2, 1, 0)}
	checkForward(t, on(list(0, 4), 0, 30, fork...), 0, 2, 2, 5)
	checkBackward(t, on(list(0, 4), 0, 30, fork...), 23, 27, 25, 29)
	checkForward(t, on(list(0, 6), 0, 30, fork...), 0, 2, 2, 2)
	checkBackward(t, on(list(0, 6), 0, 30, fork...), 24, 27, 26, 29)
	checkForward(t, on(list(0, 3), 0, 30, fork...), 0, 6, 2, 9)
	join := []api.Task{task("a", 1, 2, 1, 2, 3), task("b", 2, 3), task("c", 2, 4), task("d", 2, 1)}
	checkForward(t, on(list(0, 4), 1, 30, join...), 5, 1, 1, 4)
	checkBackward(t, on(list(0, 4), 1, 30, join...), 28, 25, 23, 27)
	checkForward(t, on(list(0, 3), 1, 30, join...), 9, 5, 1, 8)
	both := []api.Task{task("a", 3, 1), task("b", 1, 5, 0), task("c", 1, 2, 0), task("d", 2, 2, 2), task("e", 3, 1, 1, 3)}
	checkForward(t, on(list(0, 3), 0, 7, both...), 0, 1, 1, 3, 6)
	checkBackward(t, on(list(0, 3), 0, 9, both...), 2, 3, 4, 6, 8)
	checkOffered(t, on(list(0, 3), 0, 6, both...), 7)
	checkOffered(t, on(list(0, 2, 4, 3), 0, 10, both...), 11)
}

// The tasks come in the order of their ranks: one with more behind it is placed ahead of others, and one may fit ahead of those.
func TestOrderOfRanks(t *testing.T) {
	checkForward(t, on(list(0, 1), 0, 20, task("a", 1, 2), task("b", 1, 3)), 3, 0)
	checkBackward(t, on(list(0, 1), 0, 20, task("a", 1, 2), task("b", 1, 3)), 18, 15)
	checkForward(t, on(list(0, 1), 0, 20, task("a", 1, 2), task("b", 1, 2)), 0, 2)
	checkBackward(t, on(list(0, 1), 0, 20, task("a", 1, 2), task("b", 1, 2)), 16, 18)
	checkForward(t, on(list(0, 2), 0, 20, task("a", 1, 1), task("b", 2, 3), task("c", 1, 4)), 0, 4, 0)
	checkForward(t, on(list(0, 1, 2, 2), 0, 20, task("a", 2, 3), task("b", 1, 2)), 2, 0)
	checkForward(t, on(list(0, 2), 0, 20, task("a", 2, 1), task("b", 1, 1, 0), task("c", 1, 2)), 0, 1, 1)
	// With the same rank in the order of dag, where a comes behind c.
	checkForward(t, on(list(0, 1), 0, 20, task("a", 1, 2, 1), task("b", 1, 1), task("c", 1, 2)), 1, 0, 3)
	checkForward(t, on(list(0, 1), 0, 20, task("a", 1, 2, 2), task("b", 1, 2), task("c", 1, 1)), 3, 1, 0)
}

// What waits for a done task waits for what that one waits for, over any number of them.
func TestOverDoneTasks(t *testing.T) {
	one := []api.Task{task("a", 1, 4), done(task("b", 5, 9, 0)), task("c", 1, 2, 1)}
	checkForward(t, on(list(0, 2), 1, 20, one...), 1, -1, 5)
	checkBackward(t, on(list(0, 2), 1, 20, one...), 14, -1, 18)
	checkTaken(t, on(list(0, 2), 1, 20, one...), []int{1, -1, 5}, list(0, 2, 1, 1, 7, 2))
	checkOffered(t, on(list(0, 2), 1, 6, one...), 7)
	checkNone(t, on(list(0, 2), 1, 6, one...), api.ErrLate)
	several := []api.Task{task("a", 1, 1, 3), done(task("b", 1, most, 4)), done(task("c", 1, most, 1)), done(task("d", 1, most, 2)), task("e", 1, 3)}
	checkForward(t, on(list(0, 2), 0, 9, several...), 3, -1, -1, -1, 0)
	checkBackward(t, on(list(0, 2), 0, 9, several...), 8, -1, -1, -1, 5)
	checkNone(t, on(list(0, 2), 0, 3, several...), api.ErrLate)
	// Over a done one, and without it.
	ways := []api.Task{task("a", 1, 3), task("b", 1, 5), done(task("c", 1, 1, 0, 1)), task("d", 1, 1, 0, 2)}
	checkForward(t, on(list(0, 2), 0, 9, ways...), 0, 0, -1, 5)
	checkBackward(t, on(list(0, 2), 0, 9, ways...), 5, 3, -1, 8)
	// Two that wait for a done one, which waits for two.
	knot := []api.Task{task("a", 1, 3), task("b", 1, 5), done(task("c", 1, 1, 0, 1)), task("d", 1, 1, 2), task("e", 1, 4, 2)}
	checkForward(t, on(list(0, 2), 0, 9, knot...), 0, 0, -1, 5, 5)
	checkBackward(t, on(list(0, 2), 0, 12, knot...), 5, 3, -1, 11, 8)
	checkNone(t, on(list(0, 2), 0, 8, knot...), api.ErrLate)
}

func TestDoneAtTheBeginAndAtTheEnd(t *testing.T) {
	begin := []api.Task{done(task("a", 9, 9)), task("b", 1, 2, 0), task("c", 1, 3, 0, 1)}
	checkForward(t, on(list(0, 2), 4, 9, begin...), -1, 4, 6)
	checkBackward(t, on(list(0, 2), 3, 9, begin...), -1, 4, 6)
	end := []api.Task{task("a", 1, 2), task("b", 2, 3), done(task("c", 9, 9, 0, 1)), done(task("d", 9, 9, 2))}
	checkForward(t, on(list(0, 2), 4, 9, end...), 7, 4, -1, -1)
	checkBackward(t, on(list(0, 2), 4, 9, end...), 7, 4, -1, -1)
	alone := []api.Task{task("a", 1, 2), done(task("b", 1, 2)), task("c", 1, 2)}
	checkForward(t, on(list(0, 1), 0, 4, alone...), 0, -1, 2)
	checkBackward(t, on(list(0, 1), 0, 4, alone...), 0, -1, 2)
	// One that is not done behind another, ahead of a done one: it has to wait all the same.
	late := []api.Task{done(task("a", 1, 2, 1)), task("b", 1, 2, 2), task("c", 1, 3)}
	checkForward(t, on(list(0, 9), 0, 5, late...), -1, 3, 0)
	checkBackward(t, on(list(0, 9), 0, 6, late...), -1, 4, 1)
}

func TestAllDone(t *testing.T) {
	all := []api.Task{done(task("a", 5, most)), done(task("b", allNodes, most, 0)), done(task("c", 1, 1, 0, 1))}
	for _, now := range []int{0, 1, 9, most} {
		r := on(list(0, 0), now, now, all...)
		checkForward(t, r, -1, -1, -1)
		checkBackward(t, r, -1, -1, -1)
		checkTaken(t, r, []int{-1, -1, -1}, list(0, 0))
	}
	checkOffered(t, on(list(0, 4), 5, 4, all...), 5)
	checkNotBackward(t, on(list(0, 4), 5, 4, all...), api.ErrLate)
}

// Nodes that are not free for a while, just enough, and one too few.
func TestProfiles(t *testing.T) {
	two := []api.Task{task("a", 3, 4), task("b", 3, 2, 0)}
	checkForward(t, on(list(0, 3), 2, 8, two...), 2, 6)
	checkBackward(t, on(list(0, 3), 2, 8, two...), 2, 6)
	checkNoOffer(t, on(list(0, 2), 2, 8, two...), api.ErrLate)
	checkNone(t, on(list(0, 2), 2, 8, two...), api.ErrLate)
	away := list(0, 3, 4, 0, 9, 3)
	checkForward(t, on(away, 0, 20, two...), 0, 9)
	checkForward(t, on(away, 1, 20, two...), 9, 13)
	checkBackward(t, on(away, 0, 20, two...), 14, 18)
	checkBackward(t, on(away, 0, 12, two...), 0, 10)
	checkBackward(t, on(away, 0, 11, two...), 0, 9)
	checkNone(t, on(away, 0, 10, two...), api.ErrLate)
	checkNone(t, on(list(0, 3, 3, 2, 9, 3, 12, 2), 0, most, two...), api.ErrLate)
	checkForward(t, on(list(0, 3, 4, 2, 9, 3, 11, 2), 0, most, two...), 0, 9)
	checkBackward(t, on(list(0, 3, 4, 2, 9, 3, 11, 2), 0, most, two...), 0, 9)
	checkNone(t, on(list(0, 3, 4, 2, 9, 3, 10, 2), 0, most, two...), api.ErrLate)
	// Several at a time, as many as there are.
	four := []api.Task{task("a", 1, 2), task("b", 1, 2), task("c", 1, 2), task("d", 1, 2)}
	checkForward(t, on(list(0, 4), 0, 2, four...), 0, 0, 0, 0)
	checkForward(t, on(list(0, 3), 0, 4, four...), 0, 0, 0, 2)
	checkBackward(t, on(list(0, 3), 0, 4, four...), 0, 2, 2, 2)
	checkTaken(t, on(list(0, 4), 0, 2, four...), []int{0, 0, 0, 0}, list(0, 0, 2, 4))
}

// Pull moves one task after the other, while the others stand as they stand by then.
func TestPull(t *testing.T) {
	r := on(list(0, 1), 0, most, task("a", 1, 2), task("b", 1, 3))
	checkPulled(t, r, []int{10, 20}, []int{3, 0})
	checkPulled(t, r, []int{0, 20}, []int{0, 2})
	checkPulled(t, r, []int{1, 20}, []int{0, 3})
	checkPulled(t, r, []int{3, 5}, []int{3, 0})
	// It may overlap its own old place, but not that of another, even one that will go.
	checkPulled(t, on(list(0, 1), 0, most, task("a", 1, 5)), []int{2}, []int{0})
	checkPulled(t, on(list(0, 1), 0, most, task("a", 1, 5), task("b", 1, 2)), []int{2, 0}, []int{2, 0})
	checkPulled(t, on(list(0, 1), 0, most, task("a", 1, 5), task("b", 1, 2)), []int{4, 1}, []int{3, 0})
	checkPulled(t, on(list(0, 1), 0, most, task("a", 1, 2), task("b", 1, 5)), []int{4, 6}, []int{0, 6})
	chain := on(list(0, 2), 3, most, task("a", 2, 2, 1), task("b", 1, 4, 2), task("c", 2, 1))
	checkPulled(t, chain, []int{30, 20, 10}, []int{8, 4, 3})
	checkPulled(t, chain.from(10), []int{30, 20, 10}, []int{15, 11, 10})
	over := on(list(0, 2), 0, most, task("a", 1, 4), done(task("b", 1, 9, 0)), done(task("c", 1, 9, 1)), task("d", 1, 2, 2))
	checkPulled(t, over, []int{5, -1, -1, 30}, []int{0, -1, -1, 4})
	checkPulled(t, over, []int{most - 6, -1, -1, most - 2}, []int{0, -1, -1, 4})
	away := on(list(0, 3, 4, 0, 9, 3), 1, most, task("a", 3, 3), task("b", 3, 2, 0))
	checkPulled(t, away, []int{20, 30}, []int{1, 9})
	checkPulled(t, away.from(2), []int{20, 30}, []int{9, 12})
	checkPulled(t, away.from(2), []int{9, 12}, []int{9, 12})
}

// Holds is asked for starts that break one thing each.
func TestHolds(t *testing.T) {
	r := request{example(), list(0, 3), 10, 20}
	for _, x := range []struct {
		starts []int
		want   bool
	}{
		{[]int{15, 10, 18}, true}, {[]int{10, 13, 18}, true},
		{[]int{14, 10, 18}, false}, {[]int{15, 9, 18}, false}, {[]int{15, 10, 17}, false}, {[]int{15, 10, 19}, false},
		{[]int{9, 12, 18}, false}, {[]int{10, 12, 18}, false}, {[]int{10, 14, 18}, false},
		{[]int{-1, 13, 18}, false}, {[]int{10, 13}, false}, {[]int{10, 13, 18, 20}, false}, {nil, false},
	} {
		if got := r.holds(x.starts); got != x.want {
			t.Errorf("%s: Holds of %v is %v", r, x.starts, got)
		}
	}
	over := on(list(0, 3), 0, 20, task("a", 1, 4), done(task("b", 1, 9, 0)), done(task("c", 1, 9, 1)), task("d", 1, 2, 2))
	for start := range 20 {
		if got, want := over.holds([]int{1, -1, -1, start}), start >= 5 && start <= 18; got != want {
			t.Errorf("%s: Holds of a start at %d is %v", over, start, got)
		}
	}
}

// All nodes are free: then the sum of all Walls is enough time for any workflow.
func TestSumOfAllWalls(t *testing.T) {
	for _, tasks := range [][]api.Task{
		nil, example().Tasks, {task("a", 3, 1), task("b", 3, 2), task("c", 3, 3)}, {task("a", 3, 4, 2), task("b", 2, 2), task("c", 1, 1, 1)},
		{task("a", 3, 4), done(task("b", 3, 100, 0)), task("c", 3, 5, 1)},
	} {
		for _, now := range []int{0, 1, 1000, most - 100} {
			r := on(list(0, 3), now, most, tasks...)
			sum, _ := rank.Total(r.f)
			for _, by := range []int{now + sum, now + sum + 1, most} {
				if _, n, e := r.until(by).admit(); e != api.OK || n > now+sum {
					t.Errorf("%s: by %d Admit is %d, error %d", r, by, n, e)
				}
			}
		}
	}
}

// What does not tell when a task may run changes no answer.
func TestOtherFields(t *testing.T) {
	r := request{example(), list(0, 3), 10, 20}
	g := flow.Copy(r.f)
	g.Name, g.Deadline, g.Priority = "other", 1, 1000
	for v := range g.Tasks {
		g.Tasks[v].Name = fmt.Sprint("z", 9-v)
		g.Tasks[v].Retry = api.MaxRetry
	}
	r.f = g
	checkForward(t, r, 15, 10, 18)
	checkBackward(t, r, 15, 10, 18)
	checkOffered(t, r.until(19), 20)
}
