package fit

import (
	"fmt"
	"slices"
	"testing"

	"timekeeper/api"
	"timekeeper/steps"
)

const (
	most     = api.MaxTime
	allNodes = api.MaxNodes
)

// list are the steps of each two of these numbers, an At and a Free.
func list(numbers ...int) []api.Step {
	var l []api.Step
	for pair := range slices.Chunk(numbers, 2) {
		l = append(l, api.Step{At: pair[0], Free: pair[1]})
	}
	return l
}

// windows are those of each two of these numbers, a From and a By.
func windows(numbers ...int) []api.Window {
	var l []api.Window
	for pair := range slices.Chunk(numbers, 2) {
		l = append(l, api.Window{From: pair[0], By: pair[1]})
	}
	return l
}

// request is what the calls are asked for.
type request struct {
	l           []api.Step
	w           api.Window
	nodes, long int
}

// in is a request for so many nodes, for so long, within a window of a profile.
func in(l []api.Step, from, by, nodes, long int) request {
	return request{l, api.Window{From: from, By: by}, nodes, long}
}

// String leaves out most of a profile that is very long.
func (r request) String() string {
	return fmt.Sprintf("%d nodes for %d from %d by %d in %d steps %v", r.nodes, r.long, r.w.From, r.w.By, len(r.l), r.l[:min(len(r.l), 30)])
}

func (r request) fits(t int) (bool, api.Errno)   { return Fits(r.l, r.w, r.nodes, r.long, t) }
func (r request) first() (int, api.Errno)        { return First(r.l, r.w, r.nodes, r.long) }
func (r request) last() (int, api.Errno)         { return Last(r.l, r.w, r.nodes, r.long) }
func (r request) all() ([]api.Window, api.Errno) { return All(r.l, r.w, r.nodes, r.long) }
func (r request) widest() (int, int, api.Errno)  { return Widest(r.l, r.w, r.long) }

// of is the request for another number of nodes.
func (r request) of(nodes int) request {
	r.nodes = nodes
	return r
}

// example is the profile of the chapter.
func example() []api.Step {
	return list(0, 4, 10, 1, 20, 4)
}

// brief leaves out most of what is very long.
func brief(l []api.Window) string {
	return fmt.Sprintf("%d windows %v", len(l), l[:min(len(l), 30)])
}

func isTime(t int) bool {
	return 0 <= t && t <= most
}

// isWithin reports whether t is in one of these windows.
func isWithin(l []api.Window, t int) bool {
	return slices.ContainsFunc(l, func(x api.Window) bool { return x.From <= t && t <= x.By })
}

// probes are the times at which the answer of Fits may change, and those beside them.
func probes(r request, want []api.Window) []int {
	l := []int{0, most, r.w.From, r.w.By, r.w.By - r.long}
	for _, x := range want[:min(len(want), 30)] {
		l = append(l, x.From, x.By)
	}
	for _, s := range r.l[:min(len(r.l), 10)] {
		l = append(l, s.At, s.At-r.long)
	}
	var all []int
	for _, t := range l {
		all = append(all, t-1, t, t+1)
	}
	slices.Sort(all)
	return slices.DeleteFunc(slices.Compact(all), func(t int) bool { return !isTime(t) })
}

// checkTimes asks for windows with these numbers, a From and a By each.
func checkTimes(t *testing.T, r request, numbers ...int) {
	t.Helper()
	checkWindows(t, r, windows(numbers...))
}

// checkWindows asks for all times at which a request fits, and for what First, Last and Fits tell of them.
func checkWindows(t *testing.T, r request, want []api.Window) {
	t.Helper()
	if all, e := r.all(); e != api.OK || !slices.Equal(all, want) {
		t.Errorf("%s: All is %s, error %d; asked for: %s", r, brief(all), e, brief(want))
	}
	if len(want) == 0 {
		checkEnds(t, r, 0, 0, api.ErrRoom)
	} else {
		checkEnds(t, r, want[0].From, want[len(want)-1].By, api.OK)
	}
	for _, at := range probes(r, want) {
		if ok, e := r.fits(at); ok != isWithin(want, at) || e != api.OK {
			t.Errorf("%s: Fits at %d is %v, error %d; asked for: %s", r, at, ok, e, brief(want))
		}
	}
}

// checkEnds asks for the first time and for the last one.
func checkEnds(t *testing.T, r request, first, last int, want api.Errno) {
	t.Helper()
	if n, e := r.first(); n != first || e != want {
		t.Errorf("%s: First is %d, error %d; asked for: %d, error %d", r, n, e, first, want)
	}
	if n, e := r.last(); n != last || e != want {
		t.Errorf("%s: Last is %d, error %d; asked for: %d, error %d", r, n, e, last, want)
	}
}

// checkWidest also asks where as many fit, and one more.
func checkWidest(t *testing.T, r request, want, at int) {
	t.Helper()
	if n, first, e := r.widest(); n != want || first != at || e != api.OK {
		t.Errorf("%s: Widest is %d at %d, error %d; asked for: %d at %d", r, n, first, e, want, at)
	}
	if want > 0 {
		if first, e := r.of(want).first(); first != at || e != api.OK {
			t.Errorf("%s: First is %d, error %d; asked for: %d", r.of(want), first, e, at)
		}
	}
	if want < allNodes {
		checkEnds(t, r.of(want+1), 0, 0, api.ErrRoom)
	}
}

func checkNotWide(t *testing.T, r request, want api.Errno) {
	t.Helper()
	if n, at, e := r.widest(); n != 0 || at != 0 || e != want {
		t.Errorf("%s: Widest is %d at %d, error %d; asked for: error %d", r, n, at, e, want)
	}
}

// checkRefused asks for ErrArg of every call but Widest, and for nothing beside it.
func checkRefused(t *testing.T, r request) {
	t.Helper()
	checkEnds(t, r, 0, 0, api.ErrArg)
	if all, e := r.all(); len(all) != 0 || e != api.ErrArg {
		t.Errorf("%s: All is %s, error %d", r, brief(all), e)
	}
	for _, at := range []int{-1, 0, 1, 12, 25, r.w.From, most, most + 1} {
		checkNoTime(t, r, at)
	}
}

func checkNoTime(t *testing.T, r request, at int) {
	t.Helper()
	if ok, e := r.fits(at); ok || e != api.ErrArg {
		t.Errorf("%s: Fits at %d is %v, error %d", r, at, ok, e)
	}
}

func TestExample(t *testing.T) {
	checkTimes(t, in(example(), 5, 40, 2, 8), 20, 32)
	checkTimes(t, in(example(), 5, 40, 2, 5), 5, 5, 20, 35)
}

// The sixth one of the whole.
func TestExampleOfTheWhole(t *testing.T) {
	l, _ := steps.New(4)
	l, _ = steps.Add(l, 10, 20, -3)
	checkTimes(t, in(l, 10, most, 2, 8), 20, most-8)
	checkTimes(t, in(l, 3, most, 2, 8), 20, most-8)
	checkTimes(t, in(l, 0, most, 2, 8), 0, 2, 20, most-8)
}

func TestOneStep(t *testing.T) {
	l := list(0, 4)
	for nodes := 1; nodes <= 4; nodes++ {
		checkTimes(t, in(l, 5, 40, nodes, 8), 5, 32)
		checkTimes(t, in(l, 0, 1, nodes, 1), 0, 0)
		checkTimes(t, in(l, 0, most, nodes, 1), 0, most-1)
	}
	checkTimes(t, in(l, 5, 40, 5, 8))
	checkTimes(t, in(l, 0, most, 5, 1))
	checkWidest(t, in(l, 5, 40, 1, 8), 4, 5)
	checkWidest(t, in(list(0, 0), 5, 40, 1, 8), 0, 5)
}

// many has three nodes or more from 0, 20 and 40 on.
func many() []api.Step {
	return list(0, 4, 10, 1, 20, 6, 30, 0, 40, 3)
}

func TestWindowsAndSteps(t *testing.T) {
	l := many()
	checkTimes(t, in(l, 0, 100, 3, 5), 0, 5, 20, 25, 40, 95)    // wider than all steps
	checkTimes(t, in(l, 0, 100, 1, 5), 0, 25, 40, 95)           // with fewer nodes
	checkTimes(t, in(l, 0, 100, 5, 5), 20, 25)                  // with more
	checkTimes(t, in(l, 0, 100, 7, 5))                          // with too many
	checkTimes(t, in(l, 3, 9, 3, 5), 3, 4)                      // ahead of all but the first
	checkTimes(t, in(l, 22, 28, 3, 5), 22, 23)                  // within one step
	checkTimes(t, in(l, 12, 18, 1, 5), 12, 13)                  // within another one
	checkTimes(t, in(l, 12, 18, 2, 5))                          // which has too few
	checkTimes(t, in(l, 32, 38, 1, 5))                          // within one without any
	checkTimes(t, in(l, 20, 30, 3, 5), 20, 25)                  // from a step to the next
	checkTimes(t, in(l, 20, 31, 3, 5), 20, 25)                  // and one more
	checkTimes(t, in(l, 20, 29, 3, 5), 20, 24)                  // and one less
	checkTimes(t, in(l, 19, 30, 3, 5), 20, 25)                  // from one ahead of a step
	checkTimes(t, in(l, 21, 30, 3, 5), 21, 25)                  // from one behind it
	checkTimes(t, in(l, 10, 20, 3, 5))                          // from a step with too few
	checkTimes(t, in(l, 10, 25, 3, 5), 20, 20)                  // between two, the second just long enough
	checkTimes(t, in(l, 10, 24, 3, 5))                          // and one too short
	checkTimes(t, in(l, 5, 15, 3, 5), 5, 5)                     // between two, the first just long enough
	checkTimes(t, in(l, 6, 15, 3, 5))                           // and one too short
	checkTimes(t, in(l, 5, 15, 1, 5), 5, 10)                    // over two steps
	checkTimes(t, in(l, 5, 45, 3, 5), 5, 5, 20, 25, 40, 40)     // from between to between
	checkTimes(t, in(l, 6, 44, 3, 5), 20, 25)                   // where only the middle is long enough
	checkTimes(t, in(l, 40, 50, 3, 5), 40, 45)                  // from the last one on
	checkTimes(t, in(l, 39, 50, 3, 5), 40, 45)                  // from one ahead of it
	checkTimes(t, in(l, 60, 70, 3, 5), 60, 65)                  // behind the last
	checkTimes(t, in(l, 60, 70, 4, 5))                          // which has too few
	checkTimes(t, in(l, 0, 40, 3, 5), 0, 5, 20, 25)             // up to the last one
	checkTimes(t, in(l, 0, most, 3, 50), 40, most-50)           // longer than all but the last
	checkTimes(t, in(l, 0, most, 1, 30), 0, 0, 40, most-30)     // just as long as three
	checkTimes(t, in(l, 0, most, 1, 31), 40, most-31)           // and one longer
	checkTimes(t, in(list(0, 0, 1, 5), 0, 9, 3, 2), 1, 7)       // the first step has none
	checkTimes(t, in(list(0, 5, 7, 0), 0, 9, 3, 2), 0, 5)       // the last step has none
	checkTimes(t, in(list(0, 5, 7, 3, 8, 9), 0, 9, 3, 2), 0, 7) // all have enough
}

// Each gap is just long enough, or one too short.
func TestGaps(t *testing.T) {
	l := list(0, 2, 5, 0, 10, 3, 16, 1, 20, 2, 22, 5, 27, 1, 30, 9, 31, 0)
	checkTimes(t, in(l, 0, 50, 2, 5), 0, 0, 10, 11, 20, 22)
	checkTimes(t, in(l, 0, 50, 2, 6), 10, 10, 20, 21)
	checkTimes(t, in(l, 0, 50, 2, 7), 20, 20)
	checkTimes(t, in(l, 0, 50, 2, 8))
	checkTimes(t, in(l, 0, 50, 2, 1), 0, 4, 10, 15, 20, 26, 30, 30)
	checkTimes(t, in(l, 0, 50, 1, 21), 10, 10)
	checkTimes(t, in(l, 0, 50, 1, 20), 10, 11)
	checkTimes(t, in(l, 0, 50, 1, 22))
	checkTimes(t, in(l, 0, 50, 9, 1), 30, 30)
	checkTimes(t, in(l, 0, 50, 9, 2))
	checkTimes(t, in(l, 0, 50, 5, 5), 22, 22)
	checkTimes(t, in(l, 0, 50, 5, 6))
	checkTimes(t, in(l, 11, 50, 2, 5), 11, 11, 20, 22)
	checkTimes(t, in(l, 12, 50, 2, 5), 20, 22)
	checkTimes(t, in(l, 0, 27, 2, 5), 0, 0, 10, 11, 20, 22)
	checkTimes(t, in(l, 0, 26, 2, 5), 0, 0, 10, 11, 20, 21)
	checkTimes(t, in(l, 0, 24, 2, 5), 0, 0, 10, 11)
}

// Windows that come as near to one another as they can.
func TestNearWindows(t *testing.T) {
	l := list(0, 1, 3, 0, 4, 1, 7, 0, 8, 2, 11, 0)
	checkTimes(t, in(l, 0, 20, 1, 1), 0, 2, 4, 6, 8, 10)
	checkTimes(t, in(l, 0, 20, 1, 2), 0, 1, 4, 5, 8, 9)
	checkTimes(t, in(l, 0, 20, 1, 3), 0, 0, 4, 4, 8, 8)
	checkTimes(t, in(l, 0, 20, 1, 4))
	checkTimes(t, in(list(0, 1, 1, 0, 2, 1, 3, 0, 4, 1, 5, 0), 0, 20, 1, 1), 0, 0, 2, 2, 4, 4)
}

func TestWidest(t *testing.T) {
	l := many()
	checkWidest(t, in(l, 0, 100, 1, 5), 6, 20)
	checkWidest(t, in(l, 0, 100, 1, 10), 6, 20)
	checkWidest(t, in(l, 0, 100, 1, 11), 3, 40)
	checkWidest(t, in(l, 0, 50, 1, 11), 1, 0)
	checkWidest(t, in(l, 7, 50, 1, 11), 1, 7)
	checkWidest(t, in(l, 19, 50, 1, 11), 1, 19)
	checkWidest(t, in(l, 20, 50, 1, 11), 0, 20)
	checkWidest(t, in(l, 0, 24, 1, 5), 4, 0)
	checkWidest(t, in(l, 5, 24, 1, 5), 4, 5)
	checkWidest(t, in(l, 6, 24, 1, 5), 1, 6)
	checkWidest(t, in(l, 6, 25, 1, 5), 6, 20)
	checkWidest(t, in(l, 23, 100, 1, 5), 6, 23)
	checkWidest(t, in(l, 26, 100, 1, 5), 3, 40)
	checkWidest(t, in(l, 31, 39, 1, 5), 0, 31)
	checkWidest(t, in(l, 50, 60, 1, 5), 3, 50)
	checkWidest(t, in(l, 0, most, 1, 50), 3, 40)
	// The first of several that are as wide.
	checkWidest(t, in(list(0, 1, 5, 3, 9, 2, 12, 3, 20, 0), 0, 30, 1, 4), 3, 5)
	checkWidest(t, in(list(0, 1, 5, 3, 9, 2, 12, 3, 20, 0), 0, 30, 1, 5), 3, 12)
	checkWidest(t, in(list(0, 1, 5, 3, 9, 2, 12, 3, 20, 0), 0, 30, 1, 9), 2, 5)
}

// P4: what First reports can be taken, and nothing ahead of it.
func TestWhatFitsCanBeTaken(t *testing.T) {
	l := many()
	for nodes := 1; nodes <= 6; nodes++ {
		for long := 1; long <= 12; long++ {
			r := in(l, 0, 60, nodes, long)
			first, e := r.first()
			if e != api.OK {
				first = r.w.By - long + 1
			} else if _, e := steps.Add(l, first, first+long, -nodes); e != api.OK {
				t.Errorf("%s: error %d at %d", r, e, first)
			}
			for at := range first {
				if _, e := steps.Add(l, at, at+long, -nodes); e != api.ErrRoom {
					t.Errorf("%s: error %d at %d, which is ahead of %d", r, e, at, first)
				}
			}
		}
	}
}
