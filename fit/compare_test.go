package fit

import (
	"slices"
	"testing"

	"timekeeper/api"
	"timekeeper/steps"
)

// The answers of this package, found by other ways: for small profiles time by time, for others at each time at which they may change.

// counts tells what is free at each of the times 0 to n-1: of all steps the last one that is not behind it counts.
func counts(l []api.Step, n int) []int {
	c := make([]int, n)
	for t := range c {
		for _, s := range slices.Backward(l) {
			if s.At <= t {
				c[t] = s.Free
				break
			}
		}
	}
	return c
}

// profileOf are the steps of what is free at each time, the last of which is told of all later ones.
func profileOf(c []int) []api.Step {
	var l []api.Step
	for t, n := range c {
		if t == 0 || n != c[t-1] {
			l = append(l, api.Step{At: t, Free: n})
		}
	}
	return l
}

// put appends t, to the last window if it is next to that.
func put(l []api.Window, t int) []api.Window {
	if n := len(l); n > 0 && l[n-1].By == t-1 {
		l[n-1].By = t
		return l
	}
	return append(l, api.Window{From: t, By: t})
}

// wantAll looks at each time, and at each time of the duration from there on.
func wantAll(c []int, w api.Window, nodes, long int) []api.Window {
	var l []api.Window
	for t := w.From; t+long <= w.By; t++ {
		if long == 0 || slices.Min(c[t:t+long]) >= nodes {
			l = put(l, t)
		}
	}
	return l
}

// wantWidest looks at each time as well, for a window that is long enough.
func wantWidest(c []int, w api.Window, long int) (int, int) {
	widest, at := 0, w.From
	for t := w.From; t+long <= w.By; t++ {
		if n := slices.Min(c[t : t+long]); n > widest {
			widest, at = n, t
		}
	}
	return widest, at
}

// checkApart asks for windows that are ascending and apart, and within w, all of the duration included.
func checkApart(t *testing.T, r request) {
	t.Helper()
	all, _ := r.all()
	for i, x := range all {
		if x.From > x.By || x.From < r.w.From || x.By+r.long > r.w.By || i > 0 && x.From <= all[i-1].By+1 {
			t.Errorf("%s: window %d is %v of %s", r, i, x, brief(all))
		}
	}
}

// checkEach asks for everything in all windows, and for all durations, within the times that c tells of a profile.
func checkEach(t *testing.T, l []api.Step, c []int, nodes ...int) {
	t.Helper()
	for from := range c {
		for by := range c {
			w := api.Window{From: from, By: by}
			for long := range len(c) {
				for _, n := range nodes {
					r := request{l, w, n, long}
					checkWindows(t, r, wantAll(c, w, n, long))
					checkApart(t, r)
				}
				switch r := (request{l, w, 1, long}); {
				case long == 0:
					checkNotWide(t, r, api.ErrArg)
				case by-from < long:
					checkNotWide(t, r, api.ErrRoom)
				default:
					n, at := wantWidest(c, w, long)
					checkWidest(t, r, n, at)
				}
			}
		}
	}
}

// small are all ways to have one of these numbers of free nodes at each of n times.
func small(n int, free ...int) [][]int {
	all := [][]int{nil}
	for range n {
		var longer [][]int
		for _, c := range all {
			for _, k := range free {
				longer = append(longer, append(slices.Clone(c), k))
			}
		}
		all = longer
	}
	return all
}

func TestAllSmallProfiles(t *testing.T) {
	for _, c := range small(4, 0, 1, 3) {
		checkEach(t, profileOf(c), counts(profileOf(c), 6), 1, 2, 3, 4)
	}
	for _, c := range small(3, 0, 1, allNodes-1, allNodes) {
		checkEach(t, profileOf(c), counts(profileOf(c), 5), 1, 2, allNodes-1, allNodes)
	}
	for _, c := range small(7, 0, 2) {
		checkEach(t, profileOf(c), counts(profileOf(c), 8), 2)
	}
}

// dice returns numbers below n, always the same ones for the same seed.
func dice(seed uint64) func(n int) int {
	return func(n int) int {
		seed = seed*6364136223846793005 + 1442695040888963407
		return int(seed>>33) % n
	}
}

// drawn is a profile of up to n steps within these times, of up to so many free nodes.
func drawn(roll func(n int) int, n, times, free int) []api.Step {
	l := list(0, roll(free+1))
	for range n {
		l = append(l, list(roll(times), roll(free+1))...)
	}
	return steps.Tidy(l...)
}

func TestDrawnProfiles(t *testing.T) {
	roll := dice(10)
	for range 4000 {
		const times = 60
		l := drawn(roll, roll(20), times, 1+roll(9))
		c := counts(l, times)
		w := api.Window{From: roll(times / 2), By: roll(times)}
		r := request{l, w, 1 + roll(8), roll(10)}
		checkWindows(t, r, wantAll(c, w, r.nodes, r.long))
		checkApart(t, r)
		if r.long > 0 && w.By-w.From >= r.long {
			n, at := wantWidest(c, w, r.long)
			checkWidest(t, r, n, at)
		}
	}
}

// moved is w with all times so much greater, and then so much later.
func moved(w api.Window, by, later int) api.Window {
	return api.Window{From: w.From*by + later, By: w.By*by + later}
}

// What is told does not depend on how far the times are apart, nor on how late they are.
func TestDrawnAtGreatTimes(t *testing.T) {
	roll := dice(110)
	for range 2000 {
		const times = 20
		l := drawn(roll, 8, times, 5)
		c := counts(l, times)
		w := api.Window{From: roll(times), By: roll(times)}
		nodes, long := 1+roll(5), roll(6)
		by, later := 1+roll(1<<30), 0
		if roll(2) == 0 {
			later = most - by*(times-1)
		}
		for i, s := range l[1:] {
			l[i+1].At = s.At*by + later
		}
		r := request{l, moved(w, by, later), nodes, long * by}
		want := wantAll(c, w, nodes, long)
		for i, x := range want {
			want[i] = moved(x, by, later)
		}
		checkWindows(t, r, want)
		if long > 0 && w.By-w.From >= long {
			n, at := wantWidest(c, w, long)
			checkWidest(t, r, n, at*by+later)
		}
	}
}

// wantByChanges asks at each time at which a step comes in or goes out, and takes the answer for all times up to the next one.
func wantByChanges(r request) []api.Window {
	last := r.w.By - r.long
	if r.w.From > last {
		return nil
	}
	times := []int{r.w.From, last + 1}
	for _, s := range r.l {
		for _, t := range []int{s.At, s.At - r.long + 1} {
			if r.w.From < t && t <= last {
				times = append(times, t)
			}
		}
	}
	slices.Sort(times)
	var l []api.Window
	for i, t := range times[:len(times)-1] {
		least := allNodes
		if r.long > 0 {
			least, _ = steps.Least(r.l, t, t+r.long)
		}
		next := times[i+1]
		switch n := len(l); {
		case least < r.nodes || next == t:
		case n > 0 && l[n-1].By == t-1:
			l[n-1].By = next - 1
		default:
			l = append(l, api.Window{From: t, By: next - 1})
		}
	}
	return l
}

// checkByChanges also asks for the widest: of the numbers that are free in a step, the greatest one that fits.
func checkByChanges(t *testing.T, r request) {
	t.Helper()
	checkWindows(t, r, wantByChanges(r))
	checkApart(t, r)
	if r.long == 0 || r.w.By-r.w.From < r.long {
		return
	}
	widest, at := 0, r.w.From
	for _, s := range r.l {
		if s.Free > widest {
			if want := wantByChanges(r.of(s.Free)); len(want) > 0 {
				widest, at = s.Free, want[0].From
			}
		}
	}
	checkWidest(t, r, widest, at)
}

func TestDrawnFarApart(t *testing.T) {
	roll := dice(1110)
	for range 1000 {
		l := drawn(roll, roll(30), 1+roll(most), 1+roll(allNodes))
		one, other := l[roll(len(l))], l[roll(len(l))]
		for _, long := range []int{0, 1, roll(most), max(other.At-one.At, 0), max(other.At-one.At+roll(3)-1, 0)} {
			for _, w := range windows(0, most, one.At, other.At, one.At, min(one.At+long, most), max(one.At-1, 0), min(other.At+1, most), roll(most), roll(most)) {
				for _, nodes := range []int{max(one.Free, 1), min(other.Free+1, allNodes), 1 + roll(allNodes)} {
					checkByChanges(t, request{l, w, nodes, long})
				}
			}
		}
	}
}

// profileOfBytes has a step for each two bytes.
func profileOfBytes(b []byte) []api.Step {
	l := list(0, 0)
	for x := range slices.Chunk(b, 2) {
		if len(x) == 2 {
			l = append(l, api.Step{At: int(x[0]), Free: int(x[1])})
		}
	}
	return steps.Tidy(l...)
}

func FuzzRequest(f *testing.F) {
	f.Add([]byte{0, 4, 10, 1, 20, 4}, 5, 40, 2, 8)
	f.Add([]byte{0, 4, 10, 1, 20, 4}, 5, 40, 2, 5)
	f.Add([]byte{0, 255, 1, 0, 2, 3, 5, 0, 9, 7}, 0, most, 3, 1)
	f.Add([]byte{}, 9, 3, 1, 0)
	f.Add([]byte{3, 3, 3, 4}, -1, most+1, allNodes+1, most)
	f.Fuzz(func(t *testing.T, b []byte, from, by, nodes, long int) {
		r := in(profileOfBytes(b), from, by, nodes, long)
		switch {
		case !isTime(from) || !isTime(by) || !isTime(long):
			checkRefused(t, r)
			checkNotWide(t, r, api.ErrArg)
		case nodes < 1 || nodes > allNodes:
			checkRefused(t, r)
		default:
			checkByChanges(t, r)
		}
	})
}
