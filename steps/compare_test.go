package steps

import (
	"math/big"
	"slices"
	"testing"

	"timekeeper/api"
)

// The answers of this package, found time by time.

// freeAt looks at all steps, the last one first.
func freeAt(l []api.Step, t int) int {
	for _, s := range slices.Backward(l) {
		if s.At <= t {
			return s.Free
		}
	}
	return 0
}

// counts tells what is free at each of the times 0 to n-1.
func counts(l []api.Step, n int) []int {
	c := make([]int, n)
	for t := range c {
		c[t] = freeAt(l, t)
	}
	return c
}

// profileOf are the steps of what is free at each time, the last of which is told of all later ones.
func profileOf(c []int) []api.Step {
	var l []api.Step
	for t, n := range c {
		if t == 0 || n != c[t-1] {
			l = append(l, api.Step{At: t, Free: n})
		}
	}
	return l
}

// wantAdd adds at each time.
func wantAdd(c []int, from, to, k int) ([]api.Step, api.Errno) {
	c = slices.Clone(c)
	for t := from; t < to; t++ {
		c[t] += k
		if c[t] < 0 || c[t] > nodes {
			return nil, api.ErrRoom
		}
	}
	return profileOf(c), api.OK
}

func wantSum(c, d []int) ([]api.Step, api.Errno) {
	c = slices.Clone(c)
	for t := range c {
		c[t] += d[t]
	}
	if slices.Max(c) > nodes {
		return nil, api.ErrArg
	}
	return profileOf(c), api.OK
}

// checkEach asks for all that is told of a profile, of which c tells each time up to one behind its last step.
func checkEach(t *testing.T, c []int, ks ...int) {
	t.Helper()
	l := profileOf(c)
	checkProfile(t, "each time", l)
	for from := range c {
		checkAt(t, l, from, c[from])
		checkNoSpan(t, "each time", l, from, from, api.OK)
		area := 0
		for to := from + 1; to < len(c); to++ {
			area += c[to-1]
			checkSpan(t, "each time", l, from, to, slices.Min(c[from:to]), slices.Max(c[from:to]), area)
		}
		for to := from; to < len(c); to++ {
			for _, k := range ks {
				if want, e := wantAdd(c, from, to, k); e == api.OK {
					checkAdd(t, "each time", l, from, to, k, want)
				} else {
					checkNoAdd(t, "each time", l, from, to, k, e)
				}
			}
		}
	}
}

// small are all ways to have one of these numbers of free nodes at each of n times, and the last of them once more.
func small(n int, free ...int) [][]int {
	all := [][]int{nil}
	for range n {
		var longer [][]int
		for _, c := range all {
			for _, k := range free {
				longer = append(longer, append(slices.Clone(c), k))
			}
		}
		all = longer
	}
	for i, c := range all {
		all[i] = append(c, c[n-1])
	}
	return all
}

func TestAllSmallProfiles(t *testing.T) {
	for _, c := range small(5, 0, 1, 3) {
		checkEach(t, c, -3, -2, -1, 0, 1, 2)
	}
	for _, c := range small(4, 0, 2, nodes/2, nodes) {
		checkEach(t, c, -nodes, -nodes/2, -1, 0, 2, nodes/2, nodes)
	}
}

func TestAllSmallSums(t *testing.T) {
	for _, free := range [][]int{{0, 1, 3}, {0, nodes / 2, nodes/2 + 1}} {
		all := small(4, free...)
		for _, c := range all {
			for _, d := range all {
				want, e := wantSum(c, d)
				checkSum(t, "each time", profileOf(c), profileOf(d), want, e)
			}
		}
	}
}

// wantProfile asks for each thing that a profile has, by itself.
func wantProfile(l []api.Step) bool {
	if len(l) < 1 || len(l) > api.MaxSteps || l[0].At != 0 {
		return false
	}
	for _, s := range l {
		if s.At < 0 || s.At > most || s.Free < 0 || s.Free > nodes {
			return false
		}
	}
	for i := 1; i < len(l); i++ {
		if l[i-1].At >= l[i].At || l[i-1].Free == l[i].Free {
			return false
		}
	}
	return true
}

// wantTidy keeps the last Free that is told of each At.
func wantTidy(l []api.Step) []api.Step {
	last := map[int]int{}
	var times []int
	for _, s := range l {
		if _, ok := last[s.At]; !ok {
			times = append(times, s.At)
		}
		last[s.At] = s.Free
	}
	slices.Sort(times)
	var tidy []api.Step
	for i, at := range times {
		if i == 0 || last[at] != last[times[i-1]] {
			tidy = append(tidy, api.Step{At: at, Free: last[at]})
		}
	}
	return tidy
}

// All lists of up to three steps, of few numbers: most are no profile.
func TestAllSmallLists(t *testing.T) {
	var steps []api.Step
	for _, at := range []int{-1, 0, 1, most, most + 1} {
		for _, free := range []int{-1, 0, nodes, nodes + 1} {
			steps = append(steps, api.Step{At: at, Free: free})
		}
	}
	lists := [][]api.Step{nil}
	for range 3 {
		for _, l := range lists {
			if e := Check(l); (e == api.OK) != wantProfile(l) || e != api.OK && e != api.ErrArg {
				t.Errorf("Check of %v: %d", l, e)
			}
			checkTidy(t, "a small list", l, wantTidy(l))
		}
		var longer [][]api.Step
		for _, l := range lists {
			for _, s := range steps {
				longer = append(longer, append(slices.Clone(l), s))
			}
		}
		lists = longer
	}
	for _, l := range lists {
		if e := Check(l); (e == api.OK) != wantProfile(l) {
			t.Errorf("Check of %v: %d", l, e)
		}
		checkTidy(t, "a small list", l, wantTidy(l))
	}
}

// dice returns numbers below n, always the same ones for the same seed.
func dice(seed uint64) func(n int) int {
	return func(n int) int {
		seed = seed*6364136223846793005 + 1442695040888963407
		return int(seed>>33) % n
	}
}

// drawn is a profile, of up to n steps within these times, of up to so many free nodes.
func drawn(roll func(n int) int, n, times, free int) []api.Step {
	l := list(0, roll(free+1))
	for range n {
		l = append(l, api.Step{At: roll(times), Free: roll(free + 1)})
	}
	return wantTidy(l)
}

func TestDrawnLists(t *testing.T) {
	roll := dice(9)
	for range 5000 {
		l := make([]api.Step, roll(20))
		for i := range l {
			l[i] = api.Step{At: roll(12) - 3, Free: roll(5) - 1}
		}
		checkTidy(t, "drawn", l, wantTidy(l))
		if e := Check(l); (e == api.OK) != wantProfile(l) {
			t.Errorf("Check of %v: %d", l, e)
		}
	}
}

// A series of sums, each held against what is free at each time; what could be added is taken again at last, in another order.
func TestDrawnSeries(t *testing.T) {
	type more struct{ from, to, k int }
	roll := dice(99)
	for range 40 {
		const times = 120
		first := drawn(roll, 10, times, 8)
		l, c := first, counts(first, times)
		var added []more
		for range 60 {
			x := more{roll(times), 0, roll(13) - 6}
			x.to = x.from + roll(times-x.from)
			want, e := wantAdd(c, x.from, x.to, x.k)
			got, gotE := Add(l, x.from, x.to, x.k)
			checkList(t, "drawn", got, gotE, want, e)
			if e == api.OK {
				added = append(added, x)
				l, c = want, counts(want, times)
			}
			if from, to := roll(times/2), times/2+roll(times/2); from < to {
				checkSpan(t, "drawn", l, from, to, slices.Min(c[from:to]), slices.Max(c[from:to]), areaOf(c[from:to]))
			}
		}
		// All is raised by as much, so that there is room in any order.
		l, _ = Add(l, 0, most, 1000)
		for len(added) > 0 {
			i := roll(len(added))
			x := added[i]
			l, _ = Add(l, x.from, x.to, -x.k)
			added = slices.Delete(added, i, i+1)
		}
		l, e := Add(l, 0, most, -1000)
		checkList(t, "what there was", l, e, first, api.OK)
	}
}

func areaOf(c []int) int {
	area := 0
	for _, n := range c {
		area += n
	}
	return area
}

// scaled is l with each At times so much, and so much later but for the first one.
func scaled(l []api.Step, by, later int) []api.Step {
	l = slices.Clone(l)
	for i := range l {
		l[i].At *= by
		if i > 0 {
			l[i].At += later
		}
	}
	return l
}

// What is told does not depend on how far the times are apart, nor on how late they are.
func TestDrawnAtGreatTimes(t *testing.T) {
	roll := dice(999)
	for range 1500 {
		const times = 20
		l, m := drawn(roll, 8, times, 9), drawn(roll, 8, times, 9)
		by, later := 1+roll(1<<30), 0
		if roll(2) == 0 {
			later = most - by*(times-1)
		}
		place := func(t int) int {
			if t == 0 {
				return 0
			}
			return t*by + later
		}
		from := roll(times - 1)
		to := from + 1 + roll(times-1-from)
		k := roll(9) - 4
		want, e := wantAdd(counts(l, times), from, to, k)
		if e == api.OK {
			checkAdd(t, "great times", scaled(l, by, later), place(from), place(to), k, scaled(want, by, later))
		} else {
			checkNoAdd(t, "great times", scaled(l, by, later), place(from), place(to), k, e)
		}
		want, e = wantSum(counts(l, times), counts(m, times))
		checkSum(t, "great times", scaled(l, by, later), scaled(m, by, later), scaled(want, by, later), e)
		c := counts(l, times)[from:to]
		area := wantArea(scaled(l, by, later), place(from), place(to))
		checkSpan(t, "great times", scaled(l, by, later), place(from), place(to), slices.Min(c), slices.Max(c), area)
	}
}

// wantArea takes what is free ahead of from from what is free ahead of to, of numbers without a limit.
func wantArea(l []api.Step, from, to int) int {
	ahead := func(t int) *big.Int {
		sum := new(big.Int)
		for i, s := range l {
			end := t
			if i+1 < len(l) {
				end = min(t, l[i+1].At)
			}
			span := big.NewInt(int64(max(end-s.At, 0)))
			sum.Add(sum, span.Mul(span, big.NewInt(int64(s.Free))))
		}
		return sum
	}
	return int(new(big.Int).Sub(ahead(to), ahead(from)).Int64())
}

// P4: what is added is nowhere lost, and nowhere else.
func TestNothingIsLost(t *testing.T) {
	roll := dice(9999)
	for range 3000 {
		l, m := drawn(roll, roll(30), 1+roll(most), nodes), drawn(roll, roll(30), 1+roll(most), nodes)
		from := roll(most)
		to := from + roll(most-from)
		k := roll(2*nodes+1) - nodes
		before, _ := Area(l, 0, most)
		if before != wantArea(l, 0, most) {
			t.Errorf("Area of %s: %d", brief(l), before)
		}
		if sum, e := Add(l, from, to, k); e == api.OK {
			if after, _ := Area(sum, 0, most); after != before+k*(to-from) {
				t.Errorf("%d more from %d to %d in %s: %s", k, from, to, brief(l), brief(sum))
			}
		} else if low, high := freest(l, from, to); e != api.ErrRoom || low+k >= 0 && high+k <= nodes {
			t.Errorf("%d more from %d to %d in %s: error %d", k, from, to, brief(l), e)
		}
		other, _ := Area(m, 0, most)
		if sum, e := Sum(l, m); e == api.OK {
			if both, _ := Area(sum, 0, most); both != before+other {
				t.Errorf("%s and %s: %s", brief(l), brief(m), brief(sum))
			}
		}
	}
}

// freest looks at each begin of a step, and at from.
func freest(l []api.Step, from, to int) (int, int) {
	low, high := freeAt(l, from), freeAt(l, from)
	for _, s := range l {
		if from <= s.At && s.At < to {
			low, high = min(low, s.Free), max(high, s.Free)
		}
	}
	return low, high
}

// listOfBytes has a step for each two bytes.
func listOfBytes(b []byte) []api.Step {
	var l []api.Step
	for x := range slices.Chunk(b, 2) {
		if len(x) == 2 {
			l = append(l, api.Step{At: int(int8(x[0])), Free: int(int8(x[1]))})
		}
	}
	return l
}

func FuzzLists(f *testing.F) {
	f.Add([]byte{0, 4, 10, 1, 20, 4}, []byte{0, 1}, 10, 20, -3)
	f.Add([]byte{0, 4, 10, 1, 5, 4, 255, 3}, []byte{0, 0, 3, 100}, 0, most, nodes)
	f.Add([]byte{}, []byte{0, 128}, -1, most+1, nodes+1)
	f.Fuzz(func(t *testing.T, b, c []byte, from, to, k int) {
		l, m := listOfBytes(b), listOfBytes(c)
		checkTidy(t, "bytes", l, wantTidy(l))
		checkTidy(t, "bytes", m, wantTidy(m))
		tidyL, tidyM := wantTidy(append(list(0, 0), l...)), wantTidy(append(list(0, 0), m...))
		if !wantProfile(tidyL) || !wantProfile(tidyM) {
			checkRefused(t, "bytes", slices.Concat(list(0, -1), l))
			return
		}
		times := 130
		want, e := wantSum(counts(tidyL, times), counts(tidyM, times))
		checkSum(t, "bytes", tidyL, tidyM, want, e)
		if from < 0 || to >= times || from > to || k < -nodes || k > nodes {
			checkNoAdd(t, "bytes", tidyL, min(from, -1), to, k, api.ErrArg)
			return
		}
		got, gotE := Add(tidyL, from, to, k)
		want, e = wantAdd(counts(tidyL, times), from, to, k)
		checkList(t, "bytes", got, gotE, want, e)
	})
}
