package split

import (
	"fmt"
	"math/big"
	"slices"
	"testing"

	"timekeeper/api"
	"timekeeper/flow"
)

// The answers of this package, found by other ways: for small workflows by all their ways, for others by times that are moved until each task stands behind those that it waits for.

// weights are how long the tasks take.
func weights(f api.Flow) []int {
	l := make([]int, len(f.Tasks))
	for v, t := range f.Tasks {
		if !t.Done {
			l[v] = t.Wall
		}
	}
	return l
}

// around tells for each task how long all before it takes, and all after it.
type around struct {
	before, after []int
}

// byWays goes through all ways that end in a task, and counts the tasks of each way from both ends.
func byWays(f api.Flow) around {
	long := weights(f)
	a := around{make([]int, len(long)), make([]int, len(long))}
	var visit func(way []int, sum int)
	visit = func(way []int, sum int) {
		first := way[len(way)-1]
		a.after[first] = max(a.after[first], sum-long[first])
		a.before[way[0]] = max(a.before[way[0]], sum-long[way[0]])
		for _, u := range f.Tasks[first].After {
			visit(append(way, u), sum+long[u])
		}
	}
	for v := range long {
		visit([]int{v}, long[v])
	}
	return a
}

// byMoving starts each task at once, and again later, and does the same from the end.
func byMoving(f api.Flow) around {
	long := weights(f)
	a := around{make([]int, len(long)), make([]int, len(long))}
	for moved := true; moved; {
		moved = false
		for v, t := range f.Tasks {
			for _, u := range t.After {
				if start := a.before[u] + long[u]; start > a.before[v] {
					a.before[v], moved = start, true
				}
				if rest := a.after[v] + long[v]; rest > a.after[u] {
					a.after[u], moved = rest, true
				}
			}
		}
	}
	return a
}

// wantShare is n of the length, shared out over a span.
func wantShare(n, span, length int) int {
	if length == 0 {
		return 0
	}
	x := new(big.Int).Mul(big.NewInt(int64(n)), big.NewInt(int64(span)))
	return int(x.Quo(x, big.NewInt(int64(length))).Int64())
}

// wantAnswers are those of a workflow, for times that are such.
func wantAnswers(f api.Flow, a around, now, by int) answers {
	long, length := weights(f), 0
	for v := range long {
		length = max(length, a.before[v]+long[v]+a.after[v])
	}
	switch {
	case now+length > most:
		return refused(api.ErrOver)
	case by < now+length:
		return late(now + length)
	}
	want := answers{earliest: now + length}
	for v, n := range long {
		want.windows = append(want.windows, api.Window{From: now + a.before[v], By: by - a.after[v]})
		want.shares = append(want.shares, api.Window{From: now + wantShare(a.before[v], by-now, length), By: now + wantShare(a.before[v]+n, by-now, length)})
		want.slack = append(want.slack, by-now-a.before[v]-n-a.after[v])
	}
	return want
}

// checkFlow asks for answers at times around those where they change.
func checkFlow(t *testing.T, name string, f api.Flow, find func(f api.Flow) around) {
	t.Helper()
	if e := flow.Check(f); e != api.OK {
		check(t, name, f, 3, 1000, refused(e))
		checkHolds(t, name, f, slices.Repeat(windows(0, most), len(f.Tasks)), false)
		return
	}
	a := find(f)
	length := 0
	for v, n := range weights(f) {
		length = max(length, a.before[v]+n+a.after[v])
	}
	for _, now := range []int{0, 7, most - length} {
		if now < 0 {
			continue
		}
		for _, more := range []int{-1, 0, 1, 2, length / 2, length, 10*length + 3, most} {
			by := min(max(now+length+more, 0), most)
			check(t, name, f, now, by, wantAnswers(f, a, now, by))
		}
		checkKept(t, name, f, now, min(now+2*length+1, most))
	}
	behind := max(0, min(most-length+1, most))
	check(t, name, f, behind, most, wantAnswers(f, a, behind, most))
}

// checkKept does the tasks in their windows, as early and as late as can be: P3.
func checkKept(t *testing.T, name string, f api.Flow, now, by int) {
	t.Helper()
	got := ask(f, now, by)
	if got.errors[1] != api.OK {
		return
	}
	for v, n := range weights(f) {
		w, s := got.windows[v], got.shares[v]
		if w.From < now || w.By > by || s.From < now || s.By > by || w.By-w.From-n != got.slack[v] || s.By-s.From < n || got.slack[v] < 0 {
			t.Errorf("%s: of %s from %d to %d: %s", name, brief(f), now, by, got)
		}
		for _, u := range f.Tasks[v].After {
			early, latest := got.windows[u].From+weights(f)[u], w.By-n
			if early > w.From || got.windows[u].By > latest || got.shares[u].By > s.From {
				t.Errorf("%s: of %s from %d to %d: %s: %d does not wait for %d", name, brief(f), now, by, got, v, u)
			}
		}
	}
}

// small is the workflow, or what is none, whose links are the bits of links, and whose Walls are the digits of walls, 0 for one that is done.
func small(n, links, walls int) api.Flow {
	f := flowOf()
	for v := range n {
		x := task(fmt.Sprint("t", v), max(walls%3, 1))
		x.Done = walls%3 == 0
		walls /= 3
		for u := range n {
			if links>>(v*n+u)%2 == 1 {
				x.After = append(x.After, u)
			}
		}
		f.Tasks = append(f.Tasks, x)
	}
	return f
}

// All workflows of up to three tasks that are done, or take 1 or 2, also those with a cycle.
func TestAllSmallFlows(t *testing.T) {
	walls := 1
	for n := range 4 {
		for links := range 1 << (n * n) {
			for w := range walls {
				checkFlow(t, "small", small(n, links, w), byWays)
			}
		}
		walls *= 3
	}
}

// All workflows of four tasks that take 1, 2, 1 and 2, or of which some are done.
func TestAllFlowsOfFourTasks(t *testing.T) {
	flows := 0
	for links := range 1 << 16 {
		if flow.Check(small(4, links, 0)) != api.OK {
			continue
		}
		flows++
		for _, walls := range []int{0, 1 + 6 + 9 + 54, 2 + 0 + 18 + 27, 0 + 3 + 9 + 54} {
			checkFlow(t, "four tasks", small(4, links, walls), byWays)
		}
	}
	// There are so many acyclic graphs of four vertices.
	if flows != 543 {
		t.Errorf("%d workflows", flows)
	}
}

// dice returns numbers below n, always the same ones for the same seed.
func dice(seed uint64) func(n int) int {
	return func(n int) int {
		seed = seed*6364136223846793005 + 1442695040888963407
		return int(seed>>33) % n
	}
}

// drawn has n tasks that take up to wall, some of which are done. Each one waits for up to three others, whose indexes do not tell it.
func drawn(roll func(n int) int, n, wall int) api.Flow {
	f := flowOf(many(n)...)
	place := make([]int, n)
	for i := range place {
		k := roll(i + 1)
		place[i], place[k] = place[k], i
	}
	for i, v := range place {
		t := &f.Tasks[v]
		t.Wall, t.Done = 1+roll(wall), roll(5) == 0
		for range min(i, roll(4)) {
			t.After = append(t.After, place[roll(i)])
		}
		slices.Sort(t.After)
		t.After = slices.Compact(t.After)
	}
	return f
}

func TestDrawnFlows(t *testing.T) {
	roll := dice(8)
	for range 1500 {
		f := drawn(roll, roll(8), 1+roll(20))
		checkFlow(t, "drawn", f, byWays)
		checkFlow(t, "drawn", f, byMoving)
	}
	for range 60 {
		checkFlow(t, "drawn", drawn(roll, 10+roll(200), 1+roll(1000)), byMoving)
	}
}

// Walls so great that the products are beyond 64 bits, and that the length is not always a time.
func TestDrawnFlowsOfGreatWalls(t *testing.T) {
	roll := dice(88)
	for range 1500 {
		f := drawn(roll, 1+roll(8), 1<<20)
		for v := range f.Tasks {
			f.Tasks[v].Wall = most/(2+roll(9)) - roll(1<<20)
		}
		checkFlow(t, "great Walls", f, byWays)
	}
	for range 60 {
		n := 10 + roll(150)
		f := drawn(roll, n, 1<<20)
		for v := range f.Tasks {
			f.Tasks[v].Wall += roll(2*n) * (most / n / 20)
		}
		checkFlow(t, "great Walls", f, byMoving)
	}
}

// wantHolds asks everything of numbers without a limit.
func wantHolds(f api.Flow, l []api.Window) bool {
	if flow.Check(f) != api.OK || len(l) != len(f.Tasks) {
		return false
	}
	for v, n := range weights(f) {
		start := new(big.Int).Sub(big.NewInt(int64(l[v].By)), big.NewInt(int64(n)))
		if l[v].From < 0 || l[v].By > most || start.Cmp(big.NewInt(int64(l[v].From))) < 0 {
			return false
		}
		for _, u := range f.Tasks[v].After {
			if start.Cmp(big.NewInt(int64(l[u].By))) < 0 {
				return false
			}
		}
	}
	return true
}

// All windows from -1 to 3, and near the end of times, of workflows of two tasks.
func TestAllSmallWindows(t *testing.T) {
	var all []api.Window
	for from := -1; from < 4; from++ {
		for by := -1; by < 4; by++ {
			all = append(all, windows(from, by, most-2+from, most-2+by)...)
		}
	}
	for links := range 1 << 4 {
		for walls := range 9 {
			f := small(2, links, walls)
			for _, a := range all {
				for _, b := range all {
					l := []api.Window{a, b}
					checkHolds(t, "two windows", f, l, wantHolds(f, l))
				}
			}
		}
	}
}

// Windows that hold, some of whose numbers are moved.
func TestDrawnWindows(t *testing.T) {
	roll := dice(888)
	held := 0
	for range 3000 {
		f := drawn(roll, 1+roll(8), 1+roll(9))
		now := roll(2) * roll(20)
		earliest, _ := Earliest(f, now)
		got := ask(f, now, earliest+roll(3)*roll(9))
		for _, l := range [][]api.Window{got.windows, got.shares} {
			for range 4 {
				w := &l[roll(len(l))]
				w.From += roll(3) - 1
				w.By += roll(3) - 1
				want := wantHolds(f, l)
				checkHolds(t, "moved", f, l, want)
				if want {
					held++
				}
			}
		}
	}
	if held < 1000 || held > 23000 {
		t.Errorf("%d of 24000 hold", held)
	}
}

// flowOfBytes has a task for each four bytes, which tell its Wall, whether it is done, what it waits for, and a window for it.
func flowOfBytes(b []byte) (api.Flow, []api.Window) {
	f := flowOf()
	var l []api.Window
	for x := range slices.Chunk(b[:min(len(b), 28)], 4) {
		if len(x) < 4 {
			break
		}
		v := len(f.Tasks)
		t := task(fmt.Sprint("t", v), int(x[0])<<(x[1]>>2))
		t.Done = x[1]&1 == 1
		for u := range 7 {
			if x[2]>>u&1 == 1 && u != v && u < len(b)/4 {
				t.After = append(t.After, u)
			}
		}
		f.Tasks = append(f.Tasks, t)
		l = append(l, windows(int(int8(x[3]))<<(x[1]>>2), most-int(int8(x[3]^x[2]))<<(x[1]>>2))...)
	}
	return f, l
}

func FuzzFlow(f *testing.F) {
	f.Add([]byte{3, 0, 0, 0, 5, 0, 0, 0, 2, 0, 3, 0}, 10, 20)
	f.Add([]byte{255, 128, 2, 1, 255, 129, 0, 255}, 0, most)
	f.Add([]byte{255, 131, 0, 255, 9, 0, 1, 128, 255, 128, 3, 127}, most-9, most)
	f.Fuzz(func(t *testing.T, b []byte, now, by int) {
		g, l := flowOfBytes(b)
		checkFlow(t, "bytes", g, byWays)
		checkHolds(t, "bytes", g, l, wantHolds(g, l))
		isTime := func(n int) bool { return 0 <= n && n <= most }
		if flow.Check(g) == api.OK && isTime(now) && isTime(by) {
			check(t, "bytes", g, now, by, wantAnswers(g, byMoving(g), now, by))
		}
	})
}
