package life

import (
	"fmt"
	"slices"
	"testing"

	"timekeeper/api"
	"timekeeper/flow"
)

// The answers of this package, found by another way: task by task, again and again, and without a graph.

// dying are the tasks that others that have failed make dead: the deaths spread, from one task to the next, until there are no more.
func dying(f api.Flow, x api.Life) []bool {
	dead := make([]bool, len(f.Tasks))
	for range f.Tasks {
		for v, t := range f.Tasks {
			for _, u := range t.After {
				if !t.Done && (x.State[u] == api.Failed || dead[u]) {
					dead[v] = true
				}
			}
		}
	}
	return dead
}

// hasAll reports whether all that v waits for have succeeded.
func hasAll(f api.Flow, x api.Life, v int) bool {
	for _, u := range f.Tasks[v].After {
		if x.State[u] != api.Succeeded {
			return false
		}
	}
	return true
}

// isLife is Check: each rule of the chapter by itself.
func isLife(f api.Flow, x api.Life) bool {
	n := len(f.Tasks)
	if len(x.State) != n || len(x.Fails) != n {
		return false
	}
	for v, t := range f.Tasks {
		s, k := x.State[v], x.Fails[v]
		rules := []bool{
			s >= api.Waiting && s <= api.Cancelled,
			k >= 0 && k <= t.Retry+1,
			(k == t.Retry+1) == (s == api.Failed),
			!t.Done || s == api.Succeeded && k == 0,
			s != api.Running && s != api.Failed && (s != api.Succeeded || t.Done) || hasAll(f, x, v),
			(s == api.Dead) == dying(f, x)[v],
			!slices.Contains(x.State, api.Cancelled) || s != api.Waiting && s != api.Running,
		}
		if slices.Contains(rules, false) {
			return false
		}
	}
	return true
}

// isOpen reports whether a task in that state waits or runs.
func isOpen(state int) bool {
	return state == api.Waiting || state == api.Running
}

func wantReady(f api.Flow, x api.Life) []int {
	var l []int
	for v := range f.Tasks {
		if x.State[v] == api.Waiting && hasAll(f, x, v) {
			l = append(l, v)
		}
	}
	return l
}

func wantOpen(x api.Life) int {
	n := 0
	for _, s := range x.State {
		if isOpen(s) {
			n++
		}
	}
	return n
}

func copied(x api.Life) api.Life {
	return api.Life{State: slices.Clone(x.State), Fails: slices.Clone(x.Fails)}
}

// wantDo is what comes of a change to a life: the next one, and which have died.
func wantDo(f api.Flow, x api.Life, call string, v int) (api.Life, []int, api.Errno) {
	y := copied(x)
	if call == "cancel" {
		for v, s := range x.State {
			if isOpen(s) {
				y.State[v] = api.Cancelled
			}
		}
		return y, nil, api.OK
	}
	if v < 0 || v >= len(f.Tasks) {
		return api.Life{}, nil, api.ErrNone
	}
	isReady := slices.Contains(wantReady(f, x), v)
	if call == "start" && !isReady || call != "start" && x.State[v] != api.Running {
		return api.Life{}, nil, api.ErrState
	}
	var died []int
	switch call {
	case "start":
		y.State[v] = api.Running
	case "succeed":
		y.State[v] = api.Succeeded
	case "again":
		y.State[v] = api.Waiting
	case "fail":
		y.Fails[v] = x.Fails[v] + 1
		if y.State[v] = api.Waiting; y.Fails[v] > f.Tasks[v].Retry {
			y.State[v] = api.Failed
			for w, isDead := range dying(f, y) {
				if isDead && x.State[w] != api.Dead {
					y.State[w] = api.Dead
					died = append(died, w)
				}
			}
		}
	}
	return y, died, api.OK
}

// changes are all that can be made.
func changes() []string {
	return []string{"start", "succeed", "fail", "again", "cancel"}
}

// checkChanges makes all changes to a life, also those that are refused, and returns the lives that come of it.
func checkChanges(t *testing.T, f api.Flow, x api.Life) []api.Life {
	t.Helper()
	checkStand(t, f, x, wantReady(f, x), wantOpen(x))
	var next []api.Life
	for _, call := range changes() {
		for v := -1; v <= len(f.Tasks); v++ {
			words := fmt.Sprint(call, " ", v)
			want, wantDied, wantE := wantDo(f, x, call, v)
			y, died, e := do(f, x, words)
			if !Same(y, want) || !slices.Equal(y.State, want.State) || !slices.Equal(y.Fails, want.Fails) || !slices.Equal(died, wantDied) || e != wantE {
				t.Errorf("%s of %v of %v: %v, %v, error %d; asked for: %v, %v, error %d", words, x, f, y, died, e, want, wantDied, wantE)
			}
			if e != api.OK {
				continue
			}
			if e := Check(f, y); e != api.OK || !isLife(f, y) {
				t.Errorf("%s of %v of %v: %v, of which Check answers error %d", words, x, f, y, e)
			}
			next = append(next, y)
		}
	}
	return next
}

// small are all workflows of n tasks of these kinds, each with all ways to wait for others that make no cycle.
func small(n int, kinds ...api.Task) []api.Flow {
	all := []api.Flow{flowOf()}
	for v := range n {
		var longer []api.Flow
		for _, f := range all {
			for _, t := range kinds {
				for links := range 1 << n {
					g := flow.Copy(f)
					t := t
					t.Name, t.After = fmt.Sprint("t", v), nil
					for u := range n {
						if links>>u&1 == 1 {
							t.After = append(t.After, u)
						}
					}
					g.Tasks = append(g.Tasks, t)
					longer = append(longer, g)
				}
			}
		}
		all = longer
	}
	return slices.DeleteFunc(all, func(f api.Flow) bool { return flow.Check(f) != api.OK })
}

// eachLife calls yield with all lists of n states, also some that are none, and n fails.
func eachLife(n int, leastState, mostState, leastFails, mostFails int, yield func(x api.Life)) {
	x := api.Life{State: make([]int, n), Fails: make([]int, n)}
	var set func(v int)
	set = func(v int) {
		if v == n {
			yield(x)
			return
		}
		for x.State[v] = leastState; x.State[v] <= mostState; x.State[v]++ {
			for x.Fails[v] = leastFails; x.Fails[v] <= mostFails; x.Fails[v]++ {
				set(v + 1)
			}
		}
	}
	set(0)
}

// checkAllLives asks of all these lists whether they are a life, and makes all changes to those that are.
func checkAllLives(t *testing.T, f api.Flow, leastState, mostState, leastFails, mostFails int) {
	t.Helper()
	eachLife(len(f.Tasks), leastState, mostState, leastFails, mostFails, func(x api.Life) {
		want := api.ErrArg
		if isLife(f, x) {
			want = api.OK
		}
		if e := Check(f, x); e != want {
			t.Errorf("Check of %v of %v is error %d; asked for: %d", x, f, e, want)
		}
		if want == api.OK {
			checkChanges(t, f, x)
		}
	})
}

func TestAllLives(t *testing.T) {
	kinds := []api.Task{task("", 0), task("", 1), done(task("", 0)), done(task("", 1))}
	for n := range 3 {
		for _, f := range small(n, kinds...) {
			checkAllLives(t, f, -1, 6, -1, 3)
		}
	}
	for _, f := range small(3, kinds[0], kinds[2]) {
		checkAllLives(t, f, 0, 5, 0, 1)
	}
}

// Four tasks that have been tried as often as they may be if they have failed, and not before.
func TestAllStatesOfFour(t *testing.T) {
	for _, f := range small(4, task("", 0)) {
		eachLife(4, 0, 5, 0, 0, func(x api.Life) {
			for v, s := range x.State {
				if s == api.Failed {
					x.Fails[v] = 1
				}
			}
			if want := isLife(f, x); (Check(f, x) == api.OK) != want {
				t.Errorf("Check of %v of %v; asked for: %v", x, f, want)
			}
			clear(x.Fails)
		})
	}
}

// checkReached makes all changes to each life that can be reached from the begin on, and returns how many these are.
func checkReached(t *testing.T, f api.Flow) int {
	t.Helper()
	first, e := Begin(f)
	if e != api.OK || !isLife(f, first) || wantOpen(first) != len(f.Tasks)-len(slices.DeleteFunc(slices.Clone(first.State), isOpen)) {
		t.Fatalf("Begin of %v is %v, error %d", f, first, e)
	}
	reached := []api.Life{first}
	seen := map[string]int{fmt.Sprint(first): 1}
	for i := 0; i < len(reached); i++ {
		for _, y := range checkChanges(t, f, reached[i]) {
			if seen[fmt.Sprint(y)]++; seen[fmt.Sprint(y)] == 1 {
				reached = append(reached, y)
			}
		}
	}
	return len(reached)
}

func TestAllReached(t *testing.T) {
	for n := range 3 {
		for _, f := range small(n, task("", 0), task("", 1), task("", 2), done(task("", 0))) {
			checkReached(t, f)
		}
	}
	for _, f := range small(3, task("", 0), task("", 1), done(task("", 0))) {
		checkReached(t, f)
	}
}

// How many lives there are from begin to end can be counted by hand.
func TestCountOfReached(t *testing.T) {
	for _, x := range []struct {
		f    api.Flow
		want int
	}{
		{flowOf(), 1}, {flowOf(task("a", 0)), 5}, {flowOf(task("a", 1)), 9}, {flowOf(done(task("a", 1))), 1}, {flowOf(task("a", 0), task("b", 0)), 4*4 + 3*3 - 2*2},
		// W W, R W, F1 D, then S with each of five, and C C.
		{example(), 9},
	} {
		if got := checkReached(t, x.f); got != x.want {
			t.Errorf("%v: %d lives are reached; asked for: %d", x.f, got, x.want)
		}
	}
}

// dice returns numbers below n, always the same ones for the same seed.
func dice(seed uint64) func(n int) int {
	return func(n int) int {
		seed = seed*6364136223846793005 + 1442695040888963407
		return int(seed>>33) % n
	}
}

// drawnFlow has n tasks, each pair of which waits for one another in one case of many, in a direction that the indexes do not tell.
func drawnFlow(roll func(n int) int, n, many, retries int) api.Flow {
	index := make([]int, n)
	for i := range index {
		k := roll(i + 1)
		index[i], index[k] = index[k], i
	}
	tasks := make([]api.Task, n)
	for i, v := range index {
		tasks[v] = task(fmt.Sprint("t", v), roll(retries+1))
		tasks[v].Done = roll(5) == 0
		for k := range i {
			if roll(many) == 0 {
				tasks[v].After = append(tasks[v].After, index[k])
			}
		}
		slices.Sort(tasks[v].After)
	}
	return flowOf(tasks...)
}

// drawnChange makes one of all changes that are allowed, seldom Cancel. At the end there is none but that.
func drawnChange(t *testing.T, roll func(n int) int, f api.Flow, x api.Life) (api.Life, bool) {
	next := checkChanges(t, f, x)
	// Cancel comes last, once for each number that the other calls were asked for.
	others := next[:len(next)-len(f.Tasks)-2]
	if len(others) == 0 {
		return api.Life{}, false
	}
	if roll(40) == 0 {
		return next[len(next)-1], true
	}
	return others[roll(len(others))], true
}

func TestDrawnLives(t *testing.T) {
	roll := dice(13)
	for range 150 {
		f := drawnFlow(roll, 1+roll(12), 1+roll(5), roll(3))
		x, e := Begin(f)
		if e != api.OK {
			t.Fatalf("Begin of %v: error %d", f, e)
		}
		for isOn := true; isOn && !t.Failed(); {
			checkBroken(t, roll, f, x)
			x, isOn = drawnChange(t, roll, f, x)
		}
	}
}

// checkBroken asks whether it is still a life, if one number of it is another.
func checkBroken(t *testing.T, roll func(n int) int, f api.Flow, x api.Life) {
	t.Helper()
	for range 20 {
		y := copied(x)
		if v := roll(len(f.Tasks)); roll(2) == 0 {
			y.State[v] = roll(8) - 1
		} else {
			y.Fails[v] = roll(5) - 1
		}
		if want := isLife(f, y); (Check(f, y) == api.OK) != want {
			t.Errorf("Check of %v of %v; asked for: %v", y, f, want)
		}
	}
}

// Whatever the numbers, all calls answer what the rules tell.
func FuzzCalls(f *testing.F) {
	f.Add([]byte{3, 0, 1, 2, 4, 1, 3}, []byte{0, 0, 4, 1, 2, 9})
	f.Add([]byte{5, 1, 0, 9, 2, 8, 1, 3, 3}, []byte{0, 2, 0, 2, 6, 12, 18, 3})
	f.Add([]byte{0}, []byte{4})
	f.Fuzz(func(t *testing.T, tasks []byte, calls []byte) {
		w := fuzzedFlow(tasks)
		x, e := Begin(w)
		if want := flow.Check(w); e != want {
			t.Fatalf("Begin of %v: error %d; asked for: %d", w, e, want)
		}
		if e != api.OK {
			checkRefused(t, w, x, e, "begin", "start 0", "succeed 0", "fail 0", "again 0", "cancel")
			return
		}
		for i, c := range calls[:min(len(calls), 60)] {
			if c >= 250 && len(w.Tasks) > 0 {
				y := copied(x)
				y.State[i%len(w.Tasks)] = int(c) - 252
				if want := isLife(w, y); (Check(w, y) == api.OK) != want {
					t.Errorf("Check of %v of %v; asked for: %v", y, w, want)
				}
				continue
			}
			call, v := changes()[int(c)%5], int(c)/5-1
			want, wantDied, wantE := wantDo(w, x, call, v)
			y, died, e := do(w, x, fmt.Sprint(call, " ", v))
			if !Same(y, want) || !slices.Equal(died, wantDied) || e != wantE {
				t.Fatalf("%s %d of %v of %v: %v, %v, error %d; asked for: %v, %v, error %d", call, v, x, w, y, died, e, want, wantDied, wantE)
			}
			if e == api.OK {
				x = y
				checkStand(t, w, x, wantReady(w, x), wantOpen(x))
			}
		}
	})
}

// fuzzedFlow takes for each task its retries and whether it is done, and for each one ahead of it whether it waits for that. It may be wrong.
func fuzzedFlow(b []byte) api.Flow {
	next := func() int {
		if len(b) == 0 {
			return 0
		}
		n := int(b[0])
		b = b[1:]
		return n
	}
	n := next() % 9
	f := flowOf()
	for v := range n {
		k := next()
		t := task(fmt.Sprint("t", v), k%4)
		t.Done = k/4%4 == 0
		for u, links := 0, next(); u < n; u++ {
			// A bit of what is to come would make cycles most of the time.
			if links>>u&1 == 1 && (u < v || k > 250) {
				t.After = append(t.After, u)
			}
		}
		f.Tasks = append(f.Tasks, t)
	}
	return f
}
