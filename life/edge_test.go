package life

import (
	"math"
	"slices"
	"strings"
	"testing"

	"timekeeper/api"
)

// Retry 0, 1 and its greatest: so often a task that fails waits again, and then no more.
func TestRetries(t *testing.T) {
	for _, retry := range []int{0, 1, 2, api.MaxRetry} {
		f := flowOf(task("a", retry), task("b", api.MaxRetry, 0))
		x, _ := Begin(f)
		for i := range retry + 1 {
			if x.State[0] != api.Waiting || x.Fails[0] != i {
				t.Errorf("Retry %d: after %d fails %v", retry, i, x)
			}
			checkStand(t, f, x, []int{0}, 2)
			x, _ = Start(f, x, 0)
			y, died, e := Fail(f, x, 0)
			if isLast := i == retry; e != api.OK || slices.Equal(died, []int{1}) != isLast || (y.State[0] == api.Failed) != isLast || (y.State[1] == api.Dead) != isLast {
				t.Errorf("Retry %d, fail %d: %v, %v, error %d", retry, i+1, y, died, e)
			}
			x = y
		}
		if want := (api.Life{State: []int{api.Failed, api.Dead}, Fails: []int{retry + 1, 0}}); !Same(x, want) {
			t.Errorf("Retry %d: at the end %v; asked for: %v", retry, x, want)
		}
		checkStand(t, f, x, nil, 0)
	}
}

// Fails just at Retry, one beyond, and others.
func TestFailsOfCheck(t *testing.T) {
	for _, retry := range []int{0, 1, 5, api.MaxRetry} {
		f := flowOf(task("a", retry))
		for state := range letters {
			for _, fails := range []int{math.MinInt, -1, 0, 1, retry - 1, retry, retry + 1, retry + 2, api.MaxRetry + 1, math.MaxInt} {
				want := api.OK
				isFailed := state == api.Failed
				if fails < 0 || fails > retry+1 || isFailed && fails <= retry || !isFailed && fails > retry || state == api.Dead {
					want = api.ErrArg
				}
				if e := Check(f, api.Life{State: []int{state}, Fails: []int{fails}}); e != want {
					t.Errorf("Retry %d, state %d, fails %d: error %d; asked for: %d", retry, state, fails, e, want)
				}
			}
		}
	}
}

func TestStatesOfCheck(t *testing.T) {
	f := flowOf(task("a", 2))
	for _, state := range []int{math.MinInt, -1, 6, 7, math.MaxInt} {
		if e := Check(f, api.Life{State: []int{state}, Fails: []int{0}}); e != api.ErrArg {
			t.Errorf("state %d: error %d", state, e)
		}
	}
	checkRule(t, f, api.OK, "W", "W2", "R", "R2", "S", "S2", "F3", "C", "C2")
	checkRule(t, f, api.ErrArg, "", "W W", "F", "F2", "F4", "D", "W3", "R3", "S3", "C3")
}

// As many State and Fails as tasks, one fewer, and one more.
func TestLengths(t *testing.T) {
	for n := range 4 {
		f := flowOf(slices.Clone([]api.Task{task("a", 0), task("b", 0), done(task("c", 0))})[:n]...)
		right, _ := Begin(f)
		for states := range 6 {
			for fails := range 6 {
				x := api.Life{State: make([]int, states), Fails: make([]int, fails)}
				copy(x.State, right.State)
				want := api.ErrArg
				if states == n && fails == n {
					want = api.OK
				}
				if e := Check(f, x); e != want {
					t.Errorf("%d tasks, %d State, %d Fails: error %d; asked for: %d", n, states, fails, e, want)
				}
			}
		}
	}
}

// What a task waits for has to have succeeded before it runs, fails or succeeds; but a task that was done before has not waited.
func TestWhatIsWaitedFor(t *testing.T) {
	f := flowOf(task("a", 0), task("b", 0), task("c", 0, 0, 1))
	checkRule(t, f, api.OK, "S S R", "S S S", "S S F1", "S S W", "S S C", "S R W", "W S W", "F1 S D", "S F1 D", "C S C", "S C C", "F1 F1 D")
	checkRule(t, f, api.ErrArg, "S R R", "R S R", "S W R", "W S S", "S R S", "R S F1", "S W F1", "S F1 R", "F1 S S", "F1 S F1", "S F1 F1", "C S S", "S C F1", "C C S")
	f = flowOf(task("a", 0), done(task("b", 0, 0)), task("c", 0, 1))
	checkRule(t, f, api.OK, "W S W", "R S R", "F1 S S", "C S C", "C S S", "F1 S F1", "S S F1", "F1 S R", "F1 S C")
	checkRule(t, f, api.ErrArg, "S W W", "S R W", "W W W", "S F1 D", "S F1 W", "F1 D D", "F1 D W", "C C C", "S C S", "F1 S D", "W S D")
}

// A task is dead if two failed ones are ahead of it, as if it were one.
func TestDeadOfTwo(t *testing.T) {
	f := flowOf(task("a", 0), task("b", 0), task("c", 0, 0, 1), task("d", 0, 2))
	checkRule(t, f, api.OK, "F1 F1 D D", "F1 S D D", "S F1 D D", "W F1 D D", "F1 R D D", "F1 C D D", "S S F1 D")
	checkRule(t, f, api.ErrArg, "F1 F1 W D", "F1 F1 D W", "F1 F1 W W", "F1 W W W", "S S D D", "W W W D", "S S F1 W", "S S F1 S", "F1 F1 D S", "F1 F1 D F1", "F1 C C C", "C C D D", "F1 F1 D C")
	checkTurns(t, f,
		turn{"begin", "W W W W", "0 1", 4, ""},
		turn{"start 0", "R W W W", "1", 4, ""},
		turn{"start 1", "R R W W", "", 4, ""},
		turn{"fail 1", "R F1 D D", "", 1, "2 3"},
		turn{"fail 0", "F1 F1 D D", "", 0, ""},
	)
}

// A task behind a done one behind a failed one waits all the same, however many done ones there are.
func TestBehindDoneTasks(t *testing.T) {
	f := flowOf(task("a", 0), done(task("b", 0, 0)), done(task("c", 0, 1)), task("d", 0, 2), task("e", 0, 3))
	checkTurns(t, f,
		turn{"begin", "W S S W W", "0 3", 3, ""},
		turn{"start 0", "R S S W W", "3", 3, ""},
		turn{"fail 0", "F1 S S W W", "3", 2, ""},
		turn{"start 3", "F1 S S R W", "", 2, ""},
		turn{"again 3", "F1 S S W W", "3", 2, ""},
		turn{"start 3", "F1 S S R W", "", 2, ""},
		turn{"succeed 3", "F1 S S S W", "4", 1, ""},
		turn{"cancel", "F1 S S S C", "", 0, ""},
	)
	checkRule(t, f, api.ErrArg, "F1 S S D D", "F1 S S W D", "F1 S S D W", "F1 S D W W", "F1 D S W W", "F1 W S W W")
	// But d is dead, if it also waits for a itself.
	f.Tasks[3].After = []int{0, 2}
	checkRule(t, f, api.OK, "F1 S S D D")
	checkRule(t, f, api.ErrArg, "F1 S S W W", "F1 S S W D", "F1 S S D W")
}

// What is cancelled is cancelled as a whole.
func TestCancelledOfCheck(t *testing.T) {
	f := flowOf(task("a", 0), task("b", 0, 0), task("c", 1), done(task("d", 0)))
	checkRule(t, f, api.OK, "C C C S", "S C C S", "S C S S", "F1 D C S", "C C F2 S", "S F1 C1 S", "S S C S", "F1 D F2 S")
	checkRule(t, f, api.ErrArg, "C C W S", "C C R S", "W C C S", "R C C S", "S W C S", "S R C S", "C W S S", "W W C1 S", "C C C C", "W C W S", "F1 C C S")
}

func TestTasksThatAreNone(t *testing.T) {
	for _, f := range []api.Flow{flowOf(), example(), flowOf(task("a", 0), task("b", 0), done(task("c", 0)))} {
		x, _ := Begin(f)
		for _, v := range []int{math.MinInt, -2, -1, len(f.Tasks), len(f.Tasks) + 1, api.MaxTasks, math.MaxInt} {
			y, e1 := Start(f, x, v)
			z, e2 := Succeed(f, x, v)
			a, died, e3 := Fail(f, x, v)
			b, e4 := Again(f, x, v)
			if e1 != api.ErrNone || e2 != api.ErrNone || e3 != api.ErrNone || e4 != api.ErrNone {
				t.Errorf("task %d of %v: errors %d %d %d %d", v, f, e1, e2, e3, e4)
			}
			for _, l := range []api.Life{y, z, a, b} {
				if len(l.State) > 0 || len(l.Fails) > 0 || len(died) > 0 {
					t.Errorf("task %d of %v: %v, %v", v, f, l, died)
				}
			}
		}
	}
}

// The first and the last task, in each state.
func TestStatesOfTheCalls(t *testing.T) {
	f := flowOf(task("a", 1), task("b", 1))
	calls := []string{"start", "succeed", "fail", "again"}
	for _, x := range []struct {
		word  string
		takes string
		makes []string
	}{
		{"W", "start", []string{"R"}}, {"W1", "start", []string{"R1"}},
		{"R", "succeed fail again", []string{"S", "W1", "W"}}, {"R1", "succeed fail again", []string{"S1", "F2", "W1"}},
		{"S", "", nil}, {"S1", "", nil}, {"F2", "", nil},
	} {
		for _, call := range calls {
			i := slices.Index(strings.Fields(x.takes), call)
			if i < 0 {
				checkRefused(t, f, lifeOf(x.word+" W"), api.ErrState, call+" 0")
				checkRefused(t, f, lifeOf("R "+x.word), api.ErrState, call+" 1")
				continue
			}
			for _, other := range []string{"W", "R", "R1", "S", "F2"} {
				checkChange(t, f, x.word+" "+other, call+" 0", x.makes[i]+" "+other)
				checkChange(t, f, other+" "+x.word, call+" 1", other+" "+x.makes[i])
			}
		}
	}
	checkRefused(t, f, lifeOf("C C1"), api.ErrState, "start 0", "start 1", "succeed 0", "succeed 1", "fail 0", "fail 1", "again 0", "again 1")
	checkRefused(t, flowOf(task("a", 0), task("b", 0, 0)), lifeOf("F1 D"), api.ErrState, "start 1", "succeed 1", "fail 1", "again 1")
	checkRefused(t, flowOf(task("a", 0), task("b", 0, 0)), lifeOf("R W"), api.ErrState, "start 1", "succeed 1", "fail 1", "again 1")
}

// checkChange asks for the life that comes of a change.
func checkChange(t *testing.T, f api.Flow, before string, words string, after string) {
	t.Helper()
	if y, died, e := do(f, lifeOf(before), words); e != api.OK || !Same(y, lifeOf(after)) || len(died) > 0 {
		t.Errorf("%s of %s: %v, %v, error %d; asked for: %s", words, before, y, died, e, after)
	}
}

func TestSame(t *testing.T) {
	lives := []api.Life{
		{}, {State: []int{0}}, {Fails: []int{0}}, {State: []int{0}, Fails: []int{0}}, {State: []int{1}, Fails: []int{0}}, {State: []int{0}, Fails: []int{1}}, {State: []int{1}, Fails: []int{1}},
		{State: []int{0, 0}, Fails: []int{0}}, {State: []int{0}, Fails: []int{0, 0}}, {State: []int{0, 0}, Fails: []int{0, 0}}, {State: []int{0, 1}, Fails: []int{0, 0}}, {State: []int{0, 0}, Fails: []int{0, 1}},
		{State: []int{-9, math.MaxInt}, Fails: []int{math.MinInt}}, {State: []int{-9, math.MaxInt}, Fails: []int{math.MinInt + 1}}, lifeOf("W R S F1 D C"), lifeOf("W R S F D1 C"),
	}
	for i, a := range lives {
		for k, b := range lives {
			other := api.Life{State: slices.Clone(b.State), Fails: slices.Clone(b.Fails)}
			if got := Same(a, other); got != (i == k) {
				t.Errorf("Same of %v and %v is %v", a, b, got)
			}
		}
	}
	if !Same(api.Life{State: []int{}, Fails: nil}, api.Life{State: nil, Fails: []int{}}) {
		t.Error("an empty list is not the same as none")
	}
}
