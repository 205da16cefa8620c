package life

import (
	"fmt"
	"slices"
	"strconv"
	"strings"
	"testing"

	"timekeeper/api"
)

// task has a node and a Wall, which are nothing to its life.
func task(name string, retry int, after ...int) api.Task {
	return api.Task{Name: name, Nodes: 1, Wall: 1, Retry: retry, After: after}
}

// done is t, done.
func done(t api.Task) api.Task {
	t.Done = true
	return t
}

func flowOf(tasks ...api.Task) api.Flow {
	return api.Flow{Name: "w", Tasks: tasks}
}

// example is the workflow of the chapter, and of the eighth example of the whole.
func example() api.Flow {
	return flowOf(task("a", 0), task("b", 0, 0))
}

// letters are those of the states, in the order of their numbers.
const letters = "WRSFDC"

// lifeOf is the life of these words: for each task the letter of its state, and its fails if there are any.
func lifeOf(words string) api.Life {
	var x api.Life
	for _, word := range strings.Fields(words) {
		fails, _ := strconv.Atoi("0" + word[1:])
		x.State = append(x.State, strings.Index(letters, word[:1]))
		x.Fails = append(x.Fails, fails)
	}
	return x
}

// numbers are those of these words.
func numbers(words string) []int {
	var l []int
	for _, word := range strings.Fields(words) {
		n, _ := strconv.Atoi(word)
		l = append(l, n)
	}
	return l
}

// short is the text of x, but not all of it if x is long.
func short(x any) string {
	return fmt.Sprintf("%.300s", fmt.Sprint(x))
}

// do changes x by these words: a call, and its task. Only Fail answers others that have died.
func do(f api.Flow, x api.Life, words string) (api.Life, []int, api.Errno) {
	call, number, _ := strings.Cut(words, " ")
	v, _ := strconv.Atoi(number)
	var e api.Errno
	var died []int
	switch call {
	case "begin":
		x, e = Begin(f)
	case "start":
		x, e = Start(f, x, v)
	case "succeed":
		x, e = Succeed(f, x, v)
	case "fail":
		x, died, e = Fail(f, x, v)
	case "again":
		x, e = Again(f, x, v)
	case "cancel":
		x, e = Cancel(f, x)
	default:
		panic(words)
	}
	return x, died, e
}

// turn is a change, and what has come of it: a life, which of its tasks are ready, how many are open, and which have died.
type turn struct {
	do    string
	life  string
	ready string
	open  int
	died  string
}

// checkStand asks for what is told of x.
func checkStand(t *testing.T, f api.Flow, x api.Life, ready []int, open int) {
	t.Helper()
	if e := Check(f, x); e != api.OK {
		t.Errorf("%s of %s: Check answers error %d", short(x), short(f), e)
	}
	if l, e := Ready(f, x); e != api.OK || !slices.Equal(l, ready) {
		t.Errorf("%s of %s: Ready is %s, error %d; asked for: %s", short(x), short(f), short(l), e, short(ready))
	}
	if n, e := Open(f, x); e != api.OK || n != open {
		t.Errorf("%s of %s: Open is %d, error %d; asked for: %d", short(x), short(f), n, e, open)
	}
}

// checkTurns makes these changes, one after the other.
func checkTurns(t *testing.T, f api.Flow, turns ...turn) {
	t.Helper()
	var x api.Life
	for i, y := range turns {
		before := x
		var died []int
		var e api.Errno
		x, died, e = do(f, before, y.do)
		want := lifeOf(y.life)
		if e != api.OK || !Same(x, want) || !slices.Equal(x.State, want.State) || !slices.Equal(x.Fails, want.Fails) {
			t.Fatalf("turn %d, %s of %v: %v, error %d; asked for: %v", i, y.do, before, x, e, want)
		}
		if !slices.Equal(died, numbers(y.died)) {
			t.Errorf("turn %d, %s of %v: %v have died; asked for: %s", i, y.do, before, died, y.died)
		}
		checkStand(t, f, x, numbers(y.ready), y.open)
	}
}

// checkRefused asks for an error of a change, and for nothing beside it.
func checkRefused(t *testing.T, f api.Flow, x api.Life, want api.Errno, changes ...string) {
	t.Helper()
	for _, words := range changes {
		y, died, e := do(f, x, words)
		if e != want || len(y.State) > 0 || len(y.Fails) > 0 || len(died) > 0 {
			t.Errorf("%s of %s of %s: %s, %s, error %d; asked for: error %d", words, short(x), short(f), short(y), short(died), e, want)
		}
	}
}

// checkRule asks whether these are lives of f.
func checkRule(t *testing.T, f api.Flow, want api.Errno, lives ...string) {
	t.Helper()
	for _, words := range lives {
		if e := Check(f, lifeOf(words)); e != want {
			t.Errorf("Check of %s of %s is error %d; asked for: %d", words, short(f), e, want)
		}
	}
}

func TestExample(t *testing.T) {
	checkTurns(t, example(),
		turn{"begin", "W W", "0", 2, ""},
		turn{"start 0", "R W", "", 2, ""},
		turn{"fail 0", "F1 D", "", 0, "1"},
	)
}

// The eighth example of the whole.
func TestExampleOfTheWhole(t *testing.T) {
	f := flowOf(task("b", 0, 1), task("a", 0))
	checkTurns(t, f, turn{"begin", "W W", "1", 2, ""}, turn{"start 1", "W R", "", 2, ""}, turn{"fail 1", "D F1", "", 0, "0"})
}

func TestNoTask(t *testing.T) {
	checkTurns(t, flowOf(), turn{"begin", "", "", 0, ""}, turn{"cancel", "", "", 0, ""}, turn{"begin", "", "", 0, ""})
	checkRefused(t, flowOf(), api.Life{}, api.ErrNone, "start 0", "succeed 0", "fail 0", "again 0", "start -1", "fail 1")
}

func TestOneTask(t *testing.T) {
	f := flowOf(task("a", 0))
	checkTurns(t, f, turn{"begin", "W", "0", 1, ""}, turn{"start 0", "R", "", 1, ""}, turn{"succeed 0", "S", "", 0, ""}, turn{"cancel", "S", "", 0, ""})
	checkTurns(t, f, turn{"begin", "W", "0", 1, ""}, turn{"start 0", "R", "", 1, ""}, turn{"fail 0", "F1", "", 0, ""}, turn{"cancel", "F1", "", 0, ""})
	checkTurns(t, f, turn{"begin", "W", "0", 1, ""}, turn{"start 0", "R", "", 1, ""}, turn{"again 0", "W", "0", 1, ""}, turn{"start 0", "R", "", 1, ""}, turn{"cancel", "C", "", 0, ""})
	checkTurns(t, f, turn{"begin", "W", "0", 1, ""}, turn{"cancel", "C", "", 0, ""}, turn{"cancel", "C", "", 0, ""})
}

func TestTaskThatIsTriedAgain(t *testing.T) {
	checkTurns(t, flowOf(task("a", 2), task("b", 0, 0)),
		turn{"begin", "W W", "0", 2, ""},
		turn{"start 0", "R W", "", 2, ""},
		turn{"fail 0", "W1 W", "0", 2, ""},
		turn{"start 0", "R1 W", "", 2, ""},
		turn{"again 0", "W1 W", "0", 2, ""},
		turn{"start 0", "R1 W", "", 2, ""},
		turn{"fail 0", "W2 W", "0", 2, ""},
		turn{"start 0", "R2 W", "", 2, ""},
		turn{"succeed 0", "S2 W", "1", 1, ""},
		turn{"start 1", "S2 R", "", 1, ""},
		turn{"fail 1", "S2 F1", "", 0, ""},
	)
}

func TestRow(t *testing.T) {
	f := flowOf(task("a", 0), task("b", 1, 0), task("c", 0, 1), task("d", 0, 2))
	checkTurns(t, f,
		turn{"begin", "W W W W", "0", 4, ""},
		turn{"start 0", "R W W W", "", 4, ""},
		turn{"succeed 0", "S W W W", "1", 3, ""},
		turn{"start 1", "S R W W", "", 3, ""},
		turn{"fail 1", "S W1 W W", "1", 3, ""},
		turn{"start 1", "S R1 W W", "", 3, ""},
		turn{"fail 1", "S F2 D D", "", 0, "2 3"},
	)
	checkTurns(t, f,
		turn{"begin", "W W W W", "0", 4, ""},
		turn{"start 0", "R W W W", "", 4, ""},
		turn{"fail 0", "F1 D D D", "", 0, "1 2 3"},
		turn{"cancel", "F1 D D D", "", 0, ""},
	)
}

// d waits for b and c, each of which waits for a.
func TestForkAndJoin(t *testing.T) {
	f := flowOf(task("a", 0), task("b", 0, 0), task("c", 0, 0), task("d", 0, 1, 2))
	checkTurns(t, f,
		turn{"begin", "W W W W", "0", 4, ""},
		turn{"start 0", "R W W W", "", 4, ""},
		turn{"succeed 0", "S W W W", "1 2", 3, ""},
		turn{"start 2", "S W R W", "1", 3, ""},
		turn{"start 1", "S R R W", "", 3, ""},
		turn{"succeed 1", "S S R W", "", 2, ""},
		turn{"succeed 2", "S S S W", "3", 1, ""},
		turn{"start 3", "S S S R", "", 1, ""},
		turn{"succeed 3", "S S S S", "", 0, ""},
		turn{"cancel", "S S S S", "", 0, ""},
	)
	checkTurns(t, f,
		turn{"begin", "W W W W", "0", 4, ""},
		turn{"start 0", "R W W W", "", 4, ""},
		turn{"succeed 0", "S W W W", "1 2", 3, ""},
		turn{"start 1", "S R W W", "2", 3, ""},
		turn{"fail 1", "S F1 W D", "2", 1, "3"},
		turn{"start 2", "S F1 R D", "", 1, ""},
		turn{"succeed 2", "S F1 S D", "", 0, ""},
	)
}

// The dead ones of one failed task are not told again by another.
func TestTwoFailed(t *testing.T) {
	f := flowOf(task("a", 0), task("b", 0), task("c", 0, 0), task("d", 0, 0, 1), task("e", 0, 1), task("f", 0, 3), task("g", 0, 4), task("h", 0))
	checkTurns(t, f,
		turn{"begin", "W W W W W W W W", "0 1 7", 8, ""},
		turn{"start 1", "W R W W W W W W", "0 7", 8, ""},
		turn{"start 0", "R R W W W W W W", "7", 8, ""},
		turn{"fail 0", "F1 R D D W D W W", "7", 4, "2 3 5"},
		turn{"fail 1", "F1 F1 D D D D D W", "7", 1, "4 6"},
		turn{"cancel", "F1 F1 D D D D D C", "", 0, ""},
	)
}

// What waits for a task can have a lesser number, and the dead are in ascending order all the same.
func TestDeadAreAscending(t *testing.T) {
	f := flowOf(task("f", 0, 2), task("e", 0, 5), task("d", 0, 1), task("c", 0), task("b", 0, 5), task("a", 0))
	checkTurns(t, f,
		turn{"begin", "W W W W W W", "3 5", 6, ""},
		turn{"start 5", "W W W W W R", "3", 6, ""},
		turn{"fail 5", "D D D W D F1", "3", 1, "0 1 2 4"},
	)
}

// Done tasks at the begin, in the middle, and at the end.
func TestDoneTasks(t *testing.T) {
	checkTurns(t, flowOf(done(task("a", 3)), task("b", 0, 0), task("c", 0, 1)),
		turn{"begin", "S W W", "1", 2, ""},
		turn{"start 1", "S R W", "", 2, ""},
		turn{"fail 1", "S F1 D", "", 0, "2"},
	)
	checkTurns(t, flowOf(task("a", 0), done(task("b", 0, 0)), task("c", 0, 1)),
		turn{"begin", "W S W", "0 2", 2, ""},
		turn{"start 2", "W S R", "0", 2, ""},
		turn{"succeed 2", "W S S", "0", 1, ""},
		turn{"start 0", "R S S", "", 1, ""},
		turn{"fail 0", "F1 S S", "", 0, ""},
	)
	checkTurns(t, flowOf(task("a", 0), task("b", 0, 0), done(task("c", 0, 1))),
		turn{"begin", "W W S", "0", 2, ""},
		turn{"start 0", "R W S", "", 2, ""},
		turn{"fail 0", "F1 D S", "", 0, "1"},
	)
}

// Behind done tasks nothing dies, but over another way it does.
func TestDeathAndDoneTasks(t *testing.T) {
	f := flowOf(task("a", 0), done(task("b", 0, 0)), done(task("c", 0, 1)), task("d", 0, 2), task("e", 0, 3), task("f", 0, 0), task("g", 0, 2, 5))
	checkTurns(t, f,
		turn{"begin", "W S S W W W W", "0 3", 5, ""},
		turn{"start 0", "R S S W W W W", "3", 5, ""},
		turn{"fail 0", "F1 S S W W D D", "3", 2, "5 6"},
		turn{"start 3", "F1 S S R W D D", "", 2, ""},
		turn{"fail 3", "F1 S S F1 D D D", "", 0, "4"},
	)
}

func TestAllDone(t *testing.T) {
	f := flowOf(done(task("a", 0, 1)), done(task("b", 20)), done(task("c", 0, 0)))
	checkTurns(t, f, turn{"begin", "S S S", "", 0, ""}, turn{"cancel", "S S S", "", 0, ""})
	checkRefused(t, f, lifeOf("S S S"), api.ErrState, "start 0", "succeed 1", "fail 2", "again 0")
}

func TestCancel(t *testing.T) {
	f := flowOf(task("a", 1), task("b", 0, 0), task("c", 0), task("d", 0, 2), done(task("e", 0)), task("f", 0))
	checkTurns(t, f, turn{"begin", "W W W W S W", "0 2 5", 5, ""}, turn{"cancel", "C C C C S C", "", 0, ""}, turn{"cancel", "C C C C S C", "", 0, ""})
	checkTurns(t, f,
		turn{"begin", "W W W W S W", "0 2 5", 5, ""},
		turn{"start 5", "W W W W S R", "0 2", 5, ""},
		turn{"start 0", "R W W W S R", "2", 5, ""},
		turn{"fail 0", "W1 W W W S R", "0 2", 5, ""},
		turn{"start 0", "R1 W W W S R", "2", 5, ""},
		turn{"succeed 5", "R1 W W W S S", "2", 4, ""},
		turn{"start 2", "R1 W R W S S", "", 4, ""},
		turn{"fail 2", "R1 W F1 D S S", "", 2, "3"},
		turn{"cancel", "C1 C F1 D S S", "", 0, ""},
		turn{"cancel", "C1 C F1 D S S", "", 0, ""},
	)
	checkRefused(t, f, lifeOf("C1 C F1 D S S"), api.ErrState, "start 0", "start 1", "succeed 0", "fail 1", "again 0", "again 3", "start 2")
}

// The lives that follow one another are all still there.
func TestLivesStay(t *testing.T) {
	f := example()
	first, _ := Begin(f)
	second, _ := Start(f, first, 0)
	third, died, _ := Fail(f, second, 0)
	again, _ := Again(f, second, 0)
	succeeded, _ := Succeed(f, second, 0)
	cancelled, _ := Cancel(f, second)
	for i, x := range []struct {
		got  api.Life
		want string
	}{{first, "W W"}, {second, "R W"}, {third, "F1 D"}, {again, "W W"}, {succeeded, "S W"}, {cancelled, "C C"}} {
		if !Same(x.got, lifeOf(x.want)) {
			t.Errorf("life %d is %v; asked for: %s", i, x.got, x.want)
		}
	}
	if !slices.Equal(died, []int{1}) {
		t.Errorf("%v have died", died)
	}
}
