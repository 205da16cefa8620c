package rescue

import (
	"fmt"
	"slices"
	"strconv"
	"strings"
	"testing"

	"timekeeper/api"
	"timekeeper/flow"
	"timekeeper/life"
)

// task has a node and a Wall, which are nothing to its life.
func task(name string, retry int, after ...int) api.Task {
	return api.Task{Name: name, Nodes: 1, Wall: 1, Retry: retry, After: after}
}

// done is t, done.
func done(t api.Task) api.Task {
	t.Done = true
	return t
}

func flowOf(tasks ...api.Task) api.Flow {
	return api.Flow{Name: "w", Tasks: tasks}
}

// example is the workflow of the chapter.
func example() api.Flow {
	return flowOf(task("a", 0), task("b", 0, 0))
}

// letters are those of the states, in the order of their numbers.
const letters = "WRSFDC"

// lifeOf is the life of these words: for each task the letter of its state, and its fails if there are any.
func lifeOf(words string) api.Life {
	var x api.Life
	for _, word := range strings.Fields(words) {
		fails, _ := strconv.Atoi("0" + word[1:])
		x.State = append(x.State, strings.Index(letters, word[:1]))
		x.Fails = append(x.Fails, fails)
	}
	return x
}

// numbers are those of these words.
func numbers(words string) []int {
	var l []int
	for _, word := range strings.Fields(words) {
		n, _ := strconv.Atoi(word)
		l = append(l, n)
	}
	return l
}

// lines joins lines, each with a line feed.
func lines(l ...string) string {
	return strings.Join(append(slices.Clip(l), ""), "\n")
}

// short is the text of x, but not all of it if x is long.
func short(x any) string {
	return fmt.Sprintf("%.300s", fmt.Sprint(x))
}

// do changes x by these words: a call, and its task.
func do(t *testing.T, f api.Flow, x api.Life, words string) api.Life {
	t.Helper()
	call, number, _ := strings.Cut(words, " ")
	v, _ := strconv.Atoi(number)
	var e api.Errno
	switch call {
	case "begin":
		x, e = life.Begin(f)
	case "start":
		x, e = life.Start(f, x, v)
	case "succeed":
		x, e = life.Succeed(f, x, v)
	case "fail":
		x, _, e = life.Fail(f, x, v)
	case "again":
		x, e = life.Again(f, x, v)
	case "cancel":
		x, e = life.Cancel(f, x)
	default:
		panic(words)
	}
	if e != api.OK {
		t.Fatalf("%s of %s: error %d", words, short(f), e)
	}
	return x
}

// turn is a change, and what is told of the life that has come of it: its lines, without fails where there are none, how many tasks stand how, which are lost, which are done in the remaining workflow, and whether that is needed.
type turn struct {
	do     string
	status string
	counts string
	lost   string
	done   string
	needed bool
}

// text is that of the status of a turn.
func (y turn) text() string {
	var l []string
	for _, line := range strings.Split(y.status, ", ") {
		switch strings.Count(line, " ") {
		case 1:
			l = append(l, line+" 0")
		case 2:
			l = append(l, line)
		}
	}
	return lines(l...)
}

// checkTurns makes these changes, one after the other.
func checkTurns(t *testing.T, f api.Flow, turns ...turn) {
	t.Helper()
	var x api.Life
	for _, y := range turns {
		x = do(t, f, x, y.do)
		checkTold(t, f, x, y)
		checkLife(t, f, x)
	}
}

// checkTold asks for what is told of x.
func checkTold(t *testing.T, f api.Flow, x api.Life, want turn) {
	t.Helper()
	if s, e := Status(f, x); s != want.text() || e != api.OK {
		t.Errorf("Status of %v of %v is %q, error %d; asked for: %q", x, f, s, e, want.text())
	}
	if y, at, e := Read(f, want.text()); e != api.OK || at != 0 || !life.Same(x, y) {
		t.Errorf("Read of %q of %v is %v, %d, error %d; asked for: %v", want.text(), f, y, at, e, x)
	}
	if l, e := Counts(f, x); !slices.Equal(l, numbers(want.counts)) || e != api.OK {
		t.Errorf("Counts of %v of %v is %v, error %d; asked for: %s", x, f, l, e, want.counts)
	}
	if l, e := Lost(f, x); !slices.Equal(l, numbers(want.lost)) || e != api.OK {
		t.Errorf("Lost of %v of %v is %v, error %d; asked for: %s", x, f, l, e, want.lost)
	}
	if is, e := Needed(f, x); is != want.needed || e != api.OK {
		t.Errorf("Needed of %v of %v is %v, error %d; asked for: %v", x, f, is, e, want.needed)
	}
	g, e := Flow(f, x)
	var isDone []int
	for v, t := range g.Tasks {
		if t.Done {
			isDone = append(isDone, v)
		}
	}
	if !slices.Equal(isDone, numbers(want.done)) || e != api.OK {
		t.Errorf("Flow of %v of %v is %v, error %d; done are to be: %s", x, f, g, e, want.done)
	}
}

func TestExample(t *testing.T) {
	f := example()
	checkTurns(t, f,
		turn{"begin", "a waiting, b waiting", "2 0 0 0 0 0", "", "", false},
		turn{"start 0", "a running, b waiting", "1 1 0 0 0 0", "", "", false},
		turn{"fail 0", "a failed 1, b dead 0", "0 0 0 1 1 0", "0 1", "", true},
	)
	if s, e := Status(f, lifeOf("F1 D")); s != "a failed 1\nb dead 0\n" || e != api.OK {
		t.Errorf("Status is %q, error %d", s, e)
	}
	if s, e := Text(f, lifeOf("F1 D")); s != "WORKFLOW w\nJOB a\nJOB b\nPARENT a CHILD b\n" || e != api.OK {
		t.Errorf("Text is %q, error %d", s, e)
	}
	if s, e := Text(f, lifeOf("S F1")); s != "WORKFLOW w\nJOB a\nDONE a\nJOB b\nPARENT a CHILD b\n" || e != api.OK {
		t.Errorf("Text is %q, error %d", s, e)
	}
}

// The eighth example of the whole, with the task that waits ahead of the other one.
func TestExampleOfTheWhole(t *testing.T) {
	checkTurns(t, flowOf(task("b", 0, 1), task("a", 0)),
		turn{"begin", "b waiting, a waiting", "2 0 0 0 0 0", "", "", false},
		turn{"start 1", "b waiting, a running", "1 1 0 0 0 0", "", "", false},
		turn{"fail 1", "b dead, a failed 1", "0 0 0 1 1 0", "0 1", "", true},
	)
}

func TestNoTask(t *testing.T) {
	checkTurns(t, flowOf(), turn{"begin", "", "0 0 0 0 0 0", "", "", false}, turn{"cancel", "", "0 0 0 0 0 0", "", "", false})
	if s, e := Status(flowOf(), api.Life{}); s != "" || e != api.OK {
		t.Errorf("Status is %q, error %d", s, e)
	}
	if s, e := Text(flowOf(), api.Life{}); s != "WORKFLOW w\n" || e != api.OK {
		t.Errorf("Text is %q, error %d", s, e)
	}
}

func TestOneTask(t *testing.T) {
	f := flowOf(task("a", 0))
	begin := turn{"begin", "a waiting", "1 0 0 0 0 0", "", "", false}
	start := turn{"start 0", "a running", "0 1 0 0 0 0", "", "", false}
	cancel := turn{"cancel", "a cancelled", "0 0 0 0 0 1", "0", "", true}
	succeeded := turn{"succeed 0", "a succeeded", "0 0 1 0 0 0", "", "0", false}
	failed := turn{"fail 0", "a failed 1", "0 0 0 1 0 0", "0", "", true}
	checkTurns(t, f, begin, cancel)
	checkTurns(t, f, begin, start, cancel)
	checkTurns(t, f, begin, start, turn{"again 0", "a waiting", "1 0 0 0 0 0", "", "", false}, start, succeeded)
	checkTurns(t, f, begin, start, failed)
	failed.do, succeeded.do = "cancel", "cancel"
	checkTurns(t, f, begin, start, turn{"fail 0", "a failed 1", "0 0 0 1 0 0", "0", "", true}, failed)
	checkTurns(t, f, begin, start, turn{"succeed 0", "a succeeded", "0 0 1 0 0 0", "", "0", false}, succeeded)
}

func TestTaskThatIsTriedAgain(t *testing.T) {
	checkTurns(t, flowOf(task("a", 2), task("b", 1, 0)),
		turn{"begin", "a waiting, b waiting", "2 0 0 0 0 0", "", "", false},
		turn{"start 0", "a running, b waiting", "1 1 0 0 0 0", "", "", false},
		turn{"fail 0", "a waiting 1, b waiting", "2 0 0 0 0 0", "", "", false},
		turn{"start 0", "a running 1, b waiting", "1 1 0 0 0 0", "", "", false},
		turn{"again 0", "a waiting 1, b waiting", "2 0 0 0 0 0", "", "", false},
		turn{"start 0", "a running 1, b waiting", "1 1 0 0 0 0", "", "", false},
		turn{"fail 0", "a waiting 2, b waiting", "2 0 0 0 0 0", "", "", false},
		turn{"start 0", "a running 2, b waiting", "1 1 0 0 0 0", "", "", false},
		turn{"succeed 0", "a succeeded 2, b waiting", "1 0 1 0 0 0", "", "0", false},
		turn{"start 1", "a succeeded 2, b running", "0 1 1 0 0 0", "", "0", false},
		turn{"fail 1", "a succeeded 2, b waiting 1", "1 0 1 0 0 0", "", "0", false},
		turn{"start 1", "a succeeded 2, b running 1", "0 1 1 0 0 0", "", "0", false},
		turn{"fail 1", "a succeeded 2, b failed 2", "0 0 1 1 0 0", "1", "0", true},
	)
}

func TestRow(t *testing.T) {
	f := flowOf(task("a", 0), task("b", 0, 0), task("c", 0, 1), task("d", 0, 2))
	begin := []turn{
		{"begin", "a waiting, b waiting, c waiting, d waiting", "4 0 0 0 0 0", "", "", false},
		{"start 0", "a running, b waiting, c waiting, d waiting", "3 1 0 0 0 0", "", "", false},
	}
	middle := append(slices.Clip(begin),
		turn{"succeed 0", "a succeeded, b waiting, c waiting, d waiting", "3 0 1 0 0 0", "", "0", false},
		turn{"start 1", "a succeeded, b running, c waiting, d waiting", "2 1 1 0 0 0", "", "0", false},
	)
	last := append(slices.Clip(middle),
		turn{"succeed 1", "a succeeded, b succeeded, c waiting, d waiting", "2 0 2 0 0 0", "", "0 1", false},
		turn{"start 2", "a succeeded, b succeeded, c running, d waiting", "1 1 2 0 0 0", "", "0 1", false},
		turn{"succeed 2", "a succeeded, b succeeded, c succeeded, d waiting", "1 0 3 0 0 0", "", "0 1 2", false},
		turn{"start 3", "a succeeded, b succeeded, c succeeded, d running", "0 1 3 0 0 0", "", "0 1 2", false},
	)
	checkTurns(t, f, append(slices.Clip(begin), turn{"fail 0", "a failed 1, b dead, c dead, d dead", "0 0 0 1 3 0", "0 1 2 3", "", true})...)
	checkTurns(t, f, append(slices.Clip(begin), turn{"cancel", "a cancelled, b cancelled, c cancelled, d cancelled", "0 0 0 0 0 4", "0 1 2 3", "", true})...)
	checkTurns(t, f, append(slices.Clip(middle), turn{"fail 1", "a succeeded, b failed 1, c dead, d dead", "0 0 1 1 2 0", "1 2 3", "0", true})...)
	checkTurns(t, f, append(slices.Clip(middle), turn{"cancel", "a succeeded, b cancelled, c cancelled, d cancelled", "0 0 1 0 0 3", "1 2 3", "0", true})...)
	checkTurns(t, f, append(slices.Clip(last), turn{"fail 3", "a succeeded, b succeeded, c succeeded, d failed 1", "0 0 3 1 0 0", "3", "0 1 2", true})...)
	checkTurns(t, f, append(slices.Clip(last), turn{"succeed 3", "a succeeded, b succeeded, c succeeded, d succeeded", "0 0 4 0 0 0", "", "0 1 2 3", false})...)
}

// d waits for b and c, each of which waits for a.
func TestForkAndJoin(t *testing.T) {
	checkTurns(t, flowOf(task("a", 0), task("b", 0, 0), task("c", 1, 0), task("d", 0, 1, 2)),
		turn{"begin", "a waiting, b waiting, c waiting, d waiting", "4 0 0 0 0 0", "", "", false},
		turn{"start 0", "a running, b waiting, c waiting, d waiting", "3 1 0 0 0 0", "", "", false},
		turn{"succeed 0", "a succeeded, b waiting, c waiting, d waiting", "3 0 1 0 0 0", "", "0", false},
		turn{"start 2", "a succeeded, b waiting, c running, d waiting", "2 1 1 0 0 0", "", "0", false},
		turn{"start 1", "a succeeded, b running, c running, d waiting", "1 2 1 0 0 0", "", "0", false},
		turn{"fail 2", "a succeeded, b running, c waiting 1, d waiting", "2 1 1 0 0 0", "", "0", false},
		turn{"fail 1", "a succeeded, b failed 1, c waiting 1, d dead", "1 0 1 1 1 0", "1 3", "0", false},
		turn{"start 2", "a succeeded, b failed 1, c running 1, d dead", "0 1 1 1 1 0", "1 3", "0", false},
		turn{"succeed 2", "a succeeded, b failed 1, c succeeded 1, d dead", "0 0 2 1 1 0", "1 3", "0 2", true},
	)
}

// A life in which there is each state but Cancelled, and then each one but Waiting and Running.
func TestAllStates(t *testing.T) {
	checkTurns(t, flowOf(task("a", 0), task("b", 0), task("c", 0), task("d", 0, 2), task("e", 0), task("f", 0, 4)),
		turn{"begin", "a waiting, b waiting, c waiting, d waiting, e waiting, f waiting", "6 0 0 0 0 0", "", "", false},
		turn{"start 4", "a waiting, b waiting, c waiting, d waiting, e running, f waiting", "5 1 0 0 0 0", "", "", false},
		turn{"succeed 4", "a waiting, b waiting, c waiting, d waiting, e succeeded, f waiting", "5 0 1 0 0 0", "", "4", false},
		turn{"start 5", "a waiting, b waiting, c waiting, d waiting, e succeeded, f running", "4 1 1 0 0 0", "", "4", false},
		turn{"succeed 5", "a waiting, b waiting, c waiting, d waiting, e succeeded, f succeeded", "4 0 2 0 0 0", "", "4 5", false},
		turn{"start 2", "a waiting, b waiting, c running, d waiting, e succeeded, f succeeded", "3 1 2 0 0 0", "", "4 5", false},
		turn{"start 1", "a waiting, b running, c running, d waiting, e succeeded, f succeeded", "2 2 2 0 0 0", "", "4 5", false},
		turn{"fail 2", "a waiting, b running, c failed 1, d dead, e succeeded, f succeeded", "1 1 2 1 1 0", "2 3", "4 5", false},
		turn{"cancel", "a cancelled, b cancelled, c failed 1, d dead, e succeeded, f succeeded", "0 0 2 1 1 2", "0 1 2 3", "4 5", true},
		turn{"cancel", "a cancelled, b cancelled, c failed 1, d dead, e succeeded, f succeeded", "0 0 2 1 1 2", "0 1 2 3", "4 5", true},
	)
}

// Done tasks at the begin, in the middle, and at the end.
func TestDoneTasks(t *testing.T) {
	checkTurns(t, flowOf(done(task("a", 3)), task("b", 0, 0), task("c", 0, 1)),
		turn{"begin", "a succeeded, b waiting, c waiting", "2 0 1 0 0 0", "", "0", false},
		turn{"start 1", "a succeeded, b running, c waiting", "1 1 1 0 0 0", "", "0", false},
		turn{"fail 1", "a succeeded, b failed 1, c dead", "0 0 1 1 1 0", "1 2", "0", true},
	)
	checkTurns(t, flowOf(task("a", 0), done(task("b", 0, 0)), task("c", 0, 1)),
		turn{"begin", "a waiting, b succeeded, c waiting", "2 0 1 0 0 0", "", "1", false},
		turn{"start 0", "a running, b succeeded, c waiting", "1 1 1 0 0 0", "", "1", false},
		turn{"fail 0", "a failed 1, b succeeded, c waiting", "1 0 1 1 0 0", "0", "1", false},
		turn{"start 2", "a failed 1, b succeeded, c running", "0 1 1 1 0 0", "0", "1", false},
		turn{"succeed 2", "a failed 1, b succeeded, c succeeded", "0 0 2 1 0 0", "0", "1 2", true},
	)
	checkTurns(t, flowOf(task("a", 0), task("b", 0, 0), done(task("c", 0, 1))),
		turn{"begin", "a waiting, b waiting, c succeeded", "2 0 1 0 0 0", "", "2", false},
		turn{"start 0", "a running, b waiting, c succeeded", "1 1 1 0 0 0", "", "2", false},
		turn{"succeed 0", "a succeeded, b waiting, c succeeded", "1 0 2 0 0 0", "", "0 2", false},
		turn{"cancel", "a succeeded, b cancelled, c succeeded", "0 0 2 0 0 1", "1", "0 2", true},
	)
	checkTurns(t, flowOf(done(task("a", 0, 1)), done(task("b", 20)), done(task("c", 0, 0))),
		turn{"begin", "a succeeded, b succeeded, c succeeded", "0 0 3 0 0 0", "", "0 1 2", false},
		turn{"cancel", "a succeeded, b succeeded, c succeeded", "0 0 3 0 0 0", "", "0 1 2", false},
	)
}

// Everything but what is done stays as it was.
func TestTextOfAllFields(t *testing.T) {
	f := api.Flow{Name: "é1", Deadline: 90, Priority: 7, Tasks: []api.Task{
		{Name: "b", Nodes: 2, Wall: 5, Retry: 1, After: []int{1, 2}}, {Name: "a", Nodes: 1, Wall: 3, Done: true}, {Name: "c", Nodes: 4, Wall: 1, Retry: 2}, {Name: "d", Nodes: 1, Wall: 1, After: []int{0}},
	}}
	const want = "WORKFLOW é1\nDEADLINE 90\nPRIORITY 7\nJOB b\nNODES b 2\nWALLTIME b 5\nRETRY b 1\nJOB a\nWALLTIME a 3\nDONE a\nJOB c\nNODES c 4\nRETRY c 2\nDONE c\nJOB d\nPARENT a c CHILD b\nPARENT b CHILD d\n"
	x := lifeOf("F2 S S2 D")
	if s, e := Text(f, x); s != want || e != api.OK {
		t.Errorf("Text is %q, error %d; asked for: %q", s, e, want)
	}
	g, e := Flow(f, x)
	f.Tasks[2].Done = true
	if e != api.OK || !flow.Same(f, g) {
		t.Errorf("Flow is %v, error %d; asked for: %v", g, e, f)
	}
}

// What remains of a workflow is rescued again, until all of it has succeeded.
func TestRescuedAgain(t *testing.T) {
	f := flowOf(task("a", 0), task("b", 0, 0), task("c", 0, 1))
	rescued := func(want string, changes ...string) {
		t.Helper()
		var x api.Life
		for _, words := range changes {
			x = do(t, f, x, words)
		}
		checkLife(t, f, x)
		s, e := Text(f, x)
		if s != want || e != api.OK {
			t.Fatalf("what remains is %q, error %d; asked for: %q", s, e, want)
		}
		f, _, e = flow.Parse(s)
		if e != api.OK {
			t.Fatalf("Parse of %q: error %d", s, e)
		}
	}
	rescued("WORKFLOW w\nJOB a\nJOB b\nJOB c\nPARENT a CHILD b\nPARENT b CHILD c\n", "begin", "start 0", "fail 0")
	rescued("WORKFLOW w\nJOB a\nDONE a\nJOB b\nJOB c\nPARENT a CHILD b\nPARENT b CHILD c\n", "begin", "start 0", "succeed 0", "start 1", "fail 1")
	rescued("WORKFLOW w\nJOB a\nDONE a\nJOB b\nDONE b\nJOB c\nPARENT a CHILD b\nPARENT b CHILD c\n", "begin", "start 1", "succeed 1", "start 2", "cancel")
	rescued("WORKFLOW w\nJOB a\nDONE a\nJOB b\nDONE b\nJOB c\nDONE c\nPARENT a CHILD b\nPARENT b CHILD c\n", "begin", "start 2", "succeed 2")
	if is, e := Needed(f, lifeOf("S S S")); is || e != api.OK {
		t.Errorf("Needed is %v, error %d", is, e)
	}
}
