package flow

import (
	"fmt"
	"slices"
	"strings"
	"testing"

	"timekeeper/api"
)

// upTo returns 0 to n - 1.
func upTo(n int) []int {
	l := make([]int, n)
	for i := range l {
		l[i] = i
	}
	return l
}

// linked are as many tasks as there may be, each of which waits for those that f returns.
func linked(f func(v int) []int) api.Flow {
	tasks := named(api.MaxTasks)
	for v := range tasks {
		tasks[v].After = f(v)
	}
	return flowOf(tasks...)
}

func TestCheckOfMostTasks(t *testing.T) {
	f := flowOf(named(api.MaxTasks)...)
	checkCheck(t, "without links", f, api.OK)
	checkCheck(t, "one more", flowOf(named(api.MaxTasks+1)...), api.ErrLong)
	f.Tasks[api.MaxTasks-1].After = []int{api.MaxTasks - 1}
	checkCheck(t, "a cycle", f, api.ErrCycle)
	f.Tasks[0].After = []int{api.MaxTasks}
	checkCheck(t, "no task", f, api.ErrArg)
	f.Tasks = append(f.Tasks, task("more"))
	checkCheck(t, "too many", f, api.ErrLong)
	f.Tasks[7].Name = "n8"
	checkCheck(t, "two of them the same", f, api.ErrTwice)
	f.Tasks[7].Retry = -1
	checkCheck(t, "a number", f, api.ErrArg)
	f.Tasks[api.MaxTasks].Name = ""
	checkCheck(t, "a name", f, api.ErrForm)
}

func TestMostLinks(t *testing.T) {
	checkCheck(t, "a row", linked(func(v int) []int { return upTo(v)[max(v-1, 0):] }), api.OK)
	f := linked(upTo)
	checkCheck(t, "each waits for all before", f, api.OK)
	if l := After(f); len(l) != api.MaxTasks || !slices.Equal(l[api.MaxTasks-1], upTo(api.MaxTasks-1)) {
		t.Error("After is something else")
	}
	if !wantSame(Copy(f), f) || !Same(Copy(f), f) {
		t.Error("the copy is something else")
	}
	f.Tasks[0].After = []int{api.MaxTasks - 1}
	checkCheck(t, "a cycle", f, api.ErrCycle)
}

// What is printed may be longer than what is read: a text of MaxText bytes is read again, and one of a byte more is not.
func TestPrintOfLongTexts(t *testing.T) {
	f := flowOf(named(api.MaxTasks)...)
	for v := range f.Tasks {
		f.Tasks[v].Done = true
	}
	s, e := Print(f)
	if len(s) <= api.MaxText || e != api.OK {
		t.Fatalf("%d bytes, %d", len(s), e)
	}
	checkPrint(t, f)
	for len(s) > api.MaxText {
		f.Tasks = f.Tasks[:len(f.Tasks)-1]
		s, _ = Print(f)
	}
	f.Name = strings.Repeat("w", len(f.Name)+api.MaxText-len(s))
	if s, e = Print(f); len(s) != api.MaxText || e != api.OK {
		t.Fatalf("%d bytes, %d", len(s), e)
	}
	if g, line, e := Parse(s); e != api.OK || line != 0 || !wantSame(f, g) {
		t.Errorf("a text of MaxText bytes: line %d, error %d", line, e)
	}
	f.Name += "w"
	if s, e = Print(f); len(s) != api.MaxText+1 || e != api.OK {
		t.Fatalf("%d bytes, %d", len(s), e)
	}
	if g, line, e := Parse(s); e != api.ErrLong || line != 0 || !wantSame(g, api.Flow{}) {
		t.Errorf("a text of one byte more: line %d, error %d", line, e)
	}
}

// shortName is the i-th name of one letter and one more rune.
func shortName(i int) string {
	const first = "abcdefghijklmnopqrstuvwxyzABCDEFGHIJKLMNOPQRSTUVWXYZ"
	const second = first + "0123456789_-."
	return first[i/len(second):][:1] + second[i%len(second):][:1]
}

// Very many links in one line, or the same ones in many: none is kept twice.
func TestParseOfManyLinks(t *testing.T) {
	const n = 2400
	var s strings.Builder
	s.WriteString("WORKFLOW w\n")
	names := make([]string, n)
	for i := range names {
		names[i] = shortName(i)
		s.WriteString("JOB " + names[i] + "\n")
	}
	half := n / 2
	line := "PARENT " + strings.Join(names[:half], " ") + " CHILD " + strings.Join(names[half:], " ") + "\n"
	s.WriteString(strings.Repeat(line, 5))
	f := parsed(t, s.String())
	for v, task := range f.Tasks {
		if !slices.Equal(task.After, upTo(half)[:half*(v/half)]) {
			t.Fatalf("task %d waits for %v", v, task.After)
		}
	}
	back := "PARENT " + strings.Join(names[half:], " ") + " CHILD " + names[0] + "\n"
	checkError := func(name, s string, want api.Errno) {
		t.Helper()
		if _, line, e := Parse(s); line != 0 || e != want {
			t.Errorf("%s: line %d, error %d", name, line, e)
		}
	}
	checkError("a cycle", s.String()+back, api.ErrCycle)
	const few = "WORKFLOW w\nJOB a\nJOB b\n"
	many := (api.MaxText - len(few) - len("PARENT CHILD\n")) / 4
	f = parsed(t, few+"PARENT"+strings.Repeat(" a", many)+" CHILD"+strings.Repeat(" b", many)+"\n")
	if !wantSame(f, flowOf(task("a"), task("b", 0))) {
		t.Errorf("one link very often: %s", short(f))
	}
	f = parsed(t, few+strings.Repeat("PARENT a CHILD b\n", 3000))
	if !wantSame(f, flowOf(task("a"), task("b", 0))) {
		t.Errorf("one line very often: %s", short(f))
	}
}

// A row of tasks that each wait for the next one, as long as a text can tell.
func TestParseOfLongRows(t *testing.T) {
	const n = 2000
	var s strings.Builder
	s.WriteString("WORKFLOW w\n")
	var want []api.Task
	for i := range n {
		s.WriteString("JOB " + shortName(i) + "\n")
		want = append(want, task(shortName(i), i+1))
	}
	want[n-1].After = nil
	for i := n - 2; i >= 0; i-- {
		s.WriteString(fmt.Sprintf("PARENT %s CHILD %s\n", shortName(i+1), shortName(i)))
	}
	if f := parsed(t, s.String()); !wantSame(f, flowOf(want...)) {
		t.Error("the row is something else")
	}
}

// Lists of words and workflows that are much longer than allowed only cost the time to look at them.
func TestMuchLargerThanAllowed(t *testing.T) {
	tasks := slices.Repeat([]api.Task{task("a")}, 1<<20)
	checkCheck(t, "one name", flowOf(tasks...), api.ErrTwice)
	tasks = named(1 << 18)
	checkCheck(t, "too many", flowOf(tasks...), api.ErrLong)
	tasks[1<<18-1].Name = "n1"
	checkCheck(t, "two of them the same", flowOf(tasks...), api.ErrTwice)
	if v, ok := Find(flowOf(tasks...), "n262142"); v != 1<<18-2 || !ok {
		t.Errorf("Find = %d, %v", v, ok)
	}
	f := flowOf(task("a", upTo(1<<20)...))
	checkCheck(t, "after very many", f, api.ErrArg)
	f.Tasks[0].After = slices.Repeat([]int{0}, 1<<20)
	checkCheck(t, "after itself very often", f, api.ErrArg)
	f = flowOf(task(strings.Repeat("a", 1<<20)))
	checkCheck(t, "a very long name", f, api.ErrForm)
	if _, line, e := Parse(strings.Repeat("WORKFLOW w\n", 1<<20)); line != 0 || e != api.ErrLong {
		t.Errorf("a very long text: line %d, error %d", line, e)
	}
}
