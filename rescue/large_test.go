package rescue

import (
	"fmt"
	"slices"
	"strings"
	"testing"

	"timekeeper/api"
	"timekeeper/flow"
	"timekeeper/life"
)

// row are n tasks, each of which waits for the one before it.
func row(n int) api.Flow {
	f := flowOf(make([]api.Task, n)...)
	for v := range f.Tasks {
		f.Tasks[v] = task(fmt.Sprint("t", v), v%(api.MaxRetry+1))
		if v > 0 {
			f.Tasks[v].After = []int{v - 1}
		}
	}
	return f
}

// stopped is a life of a row of which the task v has failed.
func stopped(f api.Flow, v int) api.Life {
	x := unstarted(f)
	for u := range f.Tasks {
		x.State[u] = api.Succeeded
		if u > v {
			x.State[u] = api.Dead
		}
	}
	x.State[v], x.Fails[v] = api.Failed, f.Tasks[v].Retry+1
	return x
}

// As many tasks as there may be: the texts of these are too long to be read.
func TestLongRow(t *testing.T) {
	n := api.MaxTasks
	f := row(n)
	checkLife(t, f, unstarted(f))
	for _, v := range []int{0, 1, n / 2, n - 1} {
		x := stopped(f, v)
		checkLife(t, f, x)
		if l, e := Lost(f, x); e != api.OK || len(l) != n-v || l[0] != v || l[n-v-1] != n-1 {
			t.Errorf("Lost is %s, error %d", short(l), e)
		}
		if l, e := Counts(f, x); e != api.OK || !slices.Equal(l, []int{0, 0, v, 1, n - v - 1, 0}) {
			t.Errorf("Counts are %v, error %d", l, e)
		}
	}
	f = row(n + 1)
	checkRefused(t, f, unstarted(f), api.ErrLong)
	if x, at, e := Read(f, ""); e != api.ErrLong || at != 0 || len(x.State) > 0 || len(x.Fails) > 0 {
		t.Errorf("Read of %d tasks: %d, error %d", n+1, at, e)
	}
}

// Each task waits for all before it: many links, and more paths than can be gone through one by one.
func TestManyLinks(t *testing.T) {
	f := flowOf(manyTasks(700)...)
	for v := range f.Tasks {
		for u := range v {
			f.Tasks[v].After = append(f.Tasks[v].After, u)
		}
	}
	checkLife(t, f, unstarted(f))
	checkLife(t, f, stopped(f, 300))
}

// A status of MaxText bytes is read again, and one of a byte more is not.
func TestLongestStatus(t *testing.T) {
	const width = 40
	f := flowOf()
	for n := 0; n*width < api.MaxText; n++ {
		name := fmt.Sprint("t", n, strings.Repeat("x", 30))
		f.Tasks = append(f.Tasks, task(name[:width-len(" waiting 0\n")], 0))
	}
	x := unstarted(f)
	s, e := Status(f, x)
	if len(s) != api.MaxText || e != api.OK {
		t.Fatalf("%d bytes, error %d", len(s), e)
	}
	if y, at, e := Read(f, s); e != api.OK || at != 0 || !life.Same(x, y) {
		t.Errorf("Read of %d bytes: %s, %d, error %d", len(s), short(y), at, e)
	}
	checkLife(t, f, x)
	f.Tasks[len(f.Tasks)-1].Name += "x"
	s, e = Status(f, x)
	if len(s) != api.MaxText+1 || e != api.OK {
		t.Fatalf("%d bytes, error %d", len(s), e)
	}
	checkFault(t, f, s, 0, api.ErrLong)
	checkLife(t, f, x)
	// Without its last line feed it is just as long as may be read.
	if y, at, e := Read(f, s[:api.MaxText]); e != api.OK || at != 0 || !life.Same(x, y) {
		t.Errorf("Read of %d bytes: %s, %d, error %d", api.MaxText, short(y), at, e)
	}
}

// The text of a remaining workflow is read again as that if it has MaxText bytes, and is not with one more.
func TestLongestText(t *testing.T) {
	const width = len("JOB \nDONE \n") + 2*19
	f := flowOf()
	for n := 0; (n+1)*width+len("WORKFLOW w\n") < api.MaxText; n++ {
		f.Tasks = append(f.Tasks, task(fmt.Sprint("t", n, strings.Repeat("x", 30))[:19], 0))
	}
	x := unstarted(f)
	for v := range x.State {
		x.State[v] = api.Succeeded
	}
	s, _ := Text(f, x)
	f.Name = strings.Repeat("w", len(f.Name)+api.MaxText-len(s))
	s, e := Text(f, x)
	if len(s) != api.MaxText || e != api.OK {
		t.Fatalf("%d bytes, error %d", len(s), e)
	}
	g, _ := Flow(f, x)
	if h, at, e := flow.Parse(s); e != api.OK || at != 0 || !flow.Same(g, h) {
		t.Errorf("Parse of %d bytes: %d, error %d", len(s), at, e)
	}
	checkLife(t, f, x)
	f.Name += "w"
	s, e = Text(f, x)
	if len(s) != api.MaxText+1 || e != api.OK {
		t.Fatalf("%d bytes, error %d", len(s), e)
	}
	if _, at, e := flow.Parse(s); e != api.ErrLong || at != 0 {
		t.Errorf("Parse of %d bytes: %d, error %d", len(s), at, e)
	}
	checkLife(t, f, x)
}

// Notes and empty lines up to just the bytes that may be read, and one beyond.
func TestLongestNotes(t *testing.T) {
	f := example()
	const status = "a failed 1\nb dead 0\n"
	fill := api.MaxText - len(status)
	for _, s := range []string{
		status + strings.Repeat("#", fill), status + strings.Repeat("\n", fill), strings.Repeat("\n", fill) + status, strings.Repeat(" ", fill) + status, strings.Repeat("#", fill-1) + "\n" + status,
		"a failed 1\n" + strings.Repeat("\n", fill) + "b dead 0\n", "a" + strings.Repeat("\t", fill) + " failed 1\nb dead 0\n", status + strings.Repeat(" \n", fill/2) + strings.Repeat("#", fill%2),
	} {
		if len(s) != api.MaxText {
			t.Fatalf("%d bytes", len(s))
		}
		checkText(t, f, s, "F1 D")
		checkFault(t, f, s+"\n", 0, api.ErrLong)
		checkFault(t, f, " "+s, 0, api.ErrLong)
	}
	checkFault(t, f, strings.Repeat("\n", api.MaxText-1)+"x", api.MaxText, api.ErrWord)
	checkFault(t, f, status+strings.Repeat("\n", fill-1)+"x", fill+2, api.ErrWord)
}

// Much that is no workflow, no life, and no text.
func TestMuchTooLarge(t *testing.T) {
	f := row(200000)
	x := api.Life{State: make([]int, 1000000), Fails: make([]int, 1000000)}
	checkRefused(t, f, x, api.ErrLong)
	f.Tasks = f.Tasks[:10]
	checkRefused(t, f, x, api.ErrArg)
	checkFault(t, f, strings.Repeat("t0 waiting 0\n", 1<<18), 0, api.ErrLong)
	checkFault(t, f, strings.Repeat("\xff", 1<<22), 0, api.ErrLong)
	checkFault(t, f, "t0 waiting "+strings.Repeat("9", 50000), 1, api.ErrOver)
	checkFault(t, f, "t0 waiting "+strings.Repeat("0", 50000), 1, api.ErrForm)
	checkFault(t, f, "t0 "+strings.Repeat("x", 50000)+" 0", 1, api.ErrWord)
	checkFault(t, f, strings.Repeat("x ", 30000), 1, api.ErrWord)
}
