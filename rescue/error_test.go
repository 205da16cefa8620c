package rescue

import (
	"fmt"
	"math"
	"slices"
	"strings"
	"testing"

	"timekeeper/api"
	"timekeeper/life"
)

// wrong is what is asked: a workflow, and its life.
type wrong struct {
	f api.Flow
	x api.Life
}

// flaw makes something wrong that was right.
type flaw struct {
	what string
	e    api.Errno
	make func(w *wrong)
}

// right has tasks in all states but Cancelled.
func right() wrong {
	f := flowOf(task("a", 2), task("b", 1, 0), task("c", 0, 0), task("d", 0, 2), done(task("e", 1, 2)), task("f", 0, 4), task("g", 0, 3), task("h", 0, 1), task("i", 1), done(task("j", 2)))
	return wrong{f, lifeOf("S1 R F1 D S W D W W1 S")}
}

// over is one of the same workflow of which nothing is still to come, so that it is needed.
func over() wrong {
	return wrong{right().f, lifeOf("S1 C F1 D S C D C C1 S")}
}

func ofFlow(what string, e api.Errno, change func(f *api.Flow)) flaw {
	return flaw{what, e, func(w *wrong) { change(&w.f) }}
}

// manyTasks are so many, with names of their own.
func manyTasks(n int) []api.Task {
	l := make([]api.Task, n)
	for i := range l {
		l[i] = task(fmt.Sprint("t", i), 0)
	}
	return l
}

// flowGroups are the flaws of flow.Check, of which those of an earlier group come first.
func flowGroups() [][]flaw {
	return [][]flaw{
		{
			ofFlow("a workflow's name", api.ErrForm, func(f *api.Flow) { f.Name = "" }),
			ofFlow("a task's name", api.ErrForm, func(f *api.Flow) { f.Tasks[0].Name = "Child" }),
			ofFlow("a name that is too long", api.ErrForm, func(f *api.Flow) { f.Tasks[2].Name = strings.Repeat("c", api.MaxWord+1) }),
		}, {
			ofFlow("a deadline", api.ErrArg, func(f *api.Flow) { f.Deadline = -1 }),
			ofFlow("a priority", api.ErrArg, func(f *api.Flow) { f.Priority = 1001 }),
			ofFlow("no nodes", api.ErrArg, func(f *api.Flow) { f.Tasks[1].Nodes = 0 }),
			ofFlow("a Wall", api.ErrArg, func(f *api.Flow) { f.Tasks[2].Wall = math.MaxInt }),
			ofFlow("a Retry", api.ErrArg, func(f *api.Flow) { f.Tasks[4].Retry = api.MaxRetry + 1 }),
		}, {
			ofFlow("a name that is there twice", api.ErrTwice, func(f *api.Flow) { f.Tasks = append(f.Tasks, task("q", 0), task("q", 0)) }),
		}, {
			ofFlow("too many tasks", api.ErrLong, func(f *api.Flow) { f.Tasks = append(f.Tasks, manyTasks(api.MaxTasks-9)...) }),
		}, {
			ofFlow("a task that is waited for twice", api.ErrArg, func(f *api.Flow) { f.Tasks[2].After = []int{0, 0} }),
			ofFlow("a task that is waited for and is none", api.ErrArg, func(f *api.Flow) { f.Tasks[1].After = []int{len(f.Tasks)} }),
		}, {
			ofFlow("a task that waits for itself", api.ErrCycle, func(f *api.Flow) { f.Tasks[5].After = []int{5} }),
			ofFlow("done tasks that wait for one another", api.ErrCycle, func(f *api.Flow) { f.Tasks[4].After, f.Tasks[9].After = []int{9}, []int{4} }),
		},
	}
}

// of is a flaw of one task of the life.
func of(what string, v int, word string) flaw {
	return flaw{fmt.Sprint(what, ": task ", v, " is ", word), api.ErrArg, func(w *wrong) {
		w.x.State[v], w.x.Fails[v] = lifeOf(word).State[0], lifeOf(word).Fails[0]
	}}
}

func ofState(v int, n int) flaw {
	return flaw{fmt.Sprint("state of task ", v, " is ", n), api.ErrArg, func(w *wrong) { w.x.State[v] = n }}
}

func ofFails(v int, n int) flaw {
	return flaw{fmt.Sprint("fails of task ", v, " are ", n), api.ErrArg, func(w *wrong) { w.x.Fails[v] = n }}
}

func ofLife(what string, change func(x *api.Life)) flaw {
	return flaw{what, api.ErrArg, func(w *wrong) { change(&w.x) }}
}

// unwritten are the flaws of a life of which there is no text: too much, too little, or what has no name.
func unwritten() []flaw {
	return []flaw{
		ofLife("no life", func(x *api.Life) { *x = api.Life{} }),
		ofLife("no State", func(x *api.Life) { x.State = nil }),
		ofLife("no Fails", func(x *api.Life) { x.Fails = nil }),
		ofLife("a State fewer", func(x *api.Life) { x.State = x.State[:9] }),
		ofLife("Fails of one fewer", func(x *api.Life) { x.Fails = x.Fails[:9] }),
		ofLife("a task fewer", func(x *api.Life) { x.State, x.Fails = x.State[:9], x.Fails[:9] }),
		ofLife("a State more", func(x *api.Life) { x.State = append(x.State, api.Waiting) }),
		ofLife("Fails of one more", func(x *api.Life) { x.Fails = append(x.Fails, 0) }),
		ofLife("a task more", func(x *api.Life) { x.State, x.Fails = append(x.State, api.Succeeded), append(x.Fails, 0) }),
		ofState(5, -1), ofState(5, 6), ofState(8, math.MinInt), ofState(8, math.MaxInt), ofState(9, -2),
		ofFails(0, -1), ofFails(5, -1), ofFails(8, math.MinInt), ofFails(1, -1), ofFails(3, -1), ofFails(2, -1), ofFails(8, math.MaxInt),
	}
}

// written are the flaws of a life that has a text all the same.
func written() []flaw {
	return []flaw{
		ofFails(0, 3), ofFails(1, 2), ofFails(3, 1), ofFails(5, 1), ofFails(8, 2), ofFails(8, api.MaxTime),
		ofFails(2, 0), ofFails(2, 2), ofFails(2, api.MaxTime),
		ofFails(4, 1), ofFails(9, 1), ofFails(9, 2), ofFails(9, 3),
		of("done and waits", 9, "W"), of("done and runs", 9, "R"), of("done and failed", 9, "F3"), of("done and dead", 9, "D"), of("done and cancelled", 9, "C"), of("done and waits", 4, "W"), of("done and dead", 4, "D"),
		of("runs ahead of another", 7, "R"), of("failed ahead of another", 7, "F1"), of("succeeded ahead of another", 7, "S"),
		of("dead for no other", 5, "D"), of("dead for no other", 7, "D"), of("dead for no other", 8, "D"),
		of("not dead", 3, "W"), of("not dead, but another behind it", 6, "W"), of("runs behind a failed one", 3, "R"), of("succeeded behind a dead one", 6, "S"), of("failed behind a failed one", 3, "F1"), of("cancelled, not dead", 6, "C"),
		ofLife("all waits, but what is done", func(x *api.Life) { *x = lifeOf("W W W W S W W W W W") }),
		ofLife("one still waits", func(x *api.Life) { *x = lifeOf("S1 C F1 D S C D C W1 S") }),
		ofLife("one still runs", func(x *api.Life) { *x = lifeOf("S1 R F1 D S C D C C1 S") }),
	}
}

// askedFor makes these wrong, the last one first, so that the first one stays, and tells which they are.
func askedFor(begin func() wrong, flaws ...flaw) (wrong, string) {
	w := begin()
	var what []string
	for _, x := range slices.Backward(flaws) {
		x.make(&w)
		what = append(what, x.what)
	}
	return w, strings.Join(what, " and ")
}

// Each flaw by itself, and each two of different groups, of which the first one is told.
func TestErrorsOfAllButRead(t *testing.T) {
	groups := append(flowGroups(), slices.Concat(unwritten(), written()))
	for _, begin := range []func() wrong{right, over} {
		checkLife(t, begin().f, begin().x)
		for i, first := range groups {
			for _, x := range first {
				w, _ := askedFor(begin, x)
				checkRefused(t, w.f, w.x, x.e)
				for _, second := range groups[i+1:] {
					for _, y := range second {
						w, _ := askedFor(begin, x, y)
						checkRefused(t, w.f, w.x, x.e)
					}
				}
			}
		}
	}
}

// All flaws at once: as those of one group after the other are mended, the next is told.
func TestAllWrong(t *testing.T) {
	groups := append(flowGroups(), unwritten())
	for i, first := range groups {
		var all []flaw
		for _, l := range groups[i:] {
			all = append(all, l[0])
		}
		w, _ := askedFor(right, all...)
		checkRefused(t, w.f, w.x, first[0].e)
	}
}

// The errors of the workflow come first, whatever the text, and have no line.
func TestReadOfWrongWorkflows(t *testing.T) {
	status := wantStatus(right().f, right().x)
	groups := flowGroups()
	for i, first := range groups {
		for _, x := range first {
			w, what := askedFor(right, x)
			for _, s := range []string{status, wantStatus(w.f, unstarted(w.f)), "", "x", "\x00", "\xff", strings.Repeat("#", api.MaxText+1), strings.Repeat("\xff", api.MaxText+1), status + "x", "a waiting 00", status[:len(status)-20]} {
				if y, at, e := Read(w.f, s); e != x.e || at != 0 || len(y.State) > 0 || len(y.Fails) > 0 {
					t.Errorf("%s, Read of %s is %s, %d, error %d; asked for: error %d", what, short(s), short(y), at, e, x.e)
				}
			}
			for _, second := range groups[i+1:] {
				for _, y := range second {
					w, what := askedFor(right, x, y)
					if z, at, e := Read(w.f, status); e != x.e || at != 0 || len(z.State) > 0 || len(z.Fails) > 0 {
						t.Errorf("%s: %s, %d, error %d; asked for: error %d", what, short(z), at, e, x.e)
					}
				}
			}
		}
	}
}

// unstarted are as many states as f has tasks, right or wrong.
func unstarted(f api.Flow) api.Life {
	return api.Life{State: make([]int, len(f.Tasks)), Fails: make([]int, len(f.Tasks))}
}

// The errors of the whole text come next, and have no line either.
func TestReadOfTextsThatAreNone(t *testing.T) {
	f := example()
	const status = "a failed 1\nb dead 0\n"
	for _, s := range []string{"\xff", "a failed 1\nb dead 0\n\xc3", status + "# \x80\n", "x\n\xff", "\x00\xff", "\xed\xa0\x80", "a failed 01\nb dead 0\n\xff", "\xff" + status} {
		checkFault(t, f, s, 0, api.ErrForm)
	}
	long := strings.Repeat("#", api.MaxText)
	checkFault(t, f, long, 0, api.ErrWord)
	checkFault(t, f, long+"#", 0, api.ErrLong)
	checkFault(t, f, long+"\n", 0, api.ErrLong)
	checkFault(t, f, long+"\xff", 0, api.ErrLong)
	checkFault(t, f, "x\n\xff"+long, 0, api.ErrLong)
	checkFault(t, f, "a failed 00\n"+long, 0, api.ErrLong)
	checkFault(t, f, long[:api.MaxText-1]+"\xff", 0, api.ErrForm)
	checkFault(t, f, long[:api.MaxText-2]+"\n\x00", 2, api.ErrForm)
	checkFault(t, f, "x"+long[1:], 1, api.ErrWord)
}

// badLines are lines with an error, those of a task of that name.
func badLines(name string) []struct {
	line string
	e    api.Errno
} {
	return []struct {
		line string
		e    api.Errno
	}{
		{name + " waiting 0\x00", api.ErrForm}, {"\x01", api.ErrForm}, {"# \x7f", api.ErrForm}, {name + " \x1f waiting 0", api.ErrForm},
		{name, api.ErrWord}, {name + " waiting", api.ErrWord}, {name + " waiting 0 0", api.ErrWord},
		{name + " lost 0", api.ErrWord}, {name + " 0 waiting", api.ErrWord}, {name + " Waiting 0", api.ErrWord},
		{"z waiting 0", api.ErrWord}, {strings.ToUpper(name) + " waiting 0", api.ErrWord}, {"waiting " + name + " 0", api.ErrWord},
		{name + " waiting 00", api.ErrForm}, {name + " waiting x", api.ErrForm}, {name + " waiting -1", api.ErrForm},
		{name + " waiting 1099511627776", api.ErrOver}, {name + " failed 99999999999999999999", api.ErrOver},
	}
}

// The first line with an error is told, wherever it is, whichever the error, and whatever comes behind it.
func TestReadOfFirstBadLine(t *testing.T) {
	f := flowOf(task("a", 0), task("b", 0), task("c", 0))
	all := []string{"a waiting 0", "b running 0", "c succeeded 0"}
	for v, name := range []string{"a", "b", "c"} {
		for _, x := range badLines(name) {
			l := slices.Clone(all)
			l[v] = x.line
			checkFault(t, f, lines(l...), v+1, x.e)
			checkFault(t, f, strings.TrimSuffix(lines(l...), "\n"), v+1, x.e)
			checkFault(t, f, lines(append([]string{"", "# x"}, l...)...), v+3, x.e)
			checkFault(t, f, lines(l[:v+1]...), v+1, x.e)
			checkFault(t, f, lines(append(l, "d waiting 0")...), v+1, x.e)
			for w := v + 1; w < 3; w++ {
				for _, y := range badLines([]string{"a", "b", "c"}[w]) {
					l[w] = y.line
					checkFault(t, f, lines(l...), v+1, x.e)
				}
			}
		}
	}
}

// Within one line the error that is named first is told.
func TestReadOfSeveralErrorsInALine(t *testing.T) {
	f := flowOf(task("a", 0), task("b", 0))
	for _, x := range []struct {
		line string
		e    api.Errno
	}{
		{"b lost\x00", api.ErrForm},                     // Words, then the number of words
		{"b lost 0\x00", api.ErrForm},                   // Words, then the state
		{"z waiting 0\x00", api.ErrForm},                // Words, then the name
		{"b waiting 1099511627776\x00", api.ErrForm},    // Words, then the number
		{"b waiting 0 # \x00", api.ErrForm},             // Words alone
		{"b waiting 00 0", api.ErrWord},                 // four words, then the third one
		{"b waiting 1099511627776 0", api.ErrWord},      // likewise
		{"b lost 00", api.ErrWord},                      // the state, then the number
		{"b lost 1099511627776", api.ErrWord},           // likewise
		{"z waiting 00", api.ErrWord},                   // the name, then the number
		{"a waiting 1099511627776", api.ErrWord},        // likewise
		{"z lost x", api.ErrWord},                       // all of them
		{"b waiting 01099511627776", api.ErrForm},       // the form of a number, then its size
		{"b waiting 1099511627776x", api.ErrForm},       // likewise
		{"b waiting 1099511627776", api.ErrOver},        // the greatest time, then what a task may have
		{"b done 21", api.ErrWord},                      // the state, then what a task may have
		{"b waiting 99999999999999999999", api.ErrOver}, // however great
	} {
		// That a may not have so many fails comes last.
		checkFault(t, f, lines("a waiting 7", x.line), 2, x.e)
		checkFault(t, f, lines("", "a waiting 7", "#", x.line, "what"), 4, x.e)
	}
	checkFault(t, f, lines("a waiting 7", "b waiting 0 # 99999999999999999999"), 0, api.ErrArg)
}

// Lives that are none: their texts are told without a line, if each line is right by itself.
func TestReadOfWrongLives(t *testing.T) {
	for _, x := range written() {
		w, what := askedFor(right, x)
		s := wantStatus(w.f, w.x)
		if y, at, e := Read(w.f, s); e != api.ErrArg || at != 0 || len(y.State) > 0 || len(y.Fails) > 0 {
			t.Errorf("%s: Read of %s is %s, %d, error %d", what, short(s), short(y), at, e)
		}
		checkFault(t, w.f, s, 0, api.ErrArg)
		checkFault(t, w.f, "# x\n\n"+s, 0, api.ErrArg)
		// An error of a line, or of all lines, comes ahead of it.
		checkFault(t, w.f, s+"k waiting 0", 11, api.ErrWord)
		checkFault(t, w.f, s+"\x00", 11, api.ErrForm)
		last := strings.LastIndex(s[:len(s)-1], "\n") + 1
		checkFault(t, w.f, s[:last], 0, api.ErrWord)
		checkFault(t, w.f, s[:last]+"j succeeded 00", 10, api.ErrForm)
		checkFault(t, w.f, s[:last]+"j succeeded 1099511627776", 10, api.ErrOver)
		checkFault(t, w.f, s[:last]+"\nk succeeded 0", 11, api.ErrWord)
	}
	for _, begin := range []func() wrong{right, over} {
		w := begin()
		s := wantStatus(w.f, w.x)
		if y, at, e := Read(w.f, s); e != api.OK || at != 0 || !life.Same(w.x, y) {
			t.Errorf("Read of %s is %s, %d, error %d", short(s), short(y), at, e)
		}
	}
}
