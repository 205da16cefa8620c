package flow

import (
	"fmt"
	"math"
	"reflect"
	"slices"
	"strings"
	"testing"

	"timekeeper/api"
)

// task is one with the numbers that no line has to tell.
func task(name string, after ...int) api.Task {
	return api.Task{Name: name, Nodes: 1, Wall: 1, After: after}
}

// flowOf is a workflow w of these tasks.
func flowOf(tasks ...api.Task) api.Flow {
	return api.Flow{Name: "w", Tasks: tasks}
}

// example is that of the chapter.
func example() api.Flow {
	return flowOf(task("b"), task("a", 0))
}

const exampleText = "WORKFLOW w\nJOB b\nJOB a\nPARENT b CHILD a\n"

// wide is the fourth of the whole's examples, with the nodes of the seventh one.
func wide() api.Flow {
	f := flowOf(task("a"), task("b"), task("c", 0, 1))
	f.Tasks[0].Nodes, f.Tasks[0].Wall = 2, 3
	f.Tasks[1].Nodes, f.Tasks[1].Wall = 2, 5
	f.Tasks[2].Wall = 2
	return f
}

// urgent is the ninth of the whole's examples.
func urgent() api.Flow {
	return api.Flow{Name: "one", Deadline: 9, Tasks: []api.Task{{Name: "t", Nodes: 2, Wall: 5}}}
}

// full has each field told, at its greatest.
func full() api.Flow {
	most := func(name string, after ...int) api.Task {
		return api.Task{Name: name, Nodes: api.MaxNodes, Wall: api.MaxTime, Retry: api.MaxRetry, Done: true, After: after}
	}
	return api.Flow{Name: longName('w'), Deadline: api.MaxTime, Priority: 1000, Tasks: []api.Task{
		most(longName('ß')), most(longName('𝔸'), 0, 3), most("é1", 1, 3, 4), most("PARENT"), most("job", 0, 3),
	}}
}

// longName is of the most runes that a name may have.
func longName(r rune) string {
	return strings.Repeat(string(r), api.MaxWord)
}

// childs is the word in many cases.
func childs() []string {
	return []string{"CHILD", "child", "Child", "cHILD", "chilD", "cHiLd"}
}

// notNames are no names at all.
func notNames() []string {
	return []string{
		"", " ", "1", "1a", "_", "-a", ".a", "a b", " a", "a ", "a\t", "a\n", "a#", "#a", "a/b", "a\x00", "a\x7f", "a,b", "(a)",
		"\xff", "a\xff", "a\xc3", "\xc3\xa9\xc3", "²", "a²", "Ⅷ", "aⅧ", "a\u0301", "٣a", "a\u200b", "\ufeffa", "a\ufffd",
		longName('a') + "a", longName('é') + "1", "1" + longName('a'), strings.Repeat("a", api.MaxText),
	}
}

// allowed holds workflows that Check accepts.
func allowed() []api.Flow {
	l := []api.Flow{
		{Name: "w"}, {Name: "é"}, {Name: longName('ñ')}, {Name: "a1_-."}, {Name: "w", Tasks: []api.Task{}},
		example(), wide(), urgent(), full(),
		flowOf(task("a", 1), task("b", 2), task("c")),
		flowOf(task("a"), task("b", 0), task("c", 0), task("d", 1, 2), task("A"), task("children"), task("chil"), task("workflow")),
		flowOf(task("a", 1, 2, 3), task("b", 2, 3), task("c", 3), task("d")),
		{Name: "w", Deadline: 1, Priority: 1, Tasks: []api.Task{{Name: "x", Nodes: 2, Wall: 2, Retry: 1}}},
		{Name: "w", Deadline: api.MaxTime - 1, Priority: 999, Tasks: []api.Task{{Name: "x", Nodes: api.MaxNodes - 1, Wall: api.MaxTime - 1, Retry: api.MaxRetry - 1}}},
		flowOf(task("a"), api.Task{Name: "d", Nodes: 1, Wall: 1, Done: true, After: []int{0, 2}}, task("c")),
		flowOf(task("ä"), task("Ä"), task("a\u0660")),
		flowOf(task("K"), task("\u212a"), task("\u017f"), task("s"), task("ch\u0131ld"), task("CH\u0130LD")),
	}
	for _, s := range childs() {
		l = append(l, api.Flow{Name: s}, api.Flow{Name: s, Tasks: []api.Task{task("a"), task("b", 0)}})
	}
	return l
}

// flaw is what makes a workflow one that Check refuses.
type flaw struct {
	name  string
	e     api.Errno
	spoil func(f *api.Flow)
}

// spoilEach makes, for each value, a flaw of the last task.
func spoilEach[T any](name string, e api.Errno, values []T, set func(t *api.Task, x T)) []flaw {
	var l []flaw
	for _, x := range values {
		l = append(l, flaw{fmt.Sprintf("%s %.50q", name, fmt.Sprint(x)), e, func(f *api.Flow) { set(&f.Tasks[len(f.Tasks)-1], x) }})
	}
	return l
}

// spoilWhole makes, for each value, a flaw of the workflow itself.
func spoilWhole[T any](name string, e api.Errno, values []T, set func(f *api.Flow, x T)) []flaw {
	var l []flaw
	for _, x := range values {
		l = append(l, flaw{fmt.Sprintf("%s %.50q", name, fmt.Sprint(x)), e, func(f *api.Flow) { set(f, x) }})
	}
	return l
}

// beyond are numbers out of least to most.
func beyond(least, most int) []int {
	l := []int{least - 1, most + 1, least - 2, most + 2, -1 << 40, 1 << 41, 1<<32 + least, 1<<40 + least, 1<<62 + 1, math.MaxInt, math.MinInt}
	return slices.DeleteFunc(l, func(n int) bool { return least <= n && n <= most })
}

// flaws are lists of some for each error of Check, ordered as the chapter names these. The workflow has to have two tasks at least.
func flaws() [][]flaw {
	taskName := func(t *api.Task, s string) { t.Name = s }
	return [][]flaw{
		slices.Concat(
			spoilWhole("workflow name", api.ErrForm, notNames(), func(f *api.Flow, s string) { f.Name = s }),
			spoilEach("task name", api.ErrForm, append(notNames(), childs()...), taskName),
		),
		slices.Concat(
			spoilWhole("deadline", api.ErrArg, beyond(0, api.MaxTime), func(f *api.Flow, n int) { f.Deadline = n }),
			spoilWhole("priority", api.ErrArg, beyond(0, 1000), func(f *api.Flow, n int) { f.Priority = n }),
			spoilEach("nodes", api.ErrArg, beyond(1, api.MaxNodes), func(t *api.Task, n int) { t.Nodes = n }),
			spoilEach("wall", api.ErrArg, beyond(1, api.MaxTime), func(t *api.Task, n int) { t.Wall = n }),
			spoilEach("retry", api.ErrArg, beyond(0, api.MaxRetry), func(t *api.Task, n int) { t.Retry = n }),
		),
		{
			{"the first name twice", api.ErrTwice, func(f *api.Flow) { f.Tasks[1].Name = f.Tasks[0].Name }},
			{"two tasks more", api.ErrTwice, func(f *api.Flow) { f.Tasks = append(f.Tasks, task("more"), task("more")) }},
		},
		{
			{"one task too many", api.ErrLong, func(f *api.Flow) { f.Tasks = append(f.Tasks, named(api.MaxTasks+1-len(f.Tasks))...) }},
			{"twice as many tasks", api.ErrLong, func(f *api.Flow) { f.Tasks = append(f.Tasks, named(2*api.MaxTasks)...) }},
		},
		spoilEach("after", api.ErrArg, [][]int{{1, 0}, {0, 0}, {0, 1, 1}, {-1}, {-1, 0}, {math.MinInt}, {math.MaxInt}, {api.MaxTasks}, {0, 1 << 32}, {2, 1, 0}, {0, 1, 0}},
			func(t *api.Task, l []int) { t.After = l }),
		{
			{"itself", api.ErrCycle, func(f *api.Flow) { f.Tasks[0].After = []int{0} }},
			{"one another", api.ErrCycle, func(f *api.Flow) { f.Tasks[0].After, f.Tasks[1].After = []int{1}, []int{0} }},
			{"over itself again", api.ErrCycle, func(f *api.Flow) {
				n := len(f.Tasks)
				f.Tasks = append(f.Tasks, task("x", n+2), task("y", n), task("z", 0, n+1))
			}},
		},
	}
}

// named are n tasks with names that no other workflow here has.
func named(n int) []api.Task {
	l := make([]api.Task, n)
	for i := range l {
		l[i] = task(fmt.Sprintf("n%d", i))
	}
	return l
}

// spoilt is a copy of f, made without the package's own calls, with these flaws.
func spoilt(f api.Flow, l ...flaw) api.Flow {
	f = copied(f)
	for _, x := range l {
		x.spoil(&f)
	}
	return f
}

// copied is f in other memory.
func copied(f api.Flow) api.Flow {
	f.Tasks = append([]api.Task(nil), f.Tasks...)
	for v := range f.Tasks {
		f.Tasks[v].After = append([]int(nil), f.Tasks[v].After...)
	}
	return f
}

// short is the text of x, but not all of it if x is large.
func short(x any) string {
	return fmt.Sprintf("%.300q", fmt.Sprintf("%v", x))
}

func checkCheck(t *testing.T, name string, f api.Flow, want api.Errno) {
	t.Helper()
	if e := Check(f); e != want {
		t.Errorf("%s: Check(%s) = %d; asked for: %d", name, short(f), e, want)
	}
	if s, e := Print(f); e != want || (e != api.OK) != (s == "") {
		t.Errorf("%s: Print(%s) = %.60q, %d; asked for: %d", name, short(f), s, e, want)
	}
}

func TestCheckAccepts(t *testing.T) {
	for _, f := range allowed() {
		checkCheck(t, "allowed", f, api.OK)
	}
}

func TestCheckOfEachFlaw(t *testing.T) {
	for _, f := range []api.Flow{example(), wide(), full()} {
		for _, l := range flaws() {
			for _, x := range l {
				checkCheck(t, x.name, spoilt(f, x), x.e)
			}
		}
	}
}

// Of two flaws the one that is named first is told, whichever task has it.
func TestCheckOfTwoFlaws(t *testing.T) {
	f := full()
	all := flaws()
	for i := range all {
		for k := i + 1; k < len(all); k++ {
			for a, x := range all[i] {
				y := all[k][a%len(all[k])]
				checkCheck(t, x.name+", "+y.name, spoilt(f, x, y), x.e)
				g := spoilt(f, y)
				slices.Reverse(g.Tasks)
				g = spoilt(g, x)
				if e := Check(g); e != x.e {
					t.Errorf("%s, %s, reversed: Check = %d; asked for: %d", x.name, y.name, e, x.e)
				}
			}
		}
	}
}

// All the flaws at once: as each one is mended, the next is told.
func TestCheckOfAllFlaws(t *testing.T) {
	all := flaws()
	for i := range all {
		f := full()
		for k := len(all) - 1; k >= i; k-- {
			x := all[k][0]
			x.spoil(&f)
		}
		if e := Check(f); e != all[i][0].e {
			t.Errorf("%s first: Check = %d; asked for: %d", all[i][0].name, e, all[i][0].e)
		}
	}
}

// A flaw is found in every task, not in the first or the last one alone.
func TestCheckOfEachTask(t *testing.T) {
	for v := range 5 {
		for name, x := range map[string]struct {
			e   api.Errno
			set func(t *api.Task)
		}{
			"name":  {api.ErrForm, func(t *api.Task) { t.Name = "1" }},
			"child": {api.ErrForm, func(t *api.Task) { t.Name = "Child" }},
			"nodes": {api.ErrArg, func(t *api.Task) { t.Nodes = 0 }},
			"wall":  {api.ErrArg, func(t *api.Task) { t.Wall = 0 }},
			"retry": {api.ErrArg, func(t *api.Task) { t.Retry = -1 }},
			"after": {api.ErrArg, func(t *api.Task) { t.After = []int{5} }},
			"cycle": {api.ErrCycle, func(t *api.Task) { t.After = []int{v} }},
			"twice": {api.ErrTwice, func(t *api.Task) { t.Name = []string{"b", "c", "d", "e", "a"}[v] }},
		} {
			f := flowOf(task("a"), task("b"), task("c"), task("d"), task("e"))
			x.set(&f.Tasks[v])
			checkCheck(t, fmt.Sprint(name, v), f, x.e)
		}
	}
}

// Only the index that is too great by one is none.
func TestCheckOfIndexes(t *testing.T) {
	f := flowOf(task("a"), task("b"), task("c", 0, 1))
	checkCheck(t, "up to the last", f, api.OK)
	f.Tasks[0].After = []int{3}
	checkCheck(t, "one more", f, api.ErrArg)
	f.Tasks[0].After = []int{2}
	checkCheck(t, "a cycle", f, api.ErrCycle)
	f.Tasks[2].After = []int{1}
	checkCheck(t, "none", f, api.OK)
	checkCheck(t, "no task", api.Flow{Name: "w"}, api.OK)
	checkCheck(t, "nothing", api.Flow{}, api.ErrForm)
}

func TestAfter(t *testing.T) {
	if l := After(api.Flow{}); len(l) != 0 {
		t.Errorf("After of nothing = %v", l)
	}
	check := func(name string, f api.Flow, want [][]int) {
		t.Helper()
		if got := After(f); !slices.EqualFunc(got, want, slices.Equal) {
			t.Errorf("%s: After = %v; asked for: %v", name, got, want)
		}
	}
	check("example", example(), [][]int{{}, {0}})
	check("the whole's example", wide(), [][]int{{}, {}, {0, 1}})
	check("full", full(), [][]int{{}, {0, 3}, {1, 3, 4}, {}, {0, 3}})
	check("what Check refuses", flowOf(task("a", 5, -1, 5), task("a"), task("", math.MaxInt)), [][]int{{5, -1, 5}, {}, {math.MaxInt}})
}

func TestFind(t *testing.T) {
	f := flowOf(task("b"), task("a"), task("é1"), task("a"), task(""), task("\xff"), task("child"))
	for _, x := range []struct {
		name string
		v    int
		ok   bool
	}{{"b", 0, true}, {"a", 1, true}, {"é1", 2, true}, {"", 4, true}, {"\xff", 5, true}, {"child", 6, true}, {"A", 0, false}, {"B", 0, false}, {"é", 0, false}, {"w", 0, false}, {"\xfe", 0, false}, {"\ufffd", 0, false}, {"CHILD", 0, false}, {"a ", 0, false}} {
		if v, ok := Find(f, x.name); v != x.v || ok != x.ok {
			t.Errorf("Find(%q) = %d, %v", x.name, v, ok)
		}
	}
	if v, ok := Find(api.Flow{Name: "a"}, "a"); v != 0 || ok {
		t.Errorf("Find without tasks = %d, %v", v, ok)
	}
	if v, ok := Find(api.Flow{}, ""); v != 0 || ok {
		t.Errorf("Find in nothing = %d, %v", v, ok)
	}
}

// changes each make another workflow of one with two tasks, the last of which waits for one.
func changes() []func(f *api.Flow) {
	return []func(f *api.Flow){
		func(f *api.Flow) { f.Name += "x" },
		func(f *api.Flow) { f.Deadline++ },
		func(f *api.Flow) { f.Priority-- },
		func(f *api.Flow) { f.Tasks[0].Name = strings.ToUpper(f.Tasks[0].Name) + "_" },
		func(f *api.Flow) { f.Tasks[1].Nodes++ },
		func(f *api.Flow) { f.Tasks[0].Wall-- },
		func(f *api.Flow) { f.Tasks[1].Retry++ },
		func(f *api.Flow) { f.Tasks[0].Done = !f.Tasks[0].Done },
		func(f *api.Flow) { f.Tasks[1].After[0]++ },
		func(f *api.Flow) { f.Tasks[1].After = nil },
		func(f *api.Flow) { f.Tasks[1].After = append(f.Tasks[1].After, 0) },
		func(f *api.Flow) { f.Tasks = f.Tasks[:1] },
		func(f *api.Flow) { f.Tasks = append(f.Tasks, api.Task{}) },
		func(f *api.Flow) { f.Tasks = nil },
		func(f *api.Flow) { slices.Reverse(f.Tasks) },
	}
}

func TestSame(t *testing.T) {
	for _, f := range []api.Flow{example(), full(), spoilt(example(), flaws()[1][0])} {
		if !Same(f, f) || !Same(f, copied(f)) {
			t.Errorf("Same(%s) is false for itself", short(f))
		}
		for i, change := range changes() {
			g := copied(f)
			change(&g)
			if Same(f, g) || Same(g, f) {
				t.Errorf("Same is true for %s and %s, change %d", short(f), short(g), i)
			}
			if !Same(g, copied(g)) {
				t.Errorf("Same(%s) is false for itself", short(g))
			}
		}
	}
	if !Same(api.Flow{Name: "w", Tasks: []api.Task{}}, api.Flow{Name: "w"}) || !Same(api.Flow{}, api.Flow{}) {
		t.Error("a nil list of tasks is not the empty one")
	}
	empty := flowOf(api.Task{Name: "a", After: []int{}})
	if !Same(empty, flowOf(api.Task{Name: "a"})) || !Same(flowOf(api.Task{Name: "a"}), empty) {
		t.Error("a nil After is not the empty one")
	}
}

// All pairs of the workflows here are the same exactly if they have the same fields.
func TestSameOfPairs(t *testing.T) {
	l := append(allowed(), api.Flow{}, flowOf(), flowOf(task("a", 9, 9)), flowOf(task("a", 9)), flowOf(task("\xff")), flowOf(task("\ufffd")))
	for _, f := range l {
		for _, g := range l {
			if Same(f, g) != wantSame(f, g) {
				t.Errorf("Same(%s, %s) = %v", short(f), short(g), Same(f, g))
			}
		}
	}
}

func TestCopy(t *testing.T) {
	for _, f := range append(allowed(), api.Flow{}, flowOf(task("", 7, 7, -1), task("")), spoilt(full(), flaws()[0][0], flaws()[1][0], flaws()[4][0])) {
		if g := Copy(f); !wantSame(f, g) {
			t.Errorf("Copy(%s) = %s", short(f), short(g))
		}
	}
}

// A new field of api would have to be compared and copied as well.
func TestFieldsAreThoseThatAreCompared(t *testing.T) {
	if n := reflect.TypeFor[api.Flow]().NumField(); n != 4 {
		t.Errorf("%d fields of a workflow", n)
	}
	if n := reflect.TypeFor[api.Task]().NumField(); n != 6 {
		t.Errorf("%d fields of a task", n)
	}
}
