package flow

import (
	"slices"
	"testing"

	"timekeeper/api"
)

// roomy is f in other memory, with spare capacity behind each list, which has marks that nobody may change.
func roomy(f api.Flow) api.Flow {
	tasks := append(make([]api.Task, 0, len(f.Tasks)+3), f.Tasks...)
	for v, t := range tasks {
		after := append(make([]int, 0, len(t.After)+4), t.After...)
		for i := range spare(after) {
			spare(after)[i] = -9
		}
		tasks[v].After = after
	}
	for i := range spare(tasks) {
		spare(tasks)[i] = api.Task{Name: "spare"}
	}
	f.Tasks = tasks
	return f
}

// spare is what a list has behind it.
func spare[T any](l []T) []T {
	return l[len(l):cap(l)]
}

// isUnchanged reports whether f is as roomy has made it of g.
func isUnchanged(f api.Flow, g api.Flow) bool {
	for _, t := range f.Tasks {
		if slices.ContainsFunc(spare(t.After), func(n int) bool { return n != -9 }) {
			return false
		}
	}
	return wantSame(f, g) && !slices.ContainsFunc(spare(f.Tasks), func(t api.Task) bool { return t.Name != "spare" })
}

// spoil overwrites a list and what is behind it.
func spoil[T any](l []T, x T) {
	l = l[:cap(l)]
	for i := range l {
		l[i] = x
	}
}

// spoilFlow overwrites all lists of f, the tasks last.
func spoilFlow(f api.Flow) {
	for _, t := range f.Tasks {
		spoil(t.After, -7)
	}
	spoil(f.Tasks, api.Task{Name: "spoilt", After: []int{-7}})
}

// someFlows are also those that Check refuses.
func someFlows() []api.Flow {
	return append(allowed(), api.Flow{}, spoilt(full(), flaws()[0][0]), spoilt(full(), flaws()[1][0]), spoilt(full(), flaws()[2][0]), spoilt(full(), flaws()[4][0]), spoilt(full(), flaws()[5][0]),
		flowOf(task("a", 5, 5, -1), task("a")))
}

func TestArgumentsAreNotChanged(t *testing.T) {
	for _, f := range someFlows() {
		g := roomy(f)
		Check(g)
		Print(g)
		After(g)
		Find(g, "a")
		Same(g, g)
		Same(g, f)
		Copy(g)
		if !isUnchanged(g, f) {
			t.Errorf("%s has become %s", short(f), short(g))
		}
	}
}

// What is done to an argument later is nothing to a result.
func TestArgumentsAreNotKept(t *testing.T) {
	for _, f := range someFlows() {
		g := roomy(f)
		copied, after := Copy(g), After(g)
		spoilFlow(g)
		if !wantSame(copied, f) {
			t.Errorf("the copy of %s has become %s", short(f), short(copied))
		}
		for v, l := range after {
			if !slices.Equal(l, f.Tasks[v].After) {
				t.Errorf("After of %s has become %v", short(f), after)
			}
		}
	}
}

// What is done to a result is nothing to an argument.
func TestResultsAreNotArguments(t *testing.T) {
	for _, f := range someFlows() {
		g := roomy(f)
		spoilFlow(Copy(g))
		after := After(g)
		for _, l := range after {
			spoil(l, -7)
		}
		spoil(after, []int{-7})
		if !isUnchanged(g, f) {
			t.Errorf("%s has become %s", short(f), short(g))
		}
	}
}

// checkListsApart overwrites one list after the other, and asks whether those that are left stay.
func checkListsApart(t *testing.T, name string, got [][]int) {
	t.Helper()
	var want [][]int
	for _, l := range got {
		want = append(want, append([]int(nil), l...))
	}
	for v := range got {
		spoil(got[v], -7)
		for w := v + 1; w < len(got); w++ {
			if !slices.Equal(got[w], want[w]) {
				t.Errorf("%s: list %d is spoilt, and list %d is %v; asked for: %v", name, v, w, got[w], want[w])
			}
		}
	}
	for v := range got {
		got[v] = append([]int(nil), want[v]...)
	}
	for v := len(got) - 1; v >= 0; v-- {
		spoil(got[v], -7)
		for w := range v {
			if !slices.Equal(got[w], want[w]) {
				t.Errorf("%s: list %d is spoilt, and list %d is %v; asked for: %v", name, v, w, got[w], want[w])
			}
		}
	}
}

// afters are the lists of a workflow itself.
func afters(f api.Flow) [][]int {
	var l [][]int
	for _, t := range f.Tasks {
		l = append(l, t.After)
	}
	return l
}

// One list is given for several tasks: they are lists of their own in a result.
func TestListsOfOneResultAreApart(t *testing.T) {
	shared := append(make([]int, 0, 9), 0, 1)
	f := flowOf(task("a"), task("b"), task("c", 0), task("d"), task("e"), task("f"))
	f.Tasks[3].After, f.Tasks[4].After, f.Tasks[5].After = shared, shared, shared[:1]
	for _, g := range append(someFlows(), f) {
		checkListsApart(t, "After", After(g))
		checkListsApart(t, "Copy", afters(Copy(g)))
		if s, e := Print(g); e == api.OK {
			checkListsApart(t, "Parse", afters(parsed(t, s)))
		}
	}
	checkListsApart(t, "one line", afters(parsed(t, "WORKFLOW w\nJOB a\nJOB b\nJOB c\nJOB d\nPARENT a b CHILD c d\nPARENT c CHILD d\n")))
}

// Two results of one call's kind share nothing.
func TestResultsAreApart(t *testing.T) {
	const s = "WORKFLOW w\nJOB a\nJOB b\nJOB c\nPARENT a b CHILD c\n"
	want := flowOf(task("a"), task("b"), task("c", 0, 1))
	f := parsed(t, s)
	g := parsed(t, s)
	spoilFlow(f)
	if !wantSame(g, want) || !wantSame(parsed(t, s), want) {
		t.Errorf("one result is spoilt, and the other is %s", short(g))
	}
	h, k := Copy(g), Copy(g)
	spoilFlow(h)
	if !wantSame(k, want) || !wantSame(g, want) {
		t.Errorf("one copy is spoilt, and the other is %s", short(k))
	}
}

func TestLineNeitherChangesNorKeepsWords(t *testing.T) {
	for _, l := range [][]string{
		nil, {"job", "a"}, {"nodes", "a", "1"}, {"parent", "a", "b", "child", "c"}, {"Parent", "a", "CHILD", "c", "d"},
		{"parent", "a", "child"}, {"parent", "child", "b", "child"}, {"what", "a"}, {"job"}, {"job", "a", "b"},
	} {
		given := append(make([]string, 0, len(l)+3), l...)
		spoil(spare(given), "spare")
		keyword, words, e := Line(given...)
		if !slices.Equal(given, l) || slices.ContainsFunc(spare(given), func(s string) bool { return s != "spare" }) {
			t.Errorf("Line has changed %q to %q", l, given)
		}
		want := slices.Clone(words)
		spoil(given, "spoilt")
		if !slices.Equal(words, want) {
			t.Errorf("%q is spoilt, and the words are %q", l, words)
		}
		given = append(given[:0], l...)
		spoil(words, "spoilt")
		if !slices.Equal(given, l) {
			t.Errorf("the words are spoilt, and %q is %q", l, given)
		}
		if k, w, err := Line(given...); k != keyword || !slices.Equal(w, want) || err != e {
			t.Errorf("asked again, Line(%q) = %q, %q, %d", l, k, w, err)
		}
	}
}
