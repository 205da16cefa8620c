package plan

import (
	"reflect"
	"slices"
	"testing"

	"timekeeper/api"
	"timekeeper/flow"
)

// spoil overwrites l, and what is behind it.
func spoil[T any](l []T, mark T) {
	l = l[:cap(l)]
	for i := range l {
		l[i] = mark
	}
}

// roomy is l in other memory, with more behind it that would come next.
func roomy[T any](l []T, more ...T) []T {
	other := append(slices.Clone(l), more...)
	return other[:len(l)]
}

// roomyRequest is r in other memory, which has room everywhere.
func roomyRequest(r request) request {
	r.f.Tasks = roomy(r.f.Tasks, task("x", 1, 1), task("y", 1, 1, 0), task("z", 1, 1))
	for v, t := range r.f.Tasks {
		r.f.Tasks[v].After = roomy(t.After, 7, 8, 9)
	}
	r.l = roomy(r.l, list(most-2, 7, most-1, 0, most, 9)...)
	return r
}

// whole is all of a request in other memory, with what stands behind each of its parts.
func whole(r request) request {
	r.f.Tasks = slices.Clone(r.f.Tasks[:cap(r.f.Tasks)])
	for v, t := range r.f.Tasks {
		r.f.Tasks[v].After = slices.Clone(t.After[:cap(t.After)])
	}
	r.l = slices.Clone(r.l[:cap(r.l)])
	return r
}

func spoilRequest(r request) {
	for _, t := range r.f.Tasks {
		spoil(t.After, -7)
	}
	spoil(r.f.Tasks, api.Task{Name: "spoilt", Nodes: -7, Wall: -8, After: []int{-9}})
	spoil(r.l, api.Step{At: -7, Free: -8})
}

// sample is a request, and starts for it.
type sample struct {
	r      request
	starts []int
}

// samples are some that are accepted, some that are refused, and some that are wrong.
func samples() []sample {
	over := on(list(0, 2, 9, 1), 1, 40, task("a", 1, 4), done(task("b", 5, 9, 0)), task("c", 1, 2, 1), task("d", 2, 2))
	return []sample{
		{request{example(), list(0, 3), 10, 20}, []int{20, 30, 40}},
		{request{example(), list(0, 3, 12, 0, 17, 4), 10, 50}, []int{25, 20, 40}},
		{request{example(), list(0, 3), 10, 19}, []int{15, 10, 18}},
		{request{example(), list(0, 3), 10, 9}, []int{15, 10, 17}},
		{request{example(), list(0, 1), 10, most}, []int{15, 10, 18}},
		{over, []int{1, -1, 20, 6}}, {over, []int{3, -1, 7, 1}}, {over, []int{3, -1, 7, 9}}, {over, nil},
		{on(list(0, 2), 5, 5), nil}, {on(list(0, 2), 5, 5, done(task("a", 1, 1))), []int{-1}}, {on(list(0, 2), 5, 4), []int{}},
		{on(nil, 5, 5, task("a", 1, 1)), []int{5}}, {on(list(0, 2), 5, 9, task("a", 0, 1)), []int{5}}, {on(list(0, 2), -5, 9, task("a", 1, 1)), []int{5}},
	}
}

// told is all that the calls answer.
type told struct {
	forward, backward, admit, pull []int
	left                           []api.Step
	offer, end, by                 int
	holds                          bool
	errors                         [7]api.Errno
}

func ask(r request, starts []int) told {
	var a told
	a.forward, a.errors[0] = r.forward()
	a.backward, a.errors[1] = r.backward()
	a.admit, a.by, a.errors[2] = r.admit()
	a.pull, a.errors[3] = r.pull(starts)
	a.left, a.errors[4] = r.taken(starts)
	a.offer, a.errors[5] = r.offer()
	a.end, a.errors[6] = r.end(starts)
	a.holds = r.holds(starts)
	return a
}

func isSame(a, b told) bool {
	return slices.Equal(a.forward, b.forward) && slices.Equal(a.backward, b.backward) && slices.Equal(a.admit, b.admit) && slices.Equal(a.pull, b.pull) &&
		slices.Equal(a.left, b.left) && a.offer == b.offer && a.end == b.end && a.by == b.by && a.holds == b.holds && a.errors == b.errors
}

func TestArgumentsAreNotChanged(t *testing.T) {
	for _, x := range samples() {
		want := ask(x.r, x.starts)
		r, starts := roomyRequest(x.r), roomy(x.starts, -1, 7, 8)
		kept, keptStarts := whole(r), slices.Clone(starts[:cap(starts)])
		if got := ask(r, starts); !isSame(got, want) {
			t.Errorf("%s: %v, with more behind it; asked for: %v", x.r, got, want)
		}
		if now := whole(r); !reflect.DeepEqual(now, kept) {
			t.Errorf("%s: it was %v, and is %v", x.r, kept, now)
		}
		if now := starts[:cap(starts)]; !slices.Equal(now, keptStarts) {
			t.Errorf("%s: the starts were %v, and are %v", x.r, keptStarts, now)
		}
	}
}

// What is done to an argument later is nothing to a result, nor to a later one.
func TestArgumentsAreNotKept(t *testing.T) {
	for _, x := range samples() {
		want := ask(x.r, x.starts)
		r, starts := roomyRequest(x.r), roomy(x.starts, -1, 7, 8)
		got := ask(r, starts)
		spoilRequest(r)
		spoil(starts, -9)
		if !isSame(got, want) {
			t.Errorf("%s is spoilt, and the answers are %v; asked for: %v", x.r, got, want)
		}
		if later := ask(x.r, x.starts); !isSame(later, want) {
			t.Errorf("%s: later %v; asked for: %v", x.r, later, want)
		}
	}
}

// What is done to a result, and to what is behind it, is nothing to an argument, to another result, or to a later one.
func TestResultsAreApart(t *testing.T) {
	spoilers := []func(a told){
		func(a told) { spoil(a.forward, -7) }, func(a told) { spoil(a.backward, -7) }, func(a told) { spoil(a.admit, -7) },
		func(a told) { spoil(a.pull, -7) }, func(a told) { spoil(a.left, api.Step{At: -7, Free: -8}) },
	}
	for _, x := range samples() {
		for _, spoilOne := range spoilers {
			want := ask(x.r, x.starts)
			r, starts := roomyRequest(x.r), roomy(x.starts, -1, 7, 8)
			kept, keptStarts := whole(r), slices.Clone(starts[:cap(starts)])
			a, b := ask(r, starts), ask(r, starts)
			spoilOne(a)
			if !isSame(b, want) || !isSame(ask(r, starts), want) {
				t.Errorf("%s: one answer is spoilt, and another is as well; asked for: %v", x.r, want)
			}
			if !reflect.DeepEqual(whole(r), kept) || !slices.Equal(starts[:cap(starts)], keptStarts) {
				t.Errorf("%s: an answer is spoilt, and an argument is as well", x.r)
			}
		}
	}
}

// The results of one call after another are apart, too, where one is the argument of the next.
func TestResultsAsArguments(t *testing.T) {
	r := request{flow.Copy(example()), list(0, 3), 10, 20}
	starts, _ := r.forward()
	pulled, _ := r.pull(starts)
	left, _ := r.taken(starts)
	other := request{r.f, left, 10, 60}
	next, _ := other.forward()
	last, _ := other.taken(next)
	want := [][]int{slices.Clone(starts), slices.Clone(pulled), slices.Clone(next)}
	wantLeft := slices.Clone(left)
	spoil(last, api.Step{At: -7, Free: -8})
	spoil(pulled, -7)
	if !slices.Equal(starts, want[0]) || !slices.Equal(next, want[2]) || !slices.Equal(left, wantLeft) {
		t.Errorf("%v %v %v; asked for: %v %v", starts, next, left, want, wantLeft)
	}
	spoil(left, api.Step{At: -7, Free: -8})
	if !slices.Equal(r.l, list(0, 3)) || !slices.Equal(next, want[2]) {
		t.Errorf("%v %v; asked for: %v", r.l, next, want[2])
	}
}
