package rescue

import (
	"reflect"
	"slices"
	"testing"

	"timekeeper/api"
	"timekeeper/flow"
	"timekeeper/life"
)

// spoil overwrites l, and what is behind it.
func spoil[T any](l []T, mark T) {
	l = l[:cap(l)]
	for i := range l {
		l[i] = mark
	}
}

// roomy is l in other memory, with more behind it that would come next.
func roomy[T any](l []T, more ...T) []T {
	other := append(slices.Clone(l), more...)
	return other[:len(l)]
}

// roomySample is w in other memory, which has room everywhere.
func roomySample(w wrong) wrong {
	w.f.Tasks = roomy(w.f.Tasks, task("x", 1), task("y", 1, 0), task("z", 1))
	for v, t := range w.f.Tasks {
		w.f.Tasks[v].After = roomy(t.After, 7, 8, 9)
	}
	w.x.State = roomy(w.x.State, api.Waiting, api.Failed, api.Dead)
	w.x.Fails = roomy(w.x.Fails, 0, 1, 2)
	return w
}

// whole is all of a sample in other memory, with what stands behind each of its parts.
func whole(w wrong) wrong {
	w.f.Tasks = slices.Clone(w.f.Tasks[:cap(w.f.Tasks)])
	for v, t := range w.f.Tasks {
		w.f.Tasks[v].After = slices.Clone(t.After[:cap(t.After)])
	}
	w.x.State = slices.Clone(w.x.State[:cap(w.x.State)])
	w.x.Fails = slices.Clone(w.x.Fails[:cap(w.x.Fails)])
	return w
}

func spoilFlow(f api.Flow) {
	for _, t := range f.Tasks {
		spoil(t.After, -7)
	}
	spoil(f.Tasks, api.Task{Name: "spoilt", Nodes: -7, Retry: -8, After: []int{-9}})
}

func spoilLife(x api.Life) {
	spoil(x.State, -7)
	spoil(x.Fails, -8)
}

// samples are lives at the begin, in the middle and at the end, and some that are refused.
func samples() []wrong {
	row := flowOf(task("a", 1), task("b", 0, 0), task("c", 0, 1), done(task("d", 0, 0, 2)))
	return []wrong{
		right(), over(),
		{row, lifeOf("W W W S")}, {row, lifeOf("R1 W W S")}, {row, lifeOf("F2 D D S")}, {row, lifeOf("S1 S S S")}, {row, lifeOf("S C C S")},
		{flowOf(), api.Life{}}, {flowOf(done(task("a", 1))), lifeOf("S")}, {flowOf(task("a", 1)), lifeOf("C1")},
		{flowOf(task("a", 1)), lifeOf("W W")}, {flowOf(task("a", -1)), lifeOf("W")}, {row, lifeOf("W W W W")},
	}
}

// told is all that the calls answer.
type told struct {
	flow   api.Flow
	life   api.Life
	counts []int
	lost   []int
	text   string
	status string
	needed bool
	at     int
	errors [7]api.Errno
}

// ask makes all calls, and reads the status that one of them answers, or an empty one.
func ask(w wrong) told {
	var a told
	a.flow, a.errors[0] = Flow(w.f, w.x)
	a.text, a.errors[1] = Text(w.f, w.x)
	a.needed, a.errors[2] = Needed(w.f, w.x)
	a.counts, a.errors[3] = Counts(w.f, w.x)
	a.status, a.errors[4] = Status(w.f, w.x)
	a.lost, a.errors[5] = Lost(w.f, w.x)
	a.life, a.at, a.errors[6] = Read(w.f, a.status)
	return a
}

func isEqual(a, b told) bool {
	return flow.Same(a.flow, b.flow) && life.Same(a.life, b.life) && slices.Equal(a.counts, b.counts) && slices.Equal(a.lost, b.lost) &&
		a.text == b.text && a.status == b.status && a.needed == b.needed && a.at == b.at && a.errors == b.errors
}

func TestArgumentsAreNotChanged(t *testing.T) {
	for _, w := range samples() {
		want := ask(w)
		y := roomySample(w)
		kept := whole(y)
		if got := ask(y); !isEqual(got, want) {
			t.Errorf("%v: %v, with more behind it; asked for: %v", w, got, want)
		}
		if now := whole(y); !reflect.DeepEqual(now, kept) {
			t.Errorf("it was %v, and is %v", kept, now)
		}
	}
}

// What is done to an argument later is nothing to a result, nor to a later one.
func TestArgumentsAreNotKept(t *testing.T) {
	for _, w := range samples() {
		want := ask(w)
		y := roomySample(w)
		got := ask(y)
		spoilFlow(y.f)
		spoilLife(y.x)
		if !isEqual(got, want) {
			t.Errorf("%v is spoilt, and the answers are %v; asked for: %v", w, got, want)
		}
		if later := ask(w); !isEqual(later, want) {
			t.Errorf("%v: later %v; asked for: %v", w, later, want)
		}
	}
}

// What is done to a result, and to what is behind it, is nothing to an argument, to another result, or to a later one.
func TestResultsAreApart(t *testing.T) {
	for _, w := range samples() {
		want := ask(w)
		for part := range 5 {
			y := roomySample(w)
			kept := whole(y)
			a, b := ask(y), ask(y)
			left := a
			switch part {
			case 0:
				spoilFlow(a.flow)
				left.flow = want.flow
			case 1:
				spoil(a.life.State, -7)
				left.life.State = want.life.State
			case 2:
				spoil(a.life.Fails, -7)
				left.life.Fails = want.life.Fails
			case 3:
				spoil(a.counts, -7)
				left.counts = want.counts
			default:
				spoil(a.lost, -7)
				left.lost = want.lost
			}
			if !isEqual(left, want) || !isEqual(b, want) || !isEqual(ask(y), want) {
				t.Errorf("%v: part %d of an answer is spoilt, and another is as well; asked for: %v", w, part, want)
			}
			if now := whole(y); !reflect.DeepEqual(now, kept) {
				t.Errorf("%v: part %d of an answer is spoilt, and an argument is as well", w, part)
			}
		}
	}
}

// One list is given for several tasks: they are lists of their own in the remaining workflow.
func TestListsOfOneResultAreApart(t *testing.T) {
	shared := append(make([]int, 0, 9), 0, 1)
	f := flowOf(task("a", 0), task("b", 0), task("c", 0), task("d", 0), task("e", 0))
	f.Tasks[2].After, f.Tasks[3].After, f.Tasks[4].After = shared, shared, shared[:1]
	for v := range f.Tasks {
		g, e := Flow(f, lifeOf("S S C C C"))
		if e != api.OK {
			t.Fatalf("error %d", e)
		}
		spoil(g.Tasks[v].After, -7)
		for w, x := range g.Tasks {
			if w != v && !slices.Equal(x.After, f.Tasks[w].After) {
				t.Errorf("list %d is spoilt, and list %d is %v; asked for: %v", v, w, x.After, f.Tasks[w].After)
			}
		}
	}
	if !slices.Equal(shared[:3], []int{0, 1, 0}) {
		t.Errorf("an argument is %v", shared[:3])
	}
}

// Calls in between do not matter.
func TestCallsInBetween(t *testing.T) {
	want := ask(right())
	for range 3 {
		for _, w := range samples() {
			ask(w)
			if got := ask(right()); !isEqual(got, want) {
				t.Fatalf("after calls for %v: %v; asked for: %v", w, got, want)
			}
		}
	}
}
