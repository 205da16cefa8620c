package life

import (
	"reflect"
	"slices"
	"testing"

	"timekeeper/api"
)

// spoil overwrites l, and what is behind it.
func spoil[T any](l []T, mark T) {
	l = l[:cap(l)]
	for i := range l {
		l[i] = mark
	}
}

// roomy is l in other memory, with more behind it that would come next.
func roomy[T any](l []T, more ...T) []T {
	other := append(slices.Clone(l), more...)
	return other[:len(l)]
}

// sample is a workflow, a life of it, or what is none, and a task.
type sample struct {
	f api.Flow
	x api.Life
	v int
}

// roomySample is x in other memory, which has room everywhere.
func roomySample(x sample) sample {
	x.f.Tasks = roomy(x.f.Tasks, task("x", 1), task("y", 1, 0), task("z", 1))
	for v, t := range x.f.Tasks {
		x.f.Tasks[v].After = roomy(t.After, 7, 8, 9)
	}
	x.x.State = roomy(x.x.State, api.Waiting, api.Failed, api.Dead)
	x.x.Fails = roomy(x.x.Fails, 0, 1, 2)
	return x
}

// whole is all of a sample in other memory, with what stands behind each of its parts.
func whole(x sample) sample {
	x.f.Tasks = slices.Clone(x.f.Tasks[:cap(x.f.Tasks)])
	for v, t := range x.f.Tasks {
		x.f.Tasks[v].After = slices.Clone(t.After[:cap(t.After)])
	}
	x.x.State = slices.Clone(x.x.State[:cap(x.x.State)])
	x.x.Fails = slices.Clone(x.x.Fails[:cap(x.x.Fails)])
	return x
}

func spoilLife(x api.Life) {
	spoil(x.State, -7)
	spoil(x.Fails, -8)
}

func spoilSample(x sample) {
	for _, t := range x.f.Tasks {
		spoil(t.After, -7)
	}
	spoil(x.f.Tasks, api.Task{Name: "spoilt", Nodes: -7, Retry: -8, After: []int{-9}})
	spoilLife(x.x)
}

// samples are some that are changed, some that are not, and some that are refused.
func samples() []sample {
	f := right(0).f
	row := flowOf(task("a", 1), task("b", 0, 0), task("c", 0, 1), done(task("d", 0, 2)))
	return []sample{
		{f, lifeOf("S1 R F1 D S W D W W1 S"), 1}, {f, lifeOf("S1 R1 F1 D S W D W W1 S"), 1}, {f, lifeOf("S1 R F1 D S W D W W1 S"), 5}, {f, lifeOf("S1 C F1 D S C D C C1 S"), 5},
		{f, lifeOf("S1 R F1 D S W D W W1 S"), 12}, {f, lifeOf("S1 R F1 D S W D W W1 W"), 1},
		{row, lifeOf("W W W S"), 0}, {row, lifeOf("R W W S"), 0}, {row, lifeOf("R1 W W S"), 0}, {row, lifeOf("F2 D D S"), 0}, {row, lifeOf("S1 S S S"), 2},
		{flowOf(), api.Life{}, 0}, {flowOf(done(task("a", 1))), lifeOf("S"), 0}, {flowOf(task("a", 1)), lifeOf("W W"), 0}, {flowOf(task("a", -1)), lifeOf("W"), 0},
	}
}

// told is all that the calls answer.
type told struct {
	lives  [6]api.Life
	ready  []int
	died   []int
	open   int
	isSame bool
	errors [9]api.Errno
}

func ask(x sample) told {
	var a told
	a.lives[0], a.errors[0] = Begin(x.f)
	a.lives[1], a.errors[1] = Start(x.f, x.x, x.v)
	a.lives[2], a.errors[2] = Succeed(x.f, x.x, x.v)
	a.lives[3], a.died, a.errors[3] = Fail(x.f, x.x, x.v)
	a.lives[4], a.errors[4] = Again(x.f, x.x, x.v)
	a.lives[5], a.errors[5] = Cancel(x.f, x.x)
	a.ready, a.errors[6] = Ready(x.f, x.x)
	a.open, a.errors[7] = Open(x.f, x.x)
	a.errors[8] = Check(x.f, x.x)
	a.isSame = Same(a.lives[0], x.x)
	return a
}

func isEqual(a, b told) bool {
	for i, x := range a.lives {
		if y := b.lives[i]; !slices.Equal(x.State, y.State) || !slices.Equal(x.Fails, y.Fails) {
			return false
		}
	}
	return slices.Equal(a.ready, b.ready) && slices.Equal(a.died, b.died) && a.open == b.open && a.isSame == b.isSame && a.errors == b.errors
}

func TestArgumentsAreNotChanged(t *testing.T) {
	for _, x := range samples() {
		want := ask(x)
		y := roomySample(x)
		kept := whole(y)
		if got := ask(y); !isEqual(got, want) {
			t.Errorf("%v: %v, with more behind it; asked for: %v", x, got, want)
		}
		if now := whole(y); !reflect.DeepEqual(now, kept) {
			t.Errorf("it was %v, and is %v", kept, now)
		}
	}
}

// What is done to an argument later is nothing to a result, nor to a later one.
func TestArgumentsAreNotKept(t *testing.T) {
	for _, x := range samples() {
		want := ask(x)
		y := roomySample(x)
		got := ask(y)
		spoilSample(y)
		if !isEqual(got, want) {
			t.Errorf("%v is spoilt, and the answers are %v; asked for: %v", x, got, want)
		}
		if later := ask(x); !isEqual(later, want) {
			t.Errorf("%v: later %v; asked for: %v", x, later, want)
		}
	}
}

// What is done to a result, and to what is behind it, is nothing to an argument, to another result, or to a later one.
func TestResultsAreApart(t *testing.T) {
	for _, x := range samples() {
		want := ask(x)
		for part := range 14 {
			y := roomySample(x)
			kept := whole(y)
			a, b := ask(y), ask(y)
			left := a
			switch {
			case part < 6:
				spoil(a.lives[part].State, -7)
				left.lives[part].State = want.lives[part].State
			case part < 12:
				spoil(a.lives[part-6].Fails, -7)
				left.lives[part-6].Fails = want.lives[part-6].Fails
			case part == 12:
				spoil(a.ready, -7)
				left.ready = want.ready
			default:
				spoil(a.died, -7)
				left.died = want.died
			}
			if !isEqual(left, want) || !isEqual(b, want) || !isEqual(ask(y), want) {
				t.Errorf("%v: part %d of an answer is spoilt, and another is as well; asked for: %v", x, part, want)
			}
			if now := whole(y); !reflect.DeepEqual(now, kept) {
				t.Errorf("%v: part %d of an answer is spoilt, and an argument is as well", x, part)
			}
		}
	}
}

// A life that nothing is changed in is a new one all the same.
func TestCancelledTwice(t *testing.T) {
	f := example()
	first := lifeOf("C C")
	second, _ := Cancel(f, first)
	third, _ := Cancel(f, second)
	spoilLife(second)
	if !Same(first, lifeOf("C C")) || !Same(third, lifeOf("C C")) {
		t.Errorf("%v and %v", first, third)
	}
}

// Calls in between do not matter.
func TestCallsInBetween(t *testing.T) {
	f := right(0).f
	x := right(0).x
	want := ask(sample{f, x, 1})
	for range 3 {
		for _, y := range samples() {
			ask(y)
			if got := ask(sample{f, x, 1}); !isEqual(got, want) {
				t.Fatalf("after calls for %v: %v; asked for: %v", y, got, want)
			}
		}
	}
}
