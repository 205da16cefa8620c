package fit

import (
	"slices"
	"testing"

	"timekeeper/api"
)

// spoil overwrites l, and what is behind it.
func spoil[T any](l []T, mark T) {
	l = l[:cap(l)]
	for i := range l {
		l[i] = mark
	}
}

// roomy is l in other memory, with steps behind it that would be the next ones.
func roomy(l []api.Step) []api.Step {
	other := append(slices.Clone(l), list(most-2, 7, most-1, 0, most, 9)...)
	return other[:len(l)]
}

// whole is l with what stands behind it, in other memory.
func whole(l []api.Step) []api.Step {
	return slices.Clone(l[:cap(l)])
}

// requests are some with many windows, with one, with none, and with an error.
func requests() []request {
	var all []request
	for _, l := range append(profiles(), list(0, 1, 3, 0, 4, 1, 7, 0, 8, 2, 11, 0), nil, list(0, 3, 4, 3)) {
		for _, w := range windows(0, 60, 3, most, 12, 18, 9, 3, -1, 5) {
			all = append(all, request{l, w, 1, 1}, request{l, w, 2, 3}, request{l, w, 3, 0}, request{l, w, allNodes, 1}, request{l, w, 0, 1})
		}
	}
	return all
}

// told is all that the calls answer.
type told struct {
	all                         []api.Window
	first, last, widest, wideAt int
	fits                        bool
	errors                      [5]api.Errno
}

func ask(r request) told {
	var a told
	a.all, a.errors[0] = r.all()
	a.first, a.errors[1] = r.first()
	a.last, a.errors[2] = r.last()
	a.fits, a.errors[3] = r.fits(21)
	a.widest, a.wideAt, a.errors[4] = r.widest()
	return a
}

func isSame(a, b told) bool {
	return slices.Equal(a.all, b.all) && a.first == b.first && a.last == b.last && a.fits == b.fits && a.widest == b.widest && a.wideAt == b.wideAt && a.errors == b.errors
}

func TestArgumentsAreNotChanged(t *testing.T) {
	for _, r := range requests() {
		want := ask(r)
		r.l = roomy(r.l)
		kept := whole(r.l)
		if got := ask(r); !isSame(got, want) {
			t.Errorf("%s: %v, with steps behind these; asked for: %v", r, got, want)
		}
		if !slices.Equal(whole(r.l), kept) {
			t.Errorf("%s: it was %v", r, kept)
		}
	}
}

// What is done to an argument later is nothing to a result, nor to a later one.
func TestArgumentsAreNotKept(t *testing.T) {
	for _, r := range requests() {
		want := ask(r)
		other := r
		other.l = roomy(r.l)
		got := ask(other)
		spoil(other.l, api.Step{At: -7, Free: -8})
		if !isSame(got, want) {
			t.Errorf("%s is spoilt, and the answers are %v; asked for: %v", r, got, want)
		}
		if later := ask(r); !isSame(later, want) {
			t.Errorf("%s: later %v; asked for: %v", r, later, want)
		}
	}
}

// What is done to a result, and to what is behind it, is nothing to an argument, to another result, or to a later one.
func TestResultsAreApart(t *testing.T) {
	for _, r := range requests() {
		want := ask(r)
		r.l = roomy(r.l)
		kept := whole(r.l)
		a, b := ask(r), ask(r)
		spoil(a.all, api.Window{From: -7, By: -8})
		if !isSame(b, want) || !isSame(ask(r), want) {
			t.Errorf("%s: one answer is spoilt, and another is as well; asked for: %v", r, want)
		}
		if !slices.Equal(whole(r.l), kept) {
			t.Errorf("%s: the answer is spoilt, and it was %v", r, kept)
		}
	}
}
