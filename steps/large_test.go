package steps

import (
	"slices"
	"testing"

	"timekeeper/api"
)

const mostSteps = api.MaxSteps

func TestMostSteps(t *testing.T) {
	l := comb(mostSteps)
	checkProfile(t, "as many as there may be", l)
	checkRefused(t, "one more", comb(mostSteps+1))
	checkAt(t, l, 0, 1, 1, 1, 2, 2, mostSteps, 1, mostSteps+1, 1, mostSteps+2, 2, 2*mostSteps-2, 2, most, 2)
	for at := 0; at < 2*mostSteps; at += 7 {
		checkAt(t, l, at, 1+at/2%2)
	}
	last := l[mostSteps-1].At
	checkSpan(t, "all of them", l, 0, last, 1, 2, 3*(mostSteps-1)-1)
	checkSpan(t, "behind them", l, last, most, 2, 2, 2*(most-last))
	checkSpan(t, "all times", l, 0, most, 1, 2, 3*(mostSteps-1)-1+2*(most-last))
	l[mostSteps/2].Free = 0
	checkSpan(t, "with one that has none", l, 3, last-3, 0, 2, 3*(mostSteps-1)-1-2-4-4)
	l[mostSteps/2].Free = nodes
	checkSpan(t, "with one that has all", l, 3, last-3, 1, nodes, 3*(mostSteps-1)-1-2+2*nodes-4-4)
}

// Of more steps come just as many as there may be, and one more.
func TestAddMostSteps(t *testing.T) {
	for _, from := range []int{1, 5, mostSteps + 1, 2*mostSteps - 7, 2*mostSteps - 1} {
		l := comb(mostSteps)
		checkNoAdd(t, "two more than all", l, from, from+2, 3, api.ErrLong)
		checkNoAdd(t, "two more than all but one", l[:mostSteps-1], from, from+2, 3, api.ErrLong)
		m := l[:mostSteps-2]
		want := slices.Concat(m, list(from, At(m, from)+3, from+2, At(m, from+2)))
		for i, s := range m {
			if s.At == from+1 {
				want[i].Free += 3
			}
		}
		checkAdd(t, "two more than all but two", m, from, from+2, 3, Tidy(want...))
	}
	l := comb(mostSteps)
	checkNoAdd(t, "one more than all", l, 2, 5, 3, api.ErrLong)
	checkNoAdd(t, "one more than all, at the begin", l, 3, 6, 3, api.ErrLong)
	checkNoAdd(t, "one more than all, from 0 on", l, 0, 3, 3, api.ErrLong)
	checkNoAdd(t, "one more than all, at the end", l, 2*mostSteps-2, most, 3, api.ErrLong)
	m := l[:mostSteps-1]
	checkAdd(t, "just all, from 0 on", m, 0, 1, 3, slices.Concat(list(0, 4, 1, 1), m[1:]))
	checkAdd(t, "just all, at the end", m, 2*mostSteps-4, most, 3, slices.Concat(m[:mostSteps-2], list(2*mostSteps-4, 4, most, 1)))
	checkAdd(t, "none more", l, 2, 4, 3, slices.Concat(list(0, 1, 2, 5), l[2:]))
	checkAdd(t, "fewer", l, 2, 4, -1, slices.Concat(list(0, 1), l[3:]))
	checkAdd(t, "nothing to all", l, 3, 9, 0, l)
	checkAdd(t, "all of them higher", l, 0, 2*mostSteps-2, nodes-2, slices.Concat(higher(l[:mostSteps-1], nodes-2), l[mostSteps-1:]))
	checkNoAdd(t, "all of them too high", l, 0, 2*mostSteps-2, nodes-1, api.ErrRoom)
}

// higher is l with k more free nodes in each step.
func higher(l []api.Step, k int) []api.Step {
	l = slices.Clone(l)
	for i := range l {
		l[i].Free += k
	}
	return l
}

// moved is l with all times but the first moved, and k more free nodes in each step.
func moved(l []api.Step, by, k int) []api.Step {
	l = higher(l, k)
	for i := range l[1:] {
		l[i+1].At += by
	}
	return l
}

func TestSumMostSteps(t *testing.T) {
	l := comb(mostSteps)
	checkSum(t, "with one step", l, list(0, 5), higher(l, 5), api.OK)
	checkSum(t, "with itself", l, l, doubled(l), api.OK)
	checkSum(t, "with one more step", l, list(0, 5, 3, 6), nil, api.ErrLong)
	checkSum(t, "with one more step at the end of times", l, list(0, 5, most, 6), nil, api.ErrLong)
	checkSum(t, "all but one with one more step", l[:mostSteps-1], list(0, 5, most, 6), slices.Concat(higher(l[:mostSteps-1], 5), list(most, 7)), api.OK)

	// The first step of both is one.
	half, other := comb(mostSteps/2), moved(comb(mostSteps/2+1), -1, 4)
	want := list(0, 6)
	for i := range mostSteps/2 - 1 {
		at := 2*i + 1
		want = append(want, list(at, half[i].Free+other[i+1].Free, at+1, half[i+1].Free+other[i+1].Free)...)
	}
	want = append(want, list(mostSteps-1, 2+5)...)
	checkSum(t, "just all", half, other, want, api.OK)
	if len(want) != mostSteps {
		t.Errorf("%d steps", len(want))
	}
	checkSum(t, "one more", comb(mostSteps/2+1), other, nil, api.ErrLong)
	checkSum(t, "twice all", l, moved(l, -1, 0), nil, api.ErrLong)

	against := slices.Clone(l)
	for i := range against {
		against[i].Free = 3 - against[i].Free
	}
	checkSum(t, "one makes up for the other", l, against, list(0, 3), api.OK)
}

// doubled is l with twice the free nodes.
func doubled(l []api.Step) []api.Step {
	l = slices.Clone(l)
	for i := range l {
		l[i].Free *= 2
	}
	return l
}

// Tidy has no limit.
func TestTidyVeryMany(t *testing.T) {
	many := comb(1 << 18)
	checkTidy(t, "very many", many, many)
	turned := slices.Clone(many)
	slices.Reverse(turned)
	checkTidy(t, "turned round", turned, many)
	checkTidy(t, "each one twice", slices.Concat(turned, many), many)
	checkTidy(t, "the last ones", slices.Concat(doubled(many), turned), many)
	checkTidy(t, "all the same", slices.Repeat(list(7, 9), 1<<18), list(7, 9))
}

// What is much larger than allowed only costs the time to look at it.
func TestMuchLargerThanAllowed(t *testing.T) {
	checkRefused(t, "very many", comb(1<<20))
	checkRefused(t, "very many that are one", slices.Repeat(list(0, 1), 1<<20))
}
