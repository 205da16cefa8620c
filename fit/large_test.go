package fit

import (
	"slices"
	"testing"

	"timekeeper/api"
)

const mostSteps = api.MaxSteps

func TestMostSteps(t *testing.T) {
	l := comb(mostSteps)
	last := l[mostSteps-1].At
	checkTimes(t, in(l, 0, most, 1, 1), 0, most-1)
	checkTimes(t, in(l, 0, most, 1, last), 0, most-last)
	checkTimes(t, in(l, 0, most, 2, 3), last, most-3)
	checkTimes(t, in(l, 0, last, 2, 3))
	checkTimes(t, in(l, 0, last+3, 2, 3), last, last)
	checkTimes(t, in(l, 0, last+2, 2, 3))
	checkTimes(t, in(l, 0, most, 3, 1))
	checkTimes(t, in(l, 0, most, 3, 0), 0, most)
	checkWidest(t, in(l, 0, most, 1, 1), 2, 2)
	checkWidest(t, in(l, 0, most, 1, 2), 2, 2)
	checkWidest(t, in(l, 0, most, 1, 3), 2, last)
	checkWidest(t, in(l, 3, last+2, 1, 3), 1, 3)
	// Each second step has as many, and all but the last one are just long enough for 2.
	for long := 1; long <= 2; long++ {
		var want []api.Window
		for at := 2; at < last; at += 4 {
			want = append(want, api.Window{From: at, By: at + 2 - long})
		}
		want = append(want, api.Window{From: last, By: most - long})
		if len(want) != mostSteps/2 {
			t.Errorf("%d windows", len(want))
		}
		checkWindows(t, in(l, 0, most, 2, long), want)
		// Without the first one, and only a part of the last one.
		want[len(want)-1].By = last + 9
		checkWindows(t, in(l, 4, last+9+long, 2, long), want[1:])
	}
}

func TestOneStepOfMany(t *testing.T) {
	l := comb(mostSteps)
	for _, i := range []int{0, 1, mostSteps / 2, mostSteps - 2} {
		m := with(l, i, l[i].At, 7)
		checkTimes(t, in(m, 0, most, 7, 2), l[i].At, l[i].At)
		checkTimes(t, in(m, 0, most, 7, 3))
		checkTimes(t, in(m, 0, most, 8, 1))
		checkWidest(t, in(m, 0, most, 1, 2), 7, l[i].At)
		checkWidest(t, in(m, 0, most, 1, 1), 7, l[i].At)
	}
	m := with(l, -1, most, 7)
	checkTimes(t, in(m, 0, most, 7, 1))
	checkTimes(t, in(m, 0, most, 1, most), 0, 0)
	m = with(l, mostSteps/2, l[mostSteps/2].At, 0)
	checkTimes(t, in(m, 0, most, 1, mostSteps), 0, 0, mostSteps+2, most-mostSteps)
	checkWidest(t, in(m, 0, 2*mostSteps+3, 1, mostSteps+1), 1, mostSteps+2)
	checkWidest(t, in(m, 0, 2*mostSteps+2, 1, mostSteps+1), 0, 0)
}

// As many numbers of free nodes as there are: the widest is any of them.
func TestWidestOfAllNumbers(t *testing.T) {
	var l []api.Step
	for n := allNodes; n >= 0; n-- {
		l = append(l, api.Step{At: 3 * (allNodes - n), Free: n})
	}
	for _, n := range []int{allNodes, allNodes - 1, allNodes / 2, 4095, 4096, 2, 1} {
		checkWidest(t, in(l, 0, most, 1, 3*(allNodes-n+1)), n, 0)
		checkWidest(t, in(l, 3*(allNodes-n), most, 1, 3), n, 3*(allNodes-n))
		checkWidest(t, in(l, 3*(allNodes-n)+1, most, 1, 3), n-1, 3*(allNodes-n)+1)
	}
	checkWidest(t, in(l, 0, most, 1, 3*allNodes+1), 0, 0)
	checkWidest(t, in(l, 3*allNodes, most, 1, 3), 0, 3*allNodes)
}

// What is much larger than allowed only costs the time to look at it.
func TestMuchLargerThanAllowed(t *testing.T) {
	for _, l := range [][]api.Step{comb(1 << 20), slices.Repeat(list(0, 1), 1<<20)} {
		r := in(l, 0, most, 1, 1)
		checkRefused(t, r)
		checkNotWide(t, r, api.ErrArg)
	}
}
