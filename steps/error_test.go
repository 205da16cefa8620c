package steps

import (
	"fmt"
	"math"
	"slices"
	"testing"

	"timekeeper/api"
)

// comb are n steps, one at each second time, with 1 and 2 free nodes in turn.
func comb(n int) []api.Step {
	l := make([]api.Step, n)
	for i := range l {
		l[i] = api.Step{At: 2 * i, Free: 1 + i%2}
	}
	return l
}

// flaw is what makes a list of three steps or more one that is no profile.
type flaw struct {
	name  string
	spoil func(l []api.Step) []api.Step
}

// setAt is a flaw of the At of a step; a negative index counts from the end.
func setAt(i, at int) flaw {
	return flaw{fmt.Sprintf("At %d of step %d", at, i), func(l []api.Step) []api.Step {
		l[(i+len(l))%len(l)].At = at
		return l
	}}
}

func setFree(i, free int) flaw {
	return flaw{fmt.Sprintf("Free %d of step %d", free, i), func(l []api.Step) []api.Step {
		l[(i+len(l))%len(l)].Free = free
		return l
	}}
}

// like gives step i the At, or the Free, of the one before it.
func like(i int, at bool) flaw {
	return flaw{fmt.Sprintf("step %d is like the one before, its At: %v", i, at), func(l []api.Step) []api.Step {
		i := (i + len(l)) % len(l)
		if at {
			l[i].At = l[i-1].At
		} else {
			l[i].Free = l[i-1].Free
		}
		return l
	}}
}

// back lets the times of the steps i-1 and i change places.
func back(i int) flaw {
	return flaw{fmt.Sprintf("step %d is ahead of the one before", i), func(l []api.Step) []api.Step {
		i := (i + len(l)) % len(l)
		l[i-1].At, l[i].At = l[i].At, l[i-1].At
		return l
	}}
}

// flaws are the ways in which a list is no profile, each by itself.
func flaws() []flaw {
	l := []flaw{
		{"no step", func([]api.Step) []api.Step { return nil }},
		{"too many", func(l []api.Step) []api.Step { return append(l, comb(api.MaxSteps + 2)[len(l)+1:]...) }},
		{"without the first", func(l []api.Step) []api.Step { return l[1:] }},
		setAt(0, 1), setAt(0, -1), setAt(0, math.MinInt), setAt(-1, most+1), setAt(-1, math.MaxInt),
		back(1), back(2), back(-1), like(1, true), like(2, true), like(-1, true), like(1, false), like(2, false), like(-1, false),
	}
	for _, i := range []int{0, 1, -1} {
		for _, free := range []int{-1, nodes + 1, math.MinInt, math.MaxInt} {
			l = append(l, setFree(i, free))
		}
	}
	return l
}

// bases are profiles that each flaw can be made of.
func bases() [][]api.Step {
	return [][]api.Step{comb(3), comb(4), comb(9), list(0, 0, 2, nodes, 5, 4, 8, 0), list(0, 1, 1, 2, most, 1)}
}

// checkRefused asks every call for something that it would tell of a profile, and for something that it would not.
func checkRefused(t *testing.T, name string, l []api.Step) {
	t.Helper()
	if e := Check(l); e != api.ErrArg {
		t.Errorf("%s: Check of %s: %d", name, brief(l), e)
	}
	for _, at := range []int{-1, 0, 1, 2, 5, most, most + 1} {
		checkAt(t, l, at, 0)
	}
	for _, span := range [][2]int{{0, 1}, {0, most}, {3, 4}, {5, 9}, {2, 2}, {0, 0}, {most, most}, {9, 5}, {-1, 4}, {4, most + 1}} {
		checkNoSpan(t, name, l, span[0], span[1], api.ErrArg)
		for _, k := range []int{0, 1, -1, nodes, -nodes, nodes + 1} {
			checkNoAdd(t, name, l, span[0], span[1], k, api.ErrArg)
		}
	}
	for _, m := range [][]api.Step{list(0, 0), list(0, nodes), comb(5), l, nil, list(1, 1)} {
		checkSum(t, name, l, m, nil, api.ErrArg)
	}
}

func TestEachFlaw(t *testing.T) {
	for _, l := range bases() {
		checkProfile(t, "without a flaw", l)
		for _, x := range flaws() {
			checkRefused(t, x.name, x.spoil(slices.Clone(l)))
		}
	}
}

func TestTwoFlaws(t *testing.T) {
	all := flaws()
	for i, x := range all[3:] {
		for _, y := range all[i+3:] {
			l := y.spoil(x.spoil(comb(6)))
			// Of two that undo one another nothing may be left.
			if slices.Equal(l, comb(6)) {
				continue
			}
			if e := Check(l); e != api.ErrArg {
				t.Errorf("%s, %s: Check of %s: %d", x.name, y.name, brief(l), e)
			}
		}
	}
}

func TestNoStep(t *testing.T) {
	checkRefused(t, "nil", nil)
	checkRefused(t, "empty", []api.Step{})
	checkSum(t, "two that are none", nil, nil, nil, api.ErrArg)
}

func TestOneStepThatIsNone(t *testing.T) {
	for _, l := range [][]api.Step{list(1, 5), list(-1, 5), list(most, 5), list(most+1, 5), list(0, -1), list(0, nodes+1), list(math.MinInt, math.MinInt), list(math.MaxInt, math.MaxInt)} {
		checkRefused(t, "one step", l)
	}
}

// A wrong argument is told rather than nodes that are not free, and these rather than too many steps.
func TestErrorsInOrder(t *testing.T) {
	full := comb(api.MaxSteps)
	at := full[50].At
	checkNoAdd(t, "room, and too long", full, at+1, at+3, -2, api.ErrRoom)
	checkNoAdd(t, "room above, and too long", full, at+1, at+3, nodes-1, api.ErrRoom)
	checkNoAdd(t, "only too long", full, at+1, at+3, -1, api.ErrLong)
	checkNoAdd(t, "k, room, and too long", full, at+1, at+3, -nodes-1, api.ErrArg)
	checkNoAdd(t, "to, room, and too long", full, at+1, most+1, -2, api.ErrArg)
	checkNoAdd(t, "from, room, and too long", full, -1, at+1, -2, api.ErrArg)
	checkNoAdd(t, "from behind to, room, and too long", full, at+3, at+1, -2, api.ErrArg)
	checkNoAdd(t, "no profile, room, and too long", append(full, api.Step{At: most, Free: 5}), at+1, at+3, -2, api.ErrArg)
	checkNoAdd(t, "no profile, and room", list(0, 1, 5, 1), 0, 1, -2, api.ErrArg)
	checkNoAdd(t, "k, and room", list(0, nodes), 0, 1, nodes+1, api.ErrArg)

	odd := comb(api.MaxSteps)
	for i := range odd[1:] {
		odd[i+1].At--
	}
	checkSum(t, "too long", full, odd, nil, api.ErrLong)
	odd[len(odd)-1].Free = nodes - 2
	checkSum(t, "just all, and too long", full, odd, nil, api.ErrLong)
	odd[len(odd)-1].Free = nodes - 1
	checkSum(t, "more than all at last, and too long", full, odd, nil, api.ErrArg)
	checkSum(t, "no profile, and too long", full, append(odd, api.Step{At: most, Free: 5}), nil, api.ErrArg)
	checkSum(t, "no profile, and more than all", list(0, nodes, 4, nodes), list(0, 1), nil, api.ErrArg)
}
