package steps

import (
	"fmt"
	"slices"
	"testing"

	"timekeeper/api"
)

const (
	most  = api.MaxTime
	nodes = api.MaxNodes
)

// list are the steps of each two of these numbers, an At and a Free.
func list(numbers ...int) []api.Step {
	var l []api.Step
	for pair := range slices.Chunk(numbers, 2) {
		l = append(l, api.Step{At: pair[0], Free: pair[1]})
	}
	return l
}

// example is the profile of the chapter.
func example() []api.Step {
	return list(0, 4, 10, 1, 20, 4)
}

// brief leaves out most of what is very long.
func brief(l []api.Step) string {
	return fmt.Sprintf("%d steps %v", len(l), l[:min(len(l), 30)])
}

func checkList(t *testing.T, name string, got []api.Step, e api.Errno, want []api.Step, wantE api.Errno) {
	t.Helper()
	if e != wantE || !slices.Equal(got, want) {
		t.Errorf("%s: %s, error %d; asked for: %s, error %d", name, brief(got), e, brief(want), wantE)
	}
}

// checkProfile asks for nothing beside the form.
func checkProfile(t *testing.T, name string, l []api.Step) {
	t.Helper()
	if e := Check(l); e != api.OK {
		t.Errorf("%s: Check of %s: %d", name, brief(l), e)
	}
	checkList(t, name+", tidied", Tidy(l...), api.OK, l, api.OK)
}

// checkAdd also takes away what was added: then there is what was.
func checkAdd(t *testing.T, name string, l []api.Step, from, to, k int, want []api.Step) {
	t.Helper()
	name = fmt.Sprintf("%s: %d more from %d to %d in %s", name, k, from, to, brief(l))
	got, e := Add(l, from, to, k)
	checkList(t, name, got, e, want, api.OK)
	checkProfile(t, name, got)
	back, e := Add(got, from, to, -k)
	checkList(t, name+", and taken again", back, e, l, api.OK)
}

func checkNoAdd(t *testing.T, name string, l []api.Step, from, to, k int, want api.Errno) {
	t.Helper()
	got, e := Add(l, from, to, k)
	checkList(t, fmt.Sprintf("%s: %d more from %d to %d in %s", name, k, from, to, brief(l)), got, e, nil, want)
}

// checkSpan asks for what is told of a time that is not empty.
func checkSpan(t *testing.T, name string, l []api.Step, from, to, least, greatest, area int) {
	t.Helper()
	name = fmt.Sprintf("%s: from %d to %d in %s", name, from, to, brief(l))
	if n, e := Least(l, from, to); n != least || e != api.OK {
		t.Errorf("%s: Least is %d, error %d; asked for: %d", name, n, e, least)
	}
	if n, e := Most(l, from, to); n != greatest || e != api.OK {
		t.Errorf("%s: Most is %d, error %d; asked for: %d", name, n, e, greatest)
	}
	if n, e := Area(l, from, to); n != area || e != api.OK {
		t.Errorf("%s: Area is %d, error %d; asked for: %d", name, n, e, area)
	}
}

// checkNoSpan asks for errors; Area has none where there is no time between.
func checkNoSpan(t *testing.T, name string, l []api.Step, from, to int, ofArea api.Errno) {
	t.Helper()
	name = fmt.Sprintf("%s: from %d to %d in %s", name, from, to, brief(l))
	if n, e := Least(l, from, to); n != 0 || e != api.ErrArg {
		t.Errorf("%s: Least is %d, error %d", name, n, e)
	}
	if n, e := Most(l, from, to); n != 0 || e != api.ErrArg {
		t.Errorf("%s: Most is %d, error %d", name, n, e)
	}
	if n, e := Area(l, from, to); n != 0 || e != ofArea {
		t.Errorf("%s: Area is %d, error %d; asked for: error %d", name, n, e, ofArea)
	}
}

// checkAt asks at each first one of two numbers for the second one.
func checkAt(t *testing.T, l []api.Step, numbers ...int) {
	t.Helper()
	for pair := range slices.Chunk(numbers, 2) {
		if n := At(l, pair[0]); n != pair[1] {
			t.Errorf("at %d in %s: %d; asked for: %d", pair[0], brief(l), n, pair[1])
		}
	}
}

// checkSum asks for the sum both ways round.
func checkSum(t *testing.T, name string, l, m, want []api.Step, wantE api.Errno) {
	t.Helper()
	name = fmt.Sprintf("%s: %s and %s", name, brief(l), brief(m))
	for _, two := range [][2][]api.Step{{l, m}, {m, l}} {
		got, e := Sum(two[0], two[1])
		checkList(t, name, got, e, want, wantE)
		if e == api.OK {
			checkProfile(t, name, got)
		}
	}
}

// checkTidy also tidies what is tidy already.
func checkTidy(t *testing.T, name string, l, want []api.Step) {
	t.Helper()
	got := Tidy(l...)
	checkList(t, name+": "+brief(l), got, api.OK, want, api.OK)
	checkList(t, name+", twice: "+brief(l), Tidy(got...), api.OK, want, api.OK)
}

func TestExample(t *testing.T) {
	l, e := New(4)
	checkList(t, "New", l, e, list(0, 4), api.OK)
	checkAdd(t, "the chapter's", l, 10, 20, -3, example())
	checkSpan(t, "up to 10", example(), 0, 10, 4, 4, 40)
	checkSpan(t, "up to 11", example(), 0, 11, 1, 4, 41)
	checkProfile(t, "the chapter's", example())
}

// The sixth one of the whole: with 3 of 4 nodes taken, two nodes for 8 are free from 20 on, and not ahead of it.
func TestExampleOfTheWhole(t *testing.T) {
	for from := range 30 {
		n, e := Least(example(), from, from+8)
		if free := from <= 2 || from >= 20; e != api.OK || (n >= 2) != free {
			t.Errorf("from %d on: %d, error %d", from, n, e)
		}
	}
}

func TestNew(t *testing.T) {
	for n := range nodes + 1 {
		l, e := New(n)
		if e != api.OK || !slices.Equal(l, list(0, n)) || Check(l) != api.OK {
			t.Errorf("New of %d: %v, error %d", n, l, e)
		}
	}
}

func TestAt(t *testing.T) {
	checkAt(t, list(0, 7), 0, 7, 1, 7, most-1, 7, most, 7)
	checkAt(t, example(), 0, 4, 9, 4, 10, 1, 11, 1, 19, 1, 20, 4, 21, 4, most, 4)
	checkAt(t, list(0, 0, 1, 5, 2, 0, 3, nodes), 0, 0, 1, 5, 2, 0, 3, nodes, 4, nodes, most, nodes)
	checkAt(t, list(0, 2, most-1, 0, most, 3), most-2, 2, most-1, 0, most, 3)
}

func TestLeastMostArea(t *testing.T) {
	one := list(0, 7)
	checkSpan(t, "one step", one, 0, 1, 7, 7, 7)
	checkSpan(t, "one step", one, 50, 60, 7, 7, 70)
	checkSpan(t, "one step", one, 0, most, 7, 7, 7*most)
	l := list(0, 4, 10, 1, 20, 6, 30, 0, 40, 3)
	checkSpan(t, "from a step to the next", l, 10, 20, 1, 1, 10)
	checkSpan(t, "from a step to one behind it", l, 10, 30, 1, 6, 70)
	checkSpan(t, "from a step to between", l, 10, 25, 1, 6, 40)
	checkSpan(t, "from between to a step", l, 5, 10, 4, 4, 20)
	checkSpan(t, "from between to a step behind", l, 5, 30, 1, 6, 90)
	checkSpan(t, "from between to between", l, 15, 25, 1, 6, 35)
	checkSpan(t, "between two", l, 12, 18, 1, 1, 6)
	checkSpan(t, "the last time of a step", l, 9, 10, 4, 4, 4)
	checkSpan(t, "the last time of a step and the next", l, 9, 11, 1, 4, 5)
	checkSpan(t, "ahead of all but the first", l, 0, 9, 4, 4, 36)
	checkSpan(t, "up to the last one", l, 0, 40, 0, 6, 40+10+60)
	checkSpan(t, "up to a time behind the last one", l, 0, 41, 0, 6, 40+10+60+3)
	checkSpan(t, "from the last one on", l, 40, 50, 3, 3, 30)
	checkSpan(t, "behind the last one", l, 100, 200, 3, 3, 300)
	checkSpan(t, "the greatest in the middle", l, 11, 31, 0, 6, 9+60)
	checkSpan(t, "all times", l, 0, most, 0, 6, 110+3*(most-40))
}

func TestAdd(t *testing.T) {
	one := list(0, 4)
	checkAdd(t, "between", one, 10, 20, 3, list(0, 4, 10, 7, 20, 4))
	checkAdd(t, "from 0 on", one, 0, 20, 3, list(0, 7, 20, 4))
	checkAdd(t, "for one time", one, 5, 6, -4, list(0, 4, 5, 0, 6, 4))
	l := list(0, 4, 10, 1, 20, 6, 30, 0, 40, 3)
	checkAdd(t, "from a step to the next", l, 10, 20, 1, list(0, 4, 10, 2, 20, 6, 30, 0, 40, 3))
	checkAdd(t, "as much as before", l, 10, 20, 3, list(0, 4, 20, 6, 30, 0, 40, 3))
	checkAdd(t, "as much as behind", l, 10, 20, 5, list(0, 4, 10, 6, 30, 0, 40, 3))
	checkAdd(t, "as much on both sides", example(), 10, 20, 3, one)
	checkAdd(t, "from a step to between", l, 10, 15, 1, list(0, 4, 10, 2, 15, 1, 20, 6, 30, 0, 40, 3))
	checkAdd(t, "from between to a step", l, 15, 20, 1, list(0, 4, 10, 1, 15, 2, 20, 6, 30, 0, 40, 3))
	checkAdd(t, "from between to between", l, 15, 25, 2, list(0, 4, 10, 1, 15, 3, 20, 8, 25, 6, 30, 0, 40, 3))
	checkAdd(t, "over several", l, 5, 35, 9, list(0, 4, 5, 13, 10, 10, 20, 15, 30, 9, 35, 0, 40, 3))
	checkAdd(t, "ahead of all but the first", l, 2, 3, -1, list(0, 4, 2, 3, 3, 4, 10, 1, 20, 6, 30, 0, 40, 3))
	checkAdd(t, "from the first on", l, 0, 10, -3, list(0, 1, 20, 6, 30, 0, 40, 3))
	checkAdd(t, "behind the last", l, 50, 60, -3, list(0, 4, 10, 1, 20, 6, 30, 0, 40, 3, 50, 0, 60, 3))
	checkAdd(t, "from the last one on", l, 40, 60, -3, list(0, 4, 10, 1, 20, 6, 30, 0, 60, 3))
	checkAdd(t, "up to the last one", l, 30, 40, 3, list(0, 4, 10, 1, 20, 6, 30, 3))
	checkAdd(t, "none more", l, 15, 25, 0, l)
	checkAdd(t, "for no time", l, 15, 15, 9, l)
}

func TestSum(t *testing.T) {
	checkSum(t, "one step", list(0, 3), list(0, 4), list(0, 7), api.OK)
	checkSum(t, "with nothing", example(), list(0, 0), example(), api.OK)
	checkSum(t, "with the same", example(), example(), list(0, 8, 10, 2, 20, 8), api.OK)
	checkSum(t, "with one step", example(), list(0, 5), list(0, 9, 10, 6, 20, 9), api.OK)
	checkSum(t, "one after another", list(0, 1, 10, 2, 30, 3), list(0, 5, 20, 0, 40, 5), list(0, 6, 10, 7, 20, 2, 30, 3, 40, 8), api.OK)
	checkSum(t, "some of the same At", list(0, 1, 10, 2, 20, 3), list(0, 5, 10, 6, 15, 5, 20, 7), list(0, 6, 10, 8, 15, 7, 20, 10), api.OK)
	checkSum(t, "what makes up for another", example(), list(0, 0, 10, 3, 20, 0), list(0, 4), api.OK)
	checkSum(t, "what makes up for a part", example(), list(0, 1, 10, 4, 30, 0), list(0, 5, 20, 8, 30, 4), api.OK)
	checkSum(t, "all ahead of the other", list(0, 1, 2, 2, 3, 4), list(0, 1, 10, 2, 20, 3), list(0, 2, 2, 3, 3, 5, 10, 6, 20, 7), api.OK)
}

func TestTidy(t *testing.T) {
	checkTidy(t, "none", nil, nil)
	checkTidy(t, "one", list(5, 9), list(5, 9))
	checkTidy(t, "a profile", example(), example())
	checkTidy(t, "turned round", list(20, 4, 10, 1, 0, 4), example())
	checkTidy(t, "the last one of the same At", list(10, 1, 10, 2, 10, 3), list(10, 3))
	checkTidy(t, "of several, apart", list(10, 1, 0, 5, 10, 3, 20, 9, 0, 4, 10, 2), list(0, 4, 10, 2, 20, 9))
	checkTidy(t, "the same Free", list(0, 4, 10, 4, 20, 4), list(0, 4))
	checkTidy(t, "the same Free, turned round", list(20, 4, 10, 4, 0, 4), list(0, 4))
	checkTidy(t, "the same Free, not one after another", list(0, 4, 10, 3, 20, 4, 30, 4, 40, 3), list(0, 4, 10, 3, 20, 4, 40, 3))
	checkTidy(t, "what comes between is none", list(0, 4, 10, 3, 20, 4, 10, 4), list(0, 4))
	checkTidy(t, "what is none is not the one before", list(0, 4, 10, 4, 10, 5, 20, 4), list(0, 4, 10, 5, 20, 4))
}

func TestSame(t *testing.T) {
	same := func(l, m []api.Step, want bool) {
		t.Helper()
		if Same(l, m) != want || Same(m, l) != want {
			t.Errorf("Same of %v and %v is not %v", l, m, want)
		}
	}
	same(example(), example(), true)
	same(nil, nil, true)
	same(nil, []api.Step{}, true)
	same(list(0, 0), nil, false)
	same(example(), example()[:2], false)
	same(example(), list(0, 4, 10, 1, 21, 4), false)
	same(example(), list(0, 4, 10, 2, 20, 4), false)
	same(example(), list(0, 5, 10, 1, 20, 4), false)
	same(list(0, 1, 2, 3), list(2, 3, 0, 1), false)
	same(list(0, 4), list(0, 4, 10, 4), false)
	// Steps that are no profile are the same as well.
	same(list(-5, -1, -5, nodes+1), list(-5, -1, -5, nodes+1), true)
	same(list(3, 5), list(5, 3), false)
}
