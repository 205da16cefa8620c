package steps

import (
	"slices"
	"testing"

	"timekeeper/api"
)

// fill overwrites l, and what is behind it.
func fill(l []api.Step, mark int) {
	l = l[:cap(l)]
	for i := range l {
		l[i] = api.Step{At: mark, Free: mark - i}
	}
}

// roomy is l in other memory, with marks behind it.
func roomy(l []api.Step) []api.Step {
	other := make([]api.Step, len(l)+5)
	fill(other, -9)
	return other[:copy(other, l)]
}

// whole is l with what stands behind it, in other memory.
func whole(l []api.Step) []api.Step {
	return slices.Clone(l[:cap(l)])
}

// told are the lists that the calls answer for l and m.
func told(l, m []api.Step) [][]api.Step {
	var all [][]api.Step
	add := func(from, to, k int) {
		sum, _ := Add(l, from, to, k)
		all = append(all, sum)
	}
	add(3, 9, 2)
	add(3, 9, 0)
	add(3, 3, 2)
	add(0, most, 2)
	add(0, 9, -1)
	add(most, most, 1)
	add(0, most, nodes)
	add(5, 3, 1)
	sum, _ := Sum(l, m)
	twice, _ := Sum(l, l)
	with, _ := Sum(list(0, 0), l)
	one, _ := New(3)
	return append(all, sum, twice, with, one, Tidy(l...), Tidy(append(slices.Clone(m), l...)...), Tidy())
}

// ask asks the calls that answer no list.
func ask(l, m []api.Step) {
	Check(l)
	At(l, 5)
	Least(l, 3, 9)
	Most(l, 3, 9)
	Area(l, 3, 9)
	Same(l, m)
}

// lists are profiles, and some that are none.
func lists() [][]api.Step {
	l := append(bases(), nil, list(0, 5), example(), list(0, 5, 3, 7), list(9, 3, 2, 4, 9, 5), list(0, 4, 10, 4), list(0, nodes), comb(100))
	roll := dice(90)
	for n := range 20 {
		l = append(l, drawn(roll, n, 12, 8))
	}
	return l
}

func equal(a, b [][]api.Step) bool {
	return slices.EqualFunc(a, b, slices.Equal)
}

func TestArgumentsAreNotChanged(t *testing.T) {
	for _, a := range lists() {
		for _, b := range lists() {
			l, m := roomy(a), roomy(b)
			wantL, wantM := whole(l), whole(m)
			told(l, m)
			ask(l, m)
			if !slices.Equal(whole(l), wantL) || !slices.Equal(whole(m), wantM) {
				t.Errorf("%s has become %s, or %s %s", brief(a), brief(l), brief(b), brief(m))
			}
		}
	}
}

// What is done to an argument later is nothing to a result.
func TestArgumentsAreNotKept(t *testing.T) {
	for _, a := range lists() {
		l, m := roomy(a), roomy(example())
		got := told(l, m)
		fill(l, -7)
		fill(m, -8)
		if want := told(a, example()); !equal(got, want) {
			t.Errorf("%s is spoilt, and the answers are %v; asked for: %v", brief(a), got, want)
		}
	}
}

// What is done to a result, and to what is behind it, is nothing to an argument, to another result, or to a later one.
func TestResultsAreApart(t *testing.T) {
	for _, a := range lists() {
		l, m := roomy(a), roomy(example())
		wantL, wantM := whole(l), whole(m)
		want := told(a, example())
		for i := range want {
			got := told(l, m)
			fill(got[i], -7)
			got[i] = want[i]
			if !equal(got, want) {
				t.Errorf("of %s: answer %d is spoilt, and another is as well", brief(a), i)
			}
		}
		if !slices.Equal(whole(l), wantL) || !slices.Equal(whole(m), wantM) || !equal(told(a, example()), want) {
			t.Errorf("the answers are spoilt, and %s has become %s, or a later answer is other", brief(a), brief(l))
		}
	}
}

// Two arguments may have one memory.
func TestArgumentsThatShareMemory(t *testing.T) {
	shared := list(0, 4, 10, 1, 20, 6, 30, 2)
	checkSum(t, "two and four", shared[:2], shared, list(0, 8, 10, 2, 20, 7, 30, 3), api.OK)
	checkAdd(t, "two of four", shared[:2], 15, 25, 2, list(0, 4, 10, 1, 15, 3, 25, 1))
	checkSpan(t, "two of four", shared[:2], 5, 40, 1, 4, 20+30)
	checkTidy(t, "two of four", shared[:2], list(0, 4, 10, 1))
	if !slices.Equal(shared, list(0, 4, 10, 1, 20, 6, 30, 2)) {
		t.Errorf("they have become %v", shared)
	}
}
