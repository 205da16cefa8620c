package dag

import (
	"slices"
	"testing"
)

// answers are all lists that g answers, under the same names each time.
func answers(g *Graph) map[string][]int {
	all := map[string][]int{"order": g.Order(), "above all": g.Above(upTo(g.Len())...), "below all": g.Below(upTo(g.Len())...)}
	for i, l := range g.Levels() {
		all["level "+short(i)] = l
	}
	for v, l := range g.Bare() {
		all["bare "+short(v)] = l
	}
	for v := range g.Len() {
		all["before "+short(v)] = g.Before(v)
		all["behind "+short(v)] = g.Behind(v)
		all["above "+short(v)] = g.Above(v)
		all["below "+short(v)] = g.Below(v)
		for w := range g.Len() {
			all["path "+short([]int{v, w})] = g.Path(v, w)
		}
	}
	return all
}

// copies are the same lists in other memory.
func copies(all map[string][]int) map[string][]int {
	same := map[string][]int{}
	for name, l := range all {
		same[name] = slices.Clone(l)
	}
	return same
}

func checkAnswers(t *testing.T, name string, got map[string][]int, want map[string][]int) {
	t.Helper()
	if len(got) != len(want) {
		t.Errorf("%s: %d answers; asked for: %d", name, len(got), len(want))
	}
	for call, l := range want {
		if !slices.Equal(got[call], l) {
			t.Errorf("%s: %s = %v; asked for: %v", name, call, got[call], l)
		}
	}
}

// spoil overwrites l and the spare capacity behind it.
func spoil(l []int) {
	l = l[:cap(l)]
	for i := range l {
		l[i] = -7
	}
}

// spoilLists overwrites all lists, and the list of them.
func spoilLists(lists [][]int) {
	for _, l := range lists {
		spoil(l)
	}
	lists = lists[:cap(lists)]
	for i := range lists {
		lists[i] = []int{-7}
	}
}

// One answer after the other is overwritten: those that are left stay, and so does the graph.
func TestResultsShareNoMemory(t *testing.T) {
	for _, after := range someGraphs() {
		g := built(t, after)
		first, second := answers(g), answers(g)
		want := copies(first)
		for name := range want {
			spoil(first[name])
			delete(first, name)
			for other, l := range first {
				if !slices.Equal(l, want[other]) {
					t.Errorf("%s: %s is spoilt, and %s = %v; asked for: %v", short(after), name, other, l, want[other])
				}
			}
		}
		checkAnswers(t, "asked again", answers(g), want)
		checkAnswers(t, "asked before", second, want)
	}
}

// The lists of one answer are overwritten one by one, with their spare capacity: the others stay.
func TestListsOfOneAnswerShareNoMemory(t *testing.T) {
	for _, after := range someGraphs() {
		g := built(t, after)
		for name, ask := range map[string]func() [][]int{"Levels": g.Levels, "Bare": g.Bare} {
			want := ask()
			for i := range want {
				got := ask()
				spoil(got[i])
				got[i] = want[i]
				checkLists(t, after, name, got, want)
			}
			spoilLists(ask())
			checkLists(t, after, name, ask(), want)
		}
	}
}

// lists returns after in lists that have spare capacity.
func lists(after [][]int) [][]int {
	roomy := make([][]int, len(after), len(after)+3)
	for v, l := range after {
		roomy[v] = append(make([]int, 0, len(l)+5), l...)
	}
	return roomy
}

func TestNewKeepsNoArgument(t *testing.T) {
	for _, after := range someGraphs() {
		want := answers(built(t, after))
		given := lists(after)
		g := built(t, given)
		spoilLists(given)
		checkAnswers(t, "the argument is spoilt", answers(g), want)
		given = lists(after)
		g = built(t, given)
		for _, l := range answers(g) {
			spoil(l)
		}
		checkLists(t, after, "the argument", given, after)
	}
}

func TestNewChangesNoArgument(t *testing.T) {
	for _, after := range append(someGraphs(), [][]int{{1, 0, 1}, {0}}, [][]int{{1, 0, 2, 1}, {0}}, [][]int{{2, 1, 2, -1}, {0}, nil}) {
		given := lists(after)
		for v := range given {
			l := given[v]
			for i := range l[len(l):cap(l)] {
				l[len(l):cap(l)][i] = 9
			}
		}
		New(given)
		checkLists(t, after, "the argument", given, after)
		for _, l := range given {
			for _, c := range l[len(l):cap(l)] {
				if c != 9 {
					t.Errorf("%s: behind a list there is %d", short(after), c)
				}
			}
		}
	}
}

func TestQueriesNeitherChangeNorKeepArguments(t *testing.T) {
	g := built(t, example())
	for _, l := range [][]int{nil, {3}, {4, 3, 3, -1, 0, 5}, {0, 1, 2}} {
		for name, ask := range map[string]func(...int) []int{"Above": g.Above, "Below": g.Below} {
			given := append(make([]int, 0, len(l)+4), l...)
			want := ask(l...)
			got := ask(given...)
			check(t, example(), "the argument", given, l)
			spoil(given)
			check(t, example(), name, got, want)
			given = append(given[:0], l...)
			spoil(ask(given...))
			check(t, example(), "the argument", given, l)
			check(t, example(), name, ask(given...), want)
		}
	}
}

// Lists that are given more than once are still lists of their own for the graph.
func TestNewOfSharedLists(t *testing.T) {
	shared := []int{1, 0, 1}
	after := [][]int{nil, nil, shared, shared, shared[:1]}
	want := answers(built(t, [][]int{nil, nil, {0, 1}, {0, 1}, {1}}))
	g := built(t, after)
	checkAnswers(t, "shared lists", answers(g), want)
	spoil(g.Before(2))
	checkAnswers(t, "shared lists", answers(g), want)
}

// What one graph is asked, and what is done to its answers, is nothing to another one.
func TestGraphsAreIndependent(t *testing.T) {
	var graphs []*Graph
	var want []map[string][]int
	for _, after := range someGraphs() {
		graphs = append(graphs, built(t, after))
		want = append(want, answers(graphs[len(graphs)-1]))
	}
	for i, g := range graphs {
		for _, l := range answers(g) {
			spoil(l)
		}
		for k, other := range graphs {
			checkAnswers(t, "graph "+short(k)+" behind "+short(i), answers(other), want[k])
		}
	}
}
