package dag

import (
	"fmt"
	"math"
	"slices"
	"testing"

	"timekeeper/api"
)

// example is that of the chapter.
func example() [][]int {
	return [][]int{{}, {}, {1}, {0, 2}, {1}}
}

// someGraphs are of several shapes, with duplicates, lists in any order, and several parts among them.
func someGraphs() [][][]int {
	return [][][]int{
		nil,
		{},
		{nil},
		{{}},
		{nil, nil, nil},
		{nil, {0}},
		{{1}, nil},
		example(),
		{{1, 1, 1}, nil},
		{{2, 1, 2, 1, 1, 2}, {2, 2}, {}},
		{nil, {0}, {0, 1}, {0, 1, 2}, {0, 1, 2, 3}},
		{{4, 3, 2, 1}, {4, 3, 2}, {4, 3}, {4}, nil},
		{{1}, {2}, {3}, {4}, nil},
		{nil, {0}, nil, {2}, nil, {4}, nil},
		{{6}, {5}, {4}, nil, nil, nil, nil},
		{nil, {0}, {0}, {0}, {1, 2, 3}},
		{nil, {0}, {0}, {1}, {2}, {3, 4}},
		{nil, {0}, {0}, {2}, {1}, {3, 4}},
		{{3}, nil, {1, 0}, {1}, {2, 3, 2}, {4, 1}, nil},
	}
}

// built is the graph of after, which has to be one.
func built(t *testing.T, after [][]int) *Graph {
	t.Helper()
	g, e := New(after)
	if g == nil || e != api.OK {
		t.Fatalf("New(%s): %v, %d", short(after), g != nil, e)
	}
	return g
}

// each returns the lists that f has for the vertices below n.
func each(n int, f func(int) []int) [][]int {
	after := make([][]int, n)
	for v := range after {
		after[v] = f(v)
	}
	return after
}

// upTo returns 0 to n - 1.
func upTo(n int) []int {
	l := make([]int, n)
	for i := range l {
		l[i] = i
	}
	return l
}

// short is the text of x, but not all of it if x is large.
func short(x any) string {
	return fmt.Sprintf("%.300s", fmt.Sprint(x))
}

func check(t *testing.T, after [][]int, call string, got []int, want []int) {
	t.Helper()
	if !slices.Equal(got, want) {
		t.Errorf("%s: %s = %s; asked for: %s", short(after), call, short(got), short(want))
	}
}

func checkLists(t *testing.T, after [][]int, call string, got [][]int, want [][]int) {
	t.Helper()
	if !slices.EqualFunc(got, want, slices.Equal) {
		t.Errorf("%s: %s = %s; asked for: %s", short(after), call, short(got), short(want))
	}
}

func checkError(t *testing.T, name string, after [][]int, want api.Errno) {
	t.Helper()
	if g, e := New(after); g != nil || e != want {
		t.Errorf("%s: New(%s) = %v, %d; asked for: %d", name, short(after), g != nil, e, want)
	}
}

func TestExample(t *testing.T) {
	after := example()
	g := built(t, after)
	if n := g.Len(); n != 5 {
		t.Errorf("Len = %d", n)
	}
	check(t, after, "Order", g.Order(), []int{0, 1, 2, 3, 4})
	checkLists(t, after, "Levels", g.Levels(), [][]int{{0, 1}, {2, 4}, {3}})
	check(t, after, "Below(1)", g.Below(1), []int{2, 3, 4})
	check(t, after, "Before(3)", g.Before(3), []int{0, 2})
	check(t, after, "Before(0)", g.Before(0), nil)
	check(t, after, "Behind(1)", g.Behind(1), []int{2, 4})
	check(t, after, "Behind(3)", g.Behind(3), nil)
	check(t, after, "Above(3)", g.Above(3), []int{0, 1, 2})
	check(t, after, "Above(4, 3)", g.Above(4, 3), []int{0, 1, 2})
	checkLists(t, after, "Bare", g.Bare(), example())
	check(t, after, "Path(1, 3)", g.Path(1, 3), []int{1, 2, 3})
	check(t, after, "Path(3, 1)", g.Path(3, 1), nil)
	check(t, after, "Path(0, 4)", g.Path(0, 4), nil)
}

func TestNoVertex(t *testing.T) {
	for _, after := range [][][]int{nil, {}} {
		g := built(t, after)
		checkEmpty(t, "no vertex", g)
	}
}

// checkEmpty asks all calls of a graph that has no vertices, or is not there.
func checkEmpty(t *testing.T, name string, g *Graph) {
	t.Helper()
	if g.Len() != 0 || len(g.Order()) != 0 || len(g.Levels()) != 0 || len(g.Bare()) != 0 || len(g.Above()) != 0 || len(g.Below()) != 0 {
		t.Errorf("%s: %d, %v, %v, %v, %v, %v", name, g.Len(), g.Order(), g.Levels(), g.Bare(), g.Above(), g.Below())
	}
	for _, v := range []int{math.MinInt, -1, 0, 1, api.MaxTasks, math.MaxInt} {
		if l := slices.Concat(g.Before(v), g.Behind(v), g.Above(v), g.Below(v), g.Above(0, v, v), g.Below(v, 1), g.Path(v, v), g.Path(0, v), g.Path(v, 0)); len(l) != 0 {
			t.Errorf("%s: of %d: %v", name, v, l)
		}
	}
}

func TestNilGraph(t *testing.T) {
	checkEmpty(t, "nil", nil)
	checkEmpty(t, "zero", new(Graph))
}

// A vertex that waits for nothing, with others and alone.
func TestVerticesThatWaitForNothing(t *testing.T) {
	for _, n := range []int{1, 2, 63, 64, 65, 200} {
		after := make([][]int, n)
		g := built(t, after)
		check(t, after, "Order", g.Order(), upTo(n))
		checkLists(t, after, "Levels", g.Levels(), [][]int{upTo(n)})
		checkLists(t, after, "Bare", g.Bare(), after)
		check(t, after, "Above", g.Above(upTo(n)...), nil)
		check(t, after, "Below", g.Below(upTo(n)...), nil)
		for v := range n {
			check(t, after, "Before", g.Before(v), nil)
			check(t, after, "Behind", g.Behind(v), nil)
			check(t, after, "Path", g.Path(v, v), []int{v})
			check(t, after, "Path", g.Path(v, (v+1)%n), [][]int{nil, {0}}[1/n])
		}
	}
}

// Of several vertices that are possible the smallest one comes first, whenever it has become possible.
func TestOrder(t *testing.T) {
	for _, c := range []struct {
		after [][]int
		order []int
	}{
		{[][]int{{1}, nil}, []int{1, 0}},
		{[][]int{{2}, nil, nil}, []int{1, 2, 0}},
		{[][]int{{1}, nil, nil}, []int{1, 0, 2}},
		{[][]int{{3}, {2}, nil, nil}, []int{2, 1, 3, 0}},
		{[][]int{{2}, {3}, nil, nil}, []int{2, 0, 3, 1}},
		{[][]int{{3, 3}, {3}, {3}, nil}, []int{3, 0, 1, 2}},
		{[][]int{{1}, {2}, {3}, {4}, nil}, []int{4, 3, 2, 1, 0}},
		{[][]int{{4}, nil, {0}, nil, {1}}, []int{1, 3, 4, 0, 2}},
		{[][]int{{5}, nil, {1}, {2}, nil, {4, 1}}, []int{1, 2, 3, 4, 5, 0}},
	} {
		check(t, c.after, "Order", built(t, c.after).Order(), c.order)
	}
}

// One vertex waits for a far later one, so that it becomes possible when many greater ones already are.
func TestOrderOverManyVertices(t *testing.T) {
	const n = 300
	for _, last := range []int{1, 62, 63, 64, 65, 127, 128, 255, 256, n - 1} {
		after := make([][]int, n)
		after[0] = []int{last}
		want := slices.Insert(upTo(n)[1:], last, 0)
		check(t, after, "Order", built(t, after).Order(), want)
	}
}

func TestDuplicates(t *testing.T) {
	after := [][]int{nil, {0, 0}, {1, 0, 1, 0, 0}, {2, 2, 2}}
	g := built(t, after)
	check(t, after, "Order", g.Order(), []int{0, 1, 2, 3})
	check(t, after, "Before(2)", g.Before(2), []int{0, 1})
	check(t, after, "Before(3)", g.Before(3), []int{2})
	check(t, after, "Behind(0)", g.Behind(0), []int{1, 2})
	check(t, after, "Behind(2)", g.Behind(2), []int{3})
	checkLists(t, after, "Bare", g.Bare(), [][]int{nil, {0}, {1}, {2}})
	checkLists(t, after, "Levels", g.Levels(), [][]int{{0}, {1}, {2}, {3}})
	check(t, after, "Path(0, 3)", g.Path(0, 3), []int{0, 2, 3})
	many := [][]int{nil, slices.Repeat([]int{0, 2}, 1<<20), nil}
	g = built(t, many)
	check(t, nil, "Before(1)", g.Before(1), []int{0, 2})
	check(t, nil, "Behind(0)", g.Behind(0), []int{1})
}

// In a chain all elements wait for the first one, but only those that another one waits for are above.
func TestAboveAndBelow(t *testing.T) {
	after := [][]int{nil, {0}, {1}, {2}, nil, {4}}
	g := built(t, after)
	for _, c := range []struct {
		l     []int
		above []int
		below []int
	}{
		{nil, nil, nil},
		{[]int{}, nil, nil},
		{[]int{0}, nil, []int{1, 2, 3}},
		{[]int{2}, []int{0, 1}, []int{3}},
		{[]int{3}, []int{0, 1, 2}, nil},
		{[]int{2, 2}, []int{0, 1}, []int{3}},
		{[]int{2, 1}, []int{0, 1}, []int{2, 3}},
		{[]int{1, 3, 2}, []int{0, 1, 2}, []int{2, 3}},
		{[]int{0, 3}, []int{0, 1, 2}, []int{1, 2, 3}},
		{[]int{1, 5}, []int{0, 4}, []int{2, 3}},
		{[]int{4, 1}, []int{0}, []int{2, 3, 5}},
		{[]int{5, 4, 5}, []int{4}, []int{5}},
		{[]int{-1, 2, 6}, []int{0, 1}, []int{3}},
		{[]int{-1}, nil, nil},
		{[]int{6, math.MaxInt, math.MinInt, api.MaxTasks}, nil, nil},
		{[]int{5, 4, 3, 2, 1, 0}, []int{0, 1, 2, 4}, []int{1, 2, 3, 5}},
	} {
		check(t, after, "Above", g.Above(c.l...), c.above)
		check(t, after, "Below", g.Below(c.l...), c.below)
	}
	check(t, after, "Above()", g.Above(), nil)
	check(t, after, "Below()", g.Below(), nil)
}

func TestLevels(t *testing.T) {
	for _, c := range []struct {
		after  [][]int
		levels [][]int
	}{
		{[][]int{nil}, [][]int{{0}}},
		{[][]int{{1}, nil}, [][]int{{1}, {0}}},
		{[][]int{{1, 2}, {2}, nil}, [][]int{{2}, {1}, {0}}},
		{[][]int{nil, {0}, {1}, {0}, {2, 3}, {3}}, [][]int{{0}, {1, 3}, {2, 5}, {4}}},
		{[][]int{nil, {0}, nil, {2}, {3}}, [][]int{{0, 2}, {1, 3}, {4}}},
		{[][]int{{4}, {4}, {3}, nil, nil}, [][]int{{3, 4}, {0, 1, 2}}},
	} {
		checkLists(t, c.after, "Levels", built(t, c.after).Levels(), c.levels)
	}
}

func TestBare(t *testing.T) {
	for _, c := range []struct {
		after [][]int
		bare  [][]int
	}{
		{[][]int{nil}, [][]int{nil}},
		{[][]int{nil, {0}, {1, 0}}, [][]int{nil, {0}, {1}}},
		{[][]int{{2, 1}, {2}, nil}, [][]int{{1}, {2}, nil}},
		{[][]int{nil, {0}, {0}, {2, 1}}, [][]int{nil, {0}, {0}, {1, 2}}},
		{[][]int{nil, {0}, {0}, {2, 1, 0}}, [][]int{nil, {0}, {0}, {1, 2}}},
		{[][]int{nil, {0}, {1}, {2}, {3, 0}}, [][]int{nil, {0}, {1}, {2}, {3}}},
		{[][]int{nil, {0}, {1}, {2, 0}, {3, 1}}, [][]int{nil, {0}, {1}, {2}, {3}}},
		{[][]int{{3, 2}, {0, 3}, nil, {2}, nil}, [][]int{{3}, {0}, nil, {2}, nil}},
	} {
		checkLists(t, c.after, "Bare", built(t, c.after).Bare(), c.bare)
	}
}

func TestPath(t *testing.T) {
	// Two ways of two edges from 0 to 3, one of three edges, and a second part.
	diamond := [][]int{nil, {0}, {0}, {1, 2, 6}, nil, {4}, {1}}
	// The least vertex next to 0 lies on no shortest path, and on the shortest ones the lesser vertex comes first, though a greater one follows it.
	crossed := [][]int{nil, {0}, {0, 1}, {0}, {3}, {2}, {1, 4, 5}}
	backward := [][]int{{1, 2}, {3}, {3}, {4}, nil}
	// 1 waits for 0 directly, and over others as well.
	shortcut := [][]int{nil, {0, 2}, {0}}
	for _, c := range []struct {
		after [][]int
		v     int
		w     int
		path  []int
	}{
		{diamond, 0, 3, []int{0, 1, 3}},
		{diamond, 0, 6, []int{0, 1, 6}},
		{diamond, 2, 3, []int{2, 3}},
		{diamond, 3, 0, nil},
		{diamond, 2, 6, nil},
		{diamond, 1, 2, nil},
		{diamond, 0, 5, nil},
		{diamond, 4, 5, []int{4, 5}},
		{diamond, 3, 3, []int{3}},
		{diamond, 0, 0, []int{0}},
		{diamond, 6, 6, []int{6}},
		{diamond, 7, 7, nil},
		{diamond, -1, -1, nil},
		{diamond, -1, 3, nil},
		{diamond, 0, -1, nil},
		{diamond, 0, 7, nil},
		{diamond, 7, 3, nil},
		{diamond, math.MinInt, 3, nil},
		{diamond, 0, math.MaxInt, nil},
		{crossed, 0, 6, []int{0, 1, 6}},
		{crossed, 0, 5, []int{0, 2, 5}},
		{crossed, 3, 6, []int{3, 4, 6}},
		{crossed, 2, 6, []int{2, 5, 6}},
		{backward, 4, 0, []int{4, 3, 1, 0}},
		{backward, 3, 0, []int{3, 1, 0}},
		{backward, 0, 4, nil},
		{shortcut, 0, 1, []int{0, 1}},
		{shortcut, 2, 1, []int{2, 1}},
		{[][]int{nil, {0}, {0}, {2}, {1}, {3, 4}}, 0, 5, []int{0, 1, 4, 5}},
		{[][]int{nil, {0}, {1}, {0}, {3, 2}}, 0, 4, []int{0, 3, 4}},
	} {
		check(t, c.after, "Path", built(t, c.after).Path(c.v, c.w), c.path)
	}
}

// Vertices that there are not have nothing, beside vertices that there are.
func TestArgumentsThatAreNoVertices(t *testing.T) {
	after := example()
	g := built(t, after)
	for _, v := range []int{math.MinInt, -api.MaxTasks, -5, -1, 5, 6, 63, 64, 65, api.MaxTasks, 1 << 32, 1<<32 + 1, math.MaxInt} {
		check(t, after, "Before", g.Before(v), nil)
		check(t, after, "Behind", g.Behind(v), nil)
		check(t, after, "Above", g.Above(v), nil)
		check(t, after, "Below", g.Below(v), nil)
		check(t, after, "Above with another", g.Above(v, 4, v), []int{1})
		check(t, after, "Below with another", g.Below(v, v, 2), []int{3})
		for w := range 5 {
			check(t, after, "Path", g.Path(v, w), nil)
			check(t, after, "Path", g.Path(w, v), nil)
		}
		check(t, after, "Path", g.Path(v, v), nil)
	}
}

func TestVerticesThatDoNotExist(t *testing.T) {
	for _, v := range []int{math.MinInt, -1 << 32, -5, -1, 5, 6, api.MaxTasks - 1, api.MaxTasks, 1 << 32, 1<<32 + 1, math.MaxInt} {
		for w := range 5 {
			for i := range 3 {
				after := example()
				after[w] = slices.Insert(append(after[w], 1, 1), i, v)
				checkError(t, "not a vertex", after, api.ErrArg)
			}
		}
	}
	checkError(t, "one vertex", [][]int{{1}}, api.ErrArg)
	checkError(t, "the last one", [][]int{nil, nil, {3}}, api.ErrArg)
	checkError(t, "the first one", [][]int{{-1}, nil, nil}, api.ErrArg)
}

func TestCycles(t *testing.T) {
	for _, after := range [][][]int{
		{{0}},
		{nil, {1}},
		{{0, 0}, nil},
		{{1}, {0}},
		{{1}, {2}, {0}},
		{{2}, {0}, {1}},
		{nil, {0, 3}, {1}, {2}, {3}},
		{nil, {0}, {1, 2}, {0}},
		{nil, {2}, {1}, nil},
		{nil, {0}, {3}, {2}, {0, 1}},
		{{1}, {0}, {3}, {2}},
		{nil, nil, nil, nil, {4}},
	} {
		checkError(t, "a cycle", after, api.ErrCycle)
	}
	for _, n := range []int{1, 2, 63, 64, 65, 100, api.MaxTasks} {
		around := each(n, func(v int) []int { return []int{(v + 1) % n} })
		checkError(t, "all around", around, api.ErrCycle)
		around[n/2] = nil
		built(t, around)
		last := each(n, func(v int) []int { return nil })
		last[n-1] = []int{n - 1}
		checkError(t, "the last one", last, api.ErrCycle)
	}
	for _, n := range []int{2, 3, 65, 130} {
		after := each(n, upTo)
		for v := range n {
			after[v] = append(after[v], n-1)
			checkError(t, "over others", after, api.ErrCycle)
			after[v] = after[v][:v]
		}
		built(t, after)
	}
}

// The error that is named first is told, wherever the others stand.
func TestSeveralErrors(t *testing.T) {
	checkError(t, "a cycle and no vertex", [][]int{{0}, {2}}, api.ErrArg)
	checkError(t, "no vertex and a cycle", [][]int{{2}, {1}}, api.ErrArg)
	checkError(t, "both in one list", [][]int{{0, 1}}, api.ErrArg)
	checkError(t, "both in one list, exchanged", [][]int{{-1, 0}}, api.ErrArg)
	checkError(t, "a cycle behind no vertex", [][]int{nil, {2}, {1, 0}, {4}}, api.ErrArg)
	long := make([][]int, api.MaxTasks+1)
	for _, l := range [][]int{nil, {0}, {-1}, {api.MaxTasks}, {api.MaxTasks + 1}, {math.MaxInt, 0}} {
		for _, v := range []int{0, 1, api.MaxTasks} {
			long[v] = l
			checkError(t, "too many", long, api.ErrLong)
			long[v] = nil
		}
	}
	long = long[:api.MaxTasks]
	long[api.MaxTasks-1] = []int{api.MaxTasks}
	checkError(t, "as many as may be, and one that waits for another", long, api.ErrArg)
	long[0] = []int{0}
	checkError(t, "and a cycle", long, api.ErrArg)
	long[api.MaxTasks-1] = []int{api.MaxTasks - 2}
	checkError(t, "and a cycle alone", long, api.ErrCycle)
}

func TestTooManyVertices(t *testing.T) {
	for _, n := range []int{api.MaxTasks + 1, api.MaxTasks + 2, 2 * api.MaxTasks, 1 << 20} {
		checkError(t, "too many", make([][]int, n), api.ErrLong)
	}
	if n := built(t, make([][]int, api.MaxTasks)).Len(); n != api.MaxTasks {
		t.Errorf("Len = %d", n)
	}
}
