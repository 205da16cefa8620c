package dag

import (
	"slices"
	"testing"

	"timekeeper/api"
)

const most = api.MaxTasks

// down returns n - 1 to 0.
func down(n int) []int {
	l := upTo(n)
	slices.Reverse(l)
	return l
}

// single returns a list of one for each element.
func single(l []int) [][]int {
	var lists [][]int
	for _, v := range l {
		lists = append(lists, []int{v})
	}
	return lists
}

func TestMostVerticesInARow(t *testing.T) {
	after := each(most, func(v int) []int { return upTo(v)[max(v-1, 0):] })
	g := built(t, after)
	check(t, nil, "Order", g.Order(), upTo(most))
	checkLists(t, nil, "Levels", g.Levels(), single(upTo(most)))
	checkLists(t, nil, "Bare", g.Bare(), after)
	check(t, nil, "Above", g.Above(most-1, 5), upTo(most-1))
	check(t, nil, "Below", g.Below(5, 0), upTo(most)[1:])
	check(t, nil, "Path", g.Path(0, most-1), upTo(most))
	check(t, nil, "Path", g.Path(most-1, 0), nil)
	check(t, nil, "Before", g.Before(most-1), []int{most - 2})
	check(t, nil, "Before", g.Before(most), nil)
}

func TestMostVerticesInARowBackward(t *testing.T) {
	after := each(most, func(v int) []int { return upTo(most)[v+1 : min(v+2, most)] })
	g := built(t, after)
	check(t, nil, "Order", g.Order(), down(most))
	checkLists(t, nil, "Levels", g.Levels(), single(down(most)))
	checkLists(t, nil, "Bare", g.Bare(), after)
	check(t, nil, "Above", g.Above(0), upTo(most)[1:])
	check(t, nil, "Below", g.Below(most-1), upTo(most-1))
	check(t, nil, "Path", g.Path(most-1, 0), down(most))
}

// Each vertex waits for all smaller ones: no graph has more edges.
func TestMostEdges(t *testing.T) {
	after := each(most, upTo)
	g := built(t, after)
	check(t, nil, "Order", g.Order(), upTo(most))
	checkLists(t, nil, "Levels", g.Levels(), single(upTo(most)))
	checkLists(t, nil, "Bare", g.Bare(), each(most, func(v int) []int { return upTo(v)[max(v-1, 0):] }))
	check(t, nil, "Before", g.Before(most-1), upTo(most-1))
	check(t, nil, "Behind", g.Behind(0), upTo(most)[1:])
	check(t, nil, "Above", g.Above(upTo(most)...), upTo(most-1))
	check(t, nil, "Below", g.Below(upTo(most)...), upTo(most)[1:])
	check(t, nil, "Path", g.Path(0, most-1), []int{0, most - 1})
	// One of them alone, as often as one likes.
	check(t, nil, "Above", g.Above(slices.Repeat([]int{most - 1}, 1<<22)...), upTo(most-1))
	check(t, nil, "Below", g.Below(slices.Repeat([]int{0}, 1<<22)...), upTo(most)[1:])
}

// The same backward, so that the edges are met in the other direction.
func TestMostEdgesBackward(t *testing.T) {
	after := each(most, func(v int) []int { return upTo(most)[v+1:] })
	g := built(t, after)
	check(t, nil, "Order", g.Order(), down(most))
	checkLists(t, nil, "Levels", g.Levels(), single(down(most)))
	checkLists(t, nil, "Bare", g.Bare(), each(most, func(v int) []int { return upTo(most)[v+1 : min(v+2, most)] }))
	check(t, nil, "Path", g.Path(most-1, 0), []int{most - 1, 0})
}

// Each vertex waits for all others: no list of lists has more to look at, or is further from a graph.
func TestMostCycles(t *testing.T) {
	checkError(t, "all wait for all", slices.Repeat([][]int{upTo(most)}, most), api.ErrCycle)
	after := each(most, func(v int) []int { return slices.Delete(upTo(most), v, v+1) })
	checkError(t, "all wait for all others", after, api.ErrCycle)
	after[most-1] = append(after[most-1], most)
	checkError(t, "and the last one for one more", after, api.ErrArg)
}

// Half of the vertices wait for each one of the other half, so that no edge is too many.
func TestMostBareEdges(t *testing.T) {
	const half = most / 2
	after := each(most, func(v int) []int { return upTo(half)[:half*(v/half)] })
	g := built(t, after)
	check(t, nil, "Order", g.Order(), upTo(most))
	checkLists(t, nil, "Levels", g.Levels(), [][]int{upTo(half), upTo(most)[half:]})
	checkLists(t, nil, "Bare", g.Bare(), after)
	check(t, nil, "Behind", g.Behind(7), upTo(most)[half:])
	check(t, nil, "Path", g.Path(half-1, most-1), []int{half - 1, most - 1})
}

// All wait for the last one, which makes them possible at once.
func TestMostVerticesBehindOne(t *testing.T) {
	after := slices.Repeat([][]int{{most - 1}}, most)
	after[most-1] = nil
	g := built(t, after)
	check(t, nil, "Order", g.Order(), slices.Insert(upTo(most-1), 0, most-1))
	checkLists(t, nil, "Levels", g.Levels(), [][]int{{most - 1}, upTo(most - 1)})
	check(t, nil, "Below", g.Below(most-1), upTo(most-1))
	check(t, nil, "Path", g.Path(most-1, 0), []int{most - 1, 0})
	check(t, nil, "Path", g.Path(0, 1), nil)
}
