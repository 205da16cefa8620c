package dag

import (
	"cmp"
	"slices"
	"testing"

	"timekeeper/api"
)

// draws returns numbers below n, always the same ones for the same seed.
func draws(seed uint32) func(int) int {
	return func(n int) int {
		seed = seed*1664525 + 1013904223
		return int(seed>>8) % n
	}
}

// drawn is a graph of n vertices, each pair of which has an edge in one case of all, some of them twice. Its vertices are named at random.
func drawn(next func(int) int, n int, all int) [][]int {
	names := make([]int, n)
	for i := range names {
		k := next(i + 1)
		names[i], names[k] = names[k], i
	}
	after := make([][]int, n)
	for i := range n {
		for k := range i {
			for next(all) == 0 {
				after[names[i]] = append(after[names[i]], names[k])
			}
		}
	}
	for _, l := range after {
		for i := range l {
			k := next(i + 1)
			l[i], l[k] = l[k], l[i]
		}
	}
	return after
}

// matrix tells for each pair of vertices whether the first one waits for the second one.
type matrix [][]bool

func direct(after [][]int) matrix {
	m := make(matrix, len(after))
	for v, l := range after {
		m[v] = make([]bool, len(after))
		for _, w := range l {
			m[v][w] = true
		}
	}
	return m
}

// closed is m with all indirect waiting, by Warshall's rule.
func closed(m matrix) matrix {
	c := make(matrix, len(m))
	for v := range m {
		c[v] = slices.Clone(m[v])
	}
	for middle := range c {
		for v := range c {
			if c[v][middle] {
				for w := range c {
					c[v][w] = c[v][w] || c[middle][w]
				}
			}
		}
	}
	return c
}

// where returns the vertices for which f holds.
func where(n int, f func(int) bool) []int {
	var l []int
	for v := range n {
		if f(v) {
			l = append(l, v)
		}
	}
	return l
}

// wantOrder looks at all vertices for each position.
func wantOrder(m matrix) []int {
	var order []int
	for range m {
		possible := where(len(m), func(v int) bool {
			return !slices.Contains(order, v) && !slices.ContainsFunc(where(len(m), func(w int) bool { return m[v][w] }), func(w int) bool { return !slices.Contains(order, w) })
		})
		order = append(order, possible[0])
	}
	return order
}

// wantLevels takes off, again and again, those that wait for no vertex that is left.
func wantLevels(m matrix) [][]int {
	var levels [][]int
	left := upTo(len(m))
	for len(left) > 0 {
		level := slices.DeleteFunc(slices.Clone(left), func(v int) bool {
			return slices.ContainsFunc(left, func(w int) bool { return m[v][w] })
		})
		left = slices.DeleteFunc(left, func(v int) bool { return slices.Contains(level, v) })
		levels = append(levels, level)
	}
	return levels
}

// wantBare keeps an edge unless the closure leads over a vertex between.
func wantBare(m matrix, c matrix) [][]int {
	bare := make([][]int, len(m))
	for v := range m {
		bare[v] = where(len(m), func(w int) bool {
			return m[v][w] && !slices.ContainsFunc(upTo(len(m)), func(u int) bool { return c[v][u] && c[u][w] })
		})
	}
	return bare
}

// comparePaths says which path is the better one: a shorter one, or one of the same length that is lexicographically less.
func comparePaths(a []int, b []int) int {
	return cmp.Or(cmp.Compare(len(a), len(b)), slices.Compare(a, b))
}

// wantPaths returns the best path from each vertex to w, by whole paths that are improved until none is any longer.
func wantPaths(m matrix, w int) [][]int {
	best := make([][]int, len(m))
	best[w] = []int{w}
	for again := true; again; {
		again = false
		for v := range m {
			for u := range m {
				if !m[u][v] || best[u] == nil {
					continue
				}
				path := slices.Concat([]int{v}, best[u])
				if best[v] == nil || comparePaths(path, best[v]) < 0 {
					best[v], again = path, true
				}
			}
		}
	}
	return best
}

// checkNeighbours asks what is told of one vertex.
func checkNeighbours(t *testing.T, after [][]int, g *Graph, m matrix, c matrix) {
	t.Helper()
	n := len(m)
	for v := range n {
		check(t, after, "Before", g.Before(v), where(n, func(w int) bool { return m[v][w] }))
		check(t, after, "Behind", g.Behind(v), where(n, func(w int) bool { return m[w][v] }))
		check(t, after, "Above", g.Above(v), where(n, func(w int) bool { return c[v][w] }))
		check(t, after, "Below", g.Below(v), where(n, func(w int) bool { return c[w][v] }))
	}
}

// checkSeveral asks what is told of the vertices of l.
func checkSeveral(t *testing.T, after [][]int, g *Graph, c matrix, l []int) {
	t.Helper()
	real := slices.DeleteFunc(slices.Clone(l), func(v int) bool { return v < 0 || v >= len(c) })
	check(t, after, "Above several", g.Above(l...), where(len(c), func(w int) bool {
		return slices.ContainsFunc(real, func(v int) bool { return c[v][w] })
	}))
	check(t, after, "Below several", g.Below(l...), where(len(c), func(w int) bool {
		return slices.ContainsFunc(real, func(v int) bool { return c[w][v] })
	}))
}

// checkProperties holds the answers against one another: P3.
func checkProperties(t *testing.T, after [][]int, g *Graph) {
	t.Helper()
	order := g.Order()
	at := make([]int, len(order))
	for i, v := range order {
		at[v] = i
	}
	check(t, after, "Order, sorted", slices.Sorted(slices.Values(order)), upTo(len(after)))
	check(t, after, "Levels, sorted", slices.Sorted(slices.Values(slices.Concat(g.Levels()...))), upTo(len(after)))
	for v := range order {
		for _, u := range g.Above(v) {
			if at[u] >= at[v] {
				t.Errorf("%s: %d waits for %d, but Order is %v", short(after), v, u, order)
			}
		}
	}
}

// checkGraph holds each answer of a graph against one that is found by another way.
func checkGraph(t *testing.T, after [][]int) {
	t.Helper()
	m := direct(after)
	c := closed(m)
	for v := range c {
		if c[v][v] {
			checkError(t, "a cycle", after, api.ErrCycle)
			return
		}
	}
	g := built(t, after)
	if g.Len() != len(after) {
		t.Errorf("%s: Len = %d", short(after), g.Len())
	}
	check(t, after, "Order", g.Order(), wantOrder(m))
	checkLists(t, after, "Levels", g.Levels(), wantLevels(m))
	checkLists(t, after, "Bare", g.Bare(), wantBare(m, c))
	checkNeighbours(t, after, g, m, c)
	checkSeveral(t, after, g, c, nil)
	checkProperties(t, after, g)
	for w := range m {
		best := wantPaths(m, w)
		for v := range m {
			check(t, after, "Path", g.Path(v, w), best[v])
		}
	}
}

// checkAllQueries asks of each list of up to two vertices, and of some longer ones, among them numbers that are no vertices.
func checkAllQueries(t *testing.T, after [][]int) {
	t.Helper()
	c := closed(direct(after))
	g := built(t, after)
	for v := -1; v <= len(after); v++ {
		for w := -1; w <= len(after); w++ {
			checkSeveral(t, after, g, c, []int{v, w})
			checkSeveral(t, after, g, c, []int{v, w, v, len(after) - 1, 0})
		}
	}
	checkSeveral(t, after, g, c, upTo(len(after)))
}

func TestSomeGraphs(t *testing.T) {
	for _, after := range someGraphs() {
		checkGraph(t, after)
		checkAllQueries(t, after)
	}
}

// graphOf is the graph, or what is none, whose edges are the bits of number.
func graphOf(n int, number int) [][]int {
	after := make([][]int, n)
	for v := range n {
		for w := range n {
			if number>>(v*n+w)&1 == 1 {
				after[v] = append(after[v], w)
			}
		}
	}
	return after
}

// All graphs of up to three vertices, and all lists of vertices to ask of.
func TestAllSmallGraphs(t *testing.T) {
	for n := range 4 {
		for number := range 1 << (n * n) {
			after := graphOf(n, number)
			checkGraph(t, after)
			if _, e := New(after); e == api.OK {
				checkAllQueries(t, after)
			}
		}
	}
}

// permutations returns all orders of n vertices, lexicographically.
func permutations(n int) [][]int {
	if n == 0 {
		return [][]int{nil}
	}
	var all [][]int
	for first := range n {
		for _, rest := range permutations(n - 1) {
			p := []int{first}
			for _, v := range rest {
				if v >= first {
					v++
				}
				p = append(p, v)
			}
			all = append(all, p)
		}
	}
	return all
}

// isTopological reports whether each vertex of p comes after all those that it waits for.
func isTopological(m matrix, p []int) bool {
	for i, v := range p {
		for _, w := range p[i:] {
			if m[v][w] {
				return false
			}
		}
	}
	return true
}

// All graphs of four vertices: the order is the least of all that are topological, and if there is none, there is a cycle.
func TestAllGraphsOfFourVertices(t *testing.T) {
	orders := permutations(4)
	graphs := 0
	for number := range 1 << 16 {
		after := graphOf(4, number)
		m := direct(after)
		first := slices.IndexFunc(orders, func(p []int) bool { return isTopological(m, p) })
		if first < 0 {
			checkError(t, "a cycle", after, api.ErrCycle)
			continue
		}
		graphs++
		check(t, after, "Order", built(t, after).Order(), orders[first])
		checkGraph(t, after)
	}
	// There are so many acyclic graphs of four vertices.
	if graphs != 543 {
		t.Errorf("%d graphs", graphs)
	}
}

// Drawn graphs, of few and of many edges, up to more vertices than a word of bits has.
func TestDrawnGraphs(t *testing.T) {
	next := draws(5)
	for _, n := range []int{5, 6, 7, 8, 9, 10, 12, 15, 20, 30, 63, 64, 65, 66} {
		for _, all := range []int{2, 3, 5, n, 2 * n} {
			after := drawn(next, n, all)
			checkGraph(t, after)
			checkAllQueries(t, after)
		}
	}
	for range 300 {
		checkGraph(t, drawn(next, 5+next(4), 2+next(4)))
	}
	for _, n := range []int{127, 128, 129, 150} {
		checkGraph(t, drawn(next, n, 3))
		checkGraph(t, drawn(next, n, n))
	}
}

// An edge more closes a cycle exactly if its vertices wait for one another the other way.
func TestDrawnGraphsWithAnEdgeMore(t *testing.T) {
	next := draws(11)
	for range 100 {
		n := 2 + next(70)
		after := drawn(next, n, 1+n/2)
		c := closed(direct(after))
		for range 10 {
			v, w := next(n), next(n)
			more := slices.Clone(after)
			more[v] = append(slices.Clone(after[v]), w)
			_, e := New(more)
			if (e == api.ErrCycle) != (v == w || c[w][v]) {
				t.Errorf("%s: %d waits for %d: %d", short(after), v, w, e)
			}
		}
	}
}

func FuzzGraph(f *testing.F) {
	f.Add(5, []byte{2, 1, 3, 0, 3, 2, 4, 1})
	f.Add(2, []byte{0, 1, 1, 0})
	f.Add(3, []byte{0, 3})
	f.Fuzz(func(t *testing.T, n int, edges []byte) {
		n = max(0, min(n, 70))
		after := make([][]int, n)
		right := true
		for i := 0; n > 0 && i+1 < len(edges); i += 2 {
			v, w := int(edges[i])%n, int(int8(edges[i+1]))
			after[v] = append(after[v], w)
			right = right && 0 <= w && w < n
		}
		if !right {
			checkError(t, "no vertex", after, api.ErrArg)
			return
		}
		checkGraph(t, after)
		if _, e := New(after); e == api.OK {
			checkAllQueries(t, after)
		}
	})
}
