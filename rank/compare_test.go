package rank

import (
	"cmp"
	"fmt"
	"math/big"
	"slices"
	"testing"

	"timekeeper/api"
	"timekeeper/flow"
)

// The answers of this package, found by other ways: for small workflows by all their ways, for others by numbers that are mended until all of them are right.

// network tells of each task how long it takes, and which ones wait for it, in ascending order.
type network struct {
	weight []int
	behind [][]int
}

func networkOf(f api.Flow) network {
	n := network{make([]int, len(f.Tasks)), make([][]int, len(f.Tasks))}
	for v, t := range f.Tasks {
		if !t.Done {
			n.weight[v] = t.Wall
		}
		for _, w := range t.After {
			n.behind[w] = append(n.behind[w], v)
		}
	}
	return n
}

// ways returns all ways from v up to a task that nothing waits for.
func (n network) ways(v int) [][]int {
	if len(n.behind[v]) == 0 {
		return [][]int{{v}}
	}
	var all [][]int
	for _, w := range n.behind[v] {
		for _, way := range n.ways(w) {
			all = append(all, append([]int{v}, way...))
		}
	}
	return all
}

// long is how long all of a way takes.
func (n network) long(way []int) int {
	sum := 0
	for _, v := range way {
		sum += n.weight[v]
	}
	return sum
}

// byWays returns Up, Down and Path, by going through all ways. Their numbers may be too great.
func (n network) byWays() ([]int, []int, []int) {
	up, down := make([]int, len(n.weight)), make([]int, len(n.weight))
	var all [][]int
	for v := range n.weight {
		all = append(all, n.ways(v)...)
	}
	for _, way := range all {
		up[way[0]] = max(up[way[0]], n.long(way))
		for i, v := range way {
			down[v] = max(down[v], n.long(way[:i]))
		}
	}
	better := func(a, b []int) int {
		return slices.CompareFunc(a, b, func(v, w int) int { return cmp.Or(cmp.Compare(up[w], up[v]), cmp.Compare(v, w)) })
	}
	if len(all) == 0 {
		return nil, nil, nil
	}
	return up, down, slices.MinFunc(all, better)
}

// byMending returns Up, Down and Path, by asking all links until none of them makes a number greater.
func (n network) byMending() ([]int, []int, []int) {
	up, down := slices.Clone(n.weight), make([]int, len(n.weight))
	for again := true; again; {
		again = false
		for v, l := range n.behind {
			for _, w := range l {
				if up[v] < n.weight[v]+up[w] {
					up[v], again = n.weight[v]+up[w], true
				}
				if down[w] < down[v]+n.weight[v] {
					down[w], again = down[v]+n.weight[v], true
				}
			}
		}
	}
	next := make([]int, len(n.weight))
	for v := range next {
		next[v] = v
	}
	var path []int
	for len(next) > 0 {
		next = slices.Clone(next)
		slices.SortFunc(next, func(v, w int) int { return cmp.Or(cmp.Compare(up[w], up[v]), cmp.Compare(v, w)) })
		path = append(path, next[0])
		next = n.behind[next[0]]
	}
	return up, down, path
}

// wantOrder first finds the order of the graph, looking at all tasks for each position, and then takes the greatest again and again.
func wantOrder(f api.Flow, up []int) []int {
	taken := make([]bool, len(f.Tasks))
	var left []int
	for range f.Tasks {
		v := 0
		for taken[v] || slices.ContainsFunc(f.Tasks[v].After, func(w int) bool { return !taken[w] }) {
			v++
		}
		taken[v] = true
		left = append(left, v)
	}
	var order []int
	for len(left) > 0 {
		first := 0
		for i, v := range left {
			if up[v] > up[left[first]] {
				first = i
			}
		}
		order = append(order, left[first])
		left = slices.Delete(left, first, first+1)
	}
	return order
}

// wantNumber is a number without a limit, held against the greatest time.
func wantNumber(n *big.Int) number {
	if n.Cmp(big.NewInt(1<<40-1)) > 0 {
		return number{e: api.ErrOver}
	}
	return number{n: int(n.Int64())}
}

func wantList(l []int) list {
	if slices.ContainsFunc(l, func(n int) bool { return n > 1<<40-1 }) {
		return list{e: api.ErrOver}
	}
	return list{l: l}
}

// wantAnswers are those of f, whose Up, Down and Path are given.
func wantAnswers(f api.Flow, up, down, path []int) answers {
	total, area, widest, length := new(big.Int), new(big.Int), 0, 0
	for v, t := range f.Tasks {
		length = max(length, up[v])
		if t.Done {
			continue
		}
		total.Add(total, big.NewInt(int64(t.Wall)))
		area.Add(area, new(big.Int).Mul(big.NewInt(int64(t.Wall)), big.NewInt(int64(t.Nodes))))
		widest = max(widest, t.Nodes)
	}
	a := answers{up: wantList(up), down: wantList(down), total: wantNumber(total), area: wantNumber(area), widest: number{n: widest}}
	if a.up.e != api.OK {
		return unranked(a)
	}
	a.path, a.order, a.length = list{l: path}, list{l: wantOrder(f, up)}, number{n: length}
	return a
}

// checkProperties holds the answers against one another: P3.
func checkProperties(t *testing.T, f api.Flow) {
	t.Helper()
	n, a := networkOf(f), ask(f)
	if a.up.e != api.OK {
		return
	}
	up, path, length := a.up.l, a.path.l, a.length.n
	at := make([]int, len(f.Tasks))
	for i, v := range a.order.l {
		at[v] = i
		if i > 0 && up[a.order.l[i-1]] < up[v] {
			t.Errorf("%s: in Order %v a task stands ahead of %d, whose Up is greater", short(f), a.order.l, v)
		}
	}
	sorted := slices.Sorted(slices.Values(a.order.l))
	for v, l := range n.behind {
		if sorted[v] != v {
			t.Fatalf("%s: Order is %v", short(f), a.order.l)
		}
		for _, w := range l {
			if at[v] >= at[w] {
				t.Errorf("%s: %d waits for %d, but Order is %v", short(f), w, v, a.order.l)
			}
			// As this holds for each link, no way from a task on is longer than its Up.
			if up[v] < n.weight[v]+up[w] {
				t.Errorf("%s: over %d and %d is a longer way than %v tells", short(f), v, w, up)
			}
		}
		if up[v] < n.weight[v] || up[v] > length || a.down.l[v]+up[v] > length {
			t.Errorf("%s: over %d is a longer way than %d", short(f), v, length)
		}
	}
	for i := range len(path) - 1 {
		if !slices.Contains(n.behind[path[i]], path[i+1]) {
			t.Errorf("%s: Path %v is no way", short(f), path)
		}
	}
	if n.long(path) != length || (len(path) == 0) != (len(f.Tasks) == 0) {
		t.Errorf("%s: Path %v takes %d, and Length is %d", short(f), path, n.long(path), length)
	}
}

// checkSmall holds the answers of a workflow with few ways against all of these.
func checkSmall(t *testing.T, name string, f api.Flow) {
	t.Helper()
	if e := flow.Check(f); e != api.OK {
		check(t, name, f, refused(e))
		return
	}
	up, down, path := networkOf(f).byWays()
	check(t, name, f, wantAnswers(f, up, down, path))
	checkProperties(t, f)
}

// checkLarge is for those that have too many ways.
func checkLarge(t *testing.T, name string, f api.Flow) {
	t.Helper()
	if e := flow.Check(f); e != api.OK {
		check(t, name, f, refused(e))
		return
	}
	up, down, path := networkOf(f).byMending()
	check(t, name, f, wantAnswers(f, up, down, path))
	checkProperties(t, f)
}

// small is the workflow, or what is none, whose links are the bits of links, and whose tasks are the digits of kinds.
func small(n int, links int, kinds int) api.Flow {
	tasks := make([]api.Task, n)
	for v := range n {
		kind := kinds % 3
		kinds /= 3
		tasks[v] = wide(string(rune('a'+v)), 1+v*kind, max(1, kind))
		tasks[v].Done = kind == 0
		for w := range n {
			if links>>(v*n+w)&1 == 1 {
				tasks[v].After = append(tasks[v].After, w)
			}
		}
	}
	return flowOf(tasks...)
}

// All workflows of up to three tasks that are done, or take 1 or 2, also those with a cycle.
func TestAllSmallFlows(t *testing.T) {
	kinds := 1
	for n := range 4 {
		for links := range 1 << (n * n) {
			for k := range kinds {
				checkSmall(t, "small", small(n, links, k))
			}
		}
		kinds *= 3
	}
}

// All workflows of four tasks whose links go up or down, with each kind of tasks.
func TestAllFlowsOfFourTasks(t *testing.T) {
	flows := 0
	for links := range 1 << 16 {
		if flow.Check(small(4, links, 0)) != api.OK {
			continue
		}
		flows++
		for k := range 81 {
			checkSmall(t, "four tasks", small(4, links, k))
		}
	}
	// There are so many acyclic graphs of four vertices.
	if flows != 543 {
		t.Errorf("%d workflows", flows)
	}
}

// draws returns numbers below n, always the same ones for the same seed.
func draws(seed uint32) func(int) int {
	return func(n int) int {
		seed = seed*1664525 + 1013904223
		return int(seed>>8) % n
	}
}

// drawn is a workflow of n tasks, each pair of which has a link in one case of all, in a direction that the indexes do not tell. Their Walls are less than walls, or, in one case of huge, so great that not many of them fit.
func drawn(next func(int) int, n int, all int, walls int, huge int) api.Flow {
	index := make([]int, n)
	for i := range index {
		k := next(i + 1)
		index[i], index[k] = index[k], i
	}
	tasks := make([]api.Task, n)
	for i, v := range index {
		tasks[v] = wide(fmt.Sprint("t", v), 1+next(5), 1+next(walls))
		tasks[v].Done = next(4) == 0
		if next(huge) == 0 {
			tasks[v].Wall = most/(1+next(6)) - next(3)
		}
		for k := range i {
			if next(all) == 0 {
				tasks[v].After = append(tasks[v].After, index[k])
			}
		}
		slices.Sort(tasks[v].After)
	}
	return flowOf(tasks...)
}

func TestDrawnSmallFlows(t *testing.T) {
	next := draws(7)
	for range 6000 {
		f := drawn(next, next(8), 1+next(4), 1+next(5), 1<<20)
		checkSmall(t, "drawn", f)
		checkLarge(t, "drawn", f)
		checkSmall(t, "drawn with great Walls", drawn(next, 1+next(8), 1+next(4), 9, 2+next(9)))
	}
}

func TestDrawnFlows(t *testing.T) {
	next := draws(70)
	for _, n := range []int{9, 10, 20, 30, 63, 64, 65, 100, 150, 250} {
		for _, all := range []int{2, 3, 7, n, 3 * n} {
			for _, walls := range []int{1, 2, 10, 1 << 20} {
				checkLarge(t, "drawn", drawn(next, n, all, walls, 1<<20))
				checkLarge(t, "drawn with great Walls", drawn(next, n, all, walls, 4+next(2*n)))
			}
		}
	}
}

// A link more closes a cycle, or makes no rank smaller.
func TestDrawnFlowsWithALinkMore(t *testing.T) {
	next := draws(77)
	for range 1500 {
		n := 2 + next(7)
		f := drawn(next, n, 1+next(9), 1+next(9), 1<<20)
		v, w := next(n), next(n)
		g := flow.Copy(f)
		g.Tasks[v].After = slices.Compact(slices.Sorted(slices.Values(append(g.Tasks[v].After, w))))
		checkSmall(t, "a link more", g)
		before, _ := Up(f)
		after, e := Up(g)
		for u := range after {
			if after[u] < before[u] {
				t.Errorf("%s: with a link more Up is %v", short(f), after)
			}
		}
		if v == w && e != api.ErrCycle {
			t.Errorf("%s: error %d", short(g), e)
		}
	}
}

// Whatever the indexes of the tasks are, each task has the same numbers.
func TestDrawnFlowsInAnotherOrder(t *testing.T) {
	next := draws(777)
	for range 1500 {
		n := 1 + next(12)
		f := drawn(next, n, 1+next(5), 1+next(9), 5+next(40))
		place := make([]int, n)
		for i := range place {
			k := next(i + 1)
			place[i], place[k] = place[k], i
		}
		g := flow.Copy(f)
		for v, x := range flow.Copy(f).Tasks {
			for i, w := range x.After {
				x.After[i] = place[w]
			}
			slices.Sort(x.After)
			g.Tasks[place[v]] = x
		}
		a, b := ask(f), ask(g)
		if a.total != b.total || a.area != b.area || a.widest != b.widest || a.length != b.length || a.up.e != b.up.e || a.down.e != b.down.e {
			t.Errorf("%s in another order: %s", short(f), short(g))
		}
		for v := range n {
			if len(a.up.l) == n && a.up.l[v] != b.up.l[place[v]] || len(a.down.l) == n && a.down.l[v] != b.down.l[place[v]] {
				t.Errorf("%s in another order: %s: %v, %v", short(f), short(g), a, b)
			}
		}
	}
}

// flowOfBytes has a task for each four bytes, which tell its nodes, its Wall, whether it is done, and what it waits for.
func flowOfBytes(b []byte) api.Flow {
	f := flowOf()
	n := min(len(b)/4, 9)
	for v := range n {
		x := b[4*v : 4*v+4]
		wall := int(x[1]) << (x[2] >> 1)
		t := api.Task{Name: fmt.Sprint("t", v), Nodes: int(x[0])<<6 + 1, Wall: wall, Done: x[2]&1 == 1}
		for w := range n {
			if x[3]>>(w%8)&1 == 1 && w != v {
				t.After = append(t.After, w)
			}
		}
		f.Tasks = append(f.Tasks, t)
	}
	return f
}

func FuzzFlow(f *testing.F) {
	f.Add([]byte{0, 3, 0, 0, 0, 5, 0, 0, 0, 2, 0, 3})
	f.Add([]byte{9, 255, 64, 2, 1, 255, 64, 0})
	f.Add([]byte{200, 255, 66, 2, 1, 9, 1, 1})
	f.Add([]byte{1, 1, 1, 0, 1, 1, 1, 1, 1, 1, 1, 2, 1, 1, 0, 5})
	f.Fuzz(func(t *testing.T, b []byte) {
		g := flowOfBytes(b)
		checkSmall(t, "bytes", g)
		checkLarge(t, "bytes", g)
	})
}
