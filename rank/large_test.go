package rank

import (
	"slices"
	"testing"

	"timekeeper/api"
)

const tasks = api.MaxTasks

// listOf has n elements, which f tells.
func listOf(n int, f func(v int) int) []int {
	l := make([]int, n)
	for i := range l {
		l[i] = f(i)
	}
	return l
}

func upTo(n int) []int {
	return listOf(n, func(v int) int { return v })
}

func down(n int) []int {
	return listOf(n, func(v int) int { return n - 1 - v })
}

func always(n int) func(int) int {
	return func(int) int { return n }
}

// linked are as many tasks as there may be, of one node for the time wall, each of which waits for those that after tells.
func linked(wall int, after func(v int) []int) api.Flow {
	f := flowOf(many(tasks)...)
	for v := range f.Tasks {
		f.Tasks[v].Wall, f.Tasks[v].After = wall, after(v)
	}
	return f
}

func nothing(int) []int {
	return nil
}

// previous is the task before v.
func previous(v int) []int {
	if v == 0 {
		return nil
	}
	return []int{v - 1}
}

// following is the task after v.
func following(v int) []int {
	if v == tasks-1 {
		return nil
	}
	return []int{v + 1}
}

func TestMostTasksApart(t *testing.T) {
	f := linked(most/tasks, nothing)
	sum := most / tasks * tasks
	want := told(listOf(tasks, always(most/tasks)), listOf(tasks, always(0)), []int{0}, upTo(tasks), [4]int{most / tasks, sum, sum, 1})
	check(t, "apart", f, want)
	f.Tasks[7].Wall += most - sum
	want.up.l[7] += most - sum
	want.length.n, want.path.l = want.up.l[7], []int{7}
	want.order.l = slices.Insert(slices.Delete(want.order.l, 7, 8), 0, 7)
	want.total.n, want.area.n = most, most
	check(t, "the sum is just a time", f, want)
	f.Tasks[tasks-1].Nodes = 2
	want.area, want.widest.n = number{e: api.ErrOver}, 2
	check(t, "one node more", f, want)
	f.Tasks[7].Wall++
	want.up.l[7]++
	want.length.n++
	want.total = number{e: api.ErrOver}
	check(t, "one more", f, want)
}

// The sums are far beyond 64 bits.
func TestMostOfAll(t *testing.T) {
	f := linked(most, nothing)
	for v := range f.Tasks {
		f.Tasks[v].Nodes = api.MaxNodes
	}
	over := number{e: api.ErrOver}
	want := told(listOf(tasks, always(most)), listOf(tasks, always(0)), []int{0}, upTo(tasks), [4]int{most, 0, 0, api.MaxNodes})
	want.total, want.area = over, over
	check(t, "apart", f, want)
	for v := range f.Tasks {
		f.Tasks[v].After = previous(v)
	}
	check(t, "in a row", f, unranked(answers{down: list{e: api.ErrOver}, total: over, area: over, widest: number{n: api.MaxNodes}}))
	for v := range f.Tasks {
		f.Tasks[v].Done = true
	}
	check(t, "all done", f, told(listOf(tasks, always(0)), listOf(tasks, always(0)), upTo(tasks), upTo(tasks), [4]int{}))
}

// In 64 bits this area would wrap around to 5.
func TestAreaDoesNotWrap(t *testing.T) {
	f := linked(most, nothing)
	f.Tasks = f.Tasks[:2049]
	for v := range f.Tasks {
		f.Tasks[v].Nodes = 8192
	}
	f.Tasks[2048].Nodes, f.Tasks[2048].Wall = 1, 1<<24+5
	wrapped := 0
	for _, x := range f.Tasks {
		wrapped += x.Nodes * x.Wall
	}
	if wrapped != 5 {
		t.Fatalf("the area wraps around to %d", wrapped)
	}
	if n, e := Area(f); n != 0 || e != api.ErrOver {
		t.Errorf("Area = %d, %d", n, e)
	}
}

func TestMostTasksInARow(t *testing.T) {
	const wall = most / tasks
	const sum = wall * tasks
	f := linked(wall, previous)
	before := func(v int) int { return v * wall }
	after := func(v int) int { return (tasks - v) * wall }
	want := told(listOf(tasks, after), listOf(tasks, before), upTo(tasks), upTo(tasks), [4]int{sum, sum, sum, 1})
	check(t, "a row", f, want)
	f.Tasks[0].Wall += most - sum
	for v := range tasks {
		want.down.l[v] += min(v, 1) * (most - sum)
	}
	want.up.l[0], want.length.n, want.total.n, want.area.n = most, most, most, most
	check(t, "just a time", f, want)
	f.Tasks[tasks-1].Wall++
	over := number{e: api.ErrOver}
	want.total, want.area = over, over
	check(t, "one more at the end", f, unranked(want))
	f.Tasks[tasks-1].Done = true
	want.up = list{l: listOf(tasks, func(v int) int { return after(v) - wall })}
	want.up.l[0] += most - sum
	want.path, want.order = list{l: upTo(tasks)}, list{l: upTo(tasks)}
	want.length, want.total, want.area = number{n: most - wall}, number{n: most - wall}, number{n: most - wall}
	check(t, "the end is done", f, want)
	f = linked(1, following)
	check(t, "a row that goes back", f, told(listOf(tasks, func(v int) int { return v + 1 }), listOf(tasks, func(v int) int { return tasks - 1 - v }), down(tasks), down(tasks), [4]int{tasks, tasks, tasks, 1}))
}

// Down of the last task is just a time, and then none any more.
func TestDownOfMostTasks(t *testing.T) {
	const wall = most / (tasks - 1)
	const sum = wall * (tasks - 1)
	f := linked(wall, previous)
	f.Tasks[5].Wall += most - sum
	l, e := Down(f)
	if e != api.OK || len(l) != tasks || l[tasks-1] != most || l[5] != 5*wall {
		t.Errorf("Down = %s, %d", short(l), e)
	}
	if l, e := Up(f); len(l) != 0 || e != api.ErrOver {
		t.Errorf("Up = %s, %d", short(l), e)
	}
	f.Tasks[tasks-2].Wall++
	if l, e := Down(f); len(l) != 0 || e != api.ErrOver {
		t.Errorf("one more: Down = %s, %d", short(l), e)
	}
}

// Each task waits for all before it: no workflow has more links.
func TestMostLinks(t *testing.T) {
	f := linked(2, upTo)
	up, before := listOf(tasks, func(v int) int { return 2 * (tasks - v) }), listOf(tasks, func(v int) int { return 2 * v })
	check(t, "all links", f, told(up, before, upTo(tasks), upTo(tasks), [4]int{2 * tasks, 2 * tasks, 2 * tasks, 1}))
	f.Tasks[0].After = []int{tasks - 1}
	check(t, "a cycle", f, refused(api.ErrCycle))
	f.Tasks = append(f.Tasks, task("more", 1))
	check(t, "one task too many", f, refused(api.ErrLong))
}

// All tasks but the first and the last wait for the first one, and the last one for them: very many ways are critical.
func TestMostWays(t *testing.T) {
	f := linked(3, func(v int) []int {
		switch v {
		case 0:
			return nil
		case tasks - 1:
			return upTo(v)[1:]
		}
		return []int{0}
	})
	up, before := listOf(tasks, always(6)), listOf(tasks, always(3))
	up[0], up[tasks-1], before[0], before[tasks-1] = 9, 3, 0, 6
	want := told(up, before, []int{0, 1, tasks - 1}, upTo(tasks), [4]int{9, 3 * tasks, 3 * tasks, 1})
	check(t, "a fork and a join", f, want)
	// Two tasks of each level wait for both of the level before, so that there are 2^2048 ways.
	f = linked(1, func(v int) []int { return upTo(v - v%2)[max(v-v%2-2, 0):] })
	level := func(v int) int { return v / 2 }
	want = told(listOf(tasks, func(v int) int { return tasks/2 - level(v) }), listOf(tasks, level),
		listOf(tasks/2, func(v int) int { return 2 * v }), upTo(tasks), [4]int{tasks / 2, tasks, tasks, 1})
	check(t, "levels", f, want)
}

// What is much larger than allowed only costs the time to look at it.
func TestMuchLargerThanAllowed(t *testing.T) {
	f := flowOf(many(1 << 16)...)
	check(t, "very many tasks", f, refused(api.ErrLong))
	f = flowOf(task("a", 1, upTo(1<<20)...))
	check(t, "after very many", f, refused(api.ErrArg))
	f = flowOf(slices.Repeat([]api.Task{task("a", most)}, 1<<18)...)
	check(t, "one name", f, refused(api.ErrTwice))
}
