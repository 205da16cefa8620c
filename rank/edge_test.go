package rank

import (
	"testing"

	"timekeeper/api"
)

// The greatest rank is just a time, and then just none any more, wherever one more is added.
func TestUpAtTheLimit(t *testing.T) {
	check(t, "a row", flowOf(task("a", most-5), task("b", 3, 0), task("c", 2, 1)),
		told([]int{most, 5, 2}, []int{0, most - 5, most - 2}, []int{0, 1, 2}, []int{0, 1, 2}, [4]int{most, most, most, 1}))
	over := answers{
		down: list{l: []int{0, most - 4, most - 1}}, total: number{e: api.ErrOver}, area: number{e: api.ErrOver}, widest: number{n: 1},
	}
	check(t, "one more at the begin", flowOf(task("a", most-4), task("b", 3, 0), task("c", 2, 1)), unranked(over))
	over.down.l[1]--
	check(t, "one more between", flowOf(task("a", most-5), task("b", 4, 0), task("c", 2, 1)), unranked(over))
	over.down.l[2]--
	check(t, "one more at the end", flowOf(task("a", most-5), task("b", 3, 0), task("c", 3, 1)), unranked(over))
	check(t, "one more at the end, done", flowOf(task("a", most-5), task("b", 3, 0), done(task("c", 3, 1))),
		told([]int{most - 2, 3, 0}, []int{0, most - 5, most - 2}, []int{0, 1, 2}, []int{0, 1, 2}, [4]int{most - 2, most - 2, most - 2, 1}))
}

// One rank that is none is enough, on a way that is not the first one in f, and behind tasks that are named later.
func TestUpOverOnOneWay(t *testing.T) {
	f := flowOf(task("a", 1), task("b", 1, 0), task("c", 2, 3), task("d", most-1), task("e", 7))
	over := answers{down: list{l: []int{0, 1, most - 1, 0, 0}}, total: number{e: api.ErrOver}, area: number{e: api.ErrOver}, widest: number{n: 1}}
	check(t, "one way", f, unranked(over))
	f.Tasks[2].Wall = 1
	// Now each rank is a time, but all together are none.
	want := told([]int{2, 1, 1, most, 7}, []int{0, 1, most - 1, 0, 0}, []int{3, 2}, []int{3, 4, 0, 1, 2}, [4]int{most, 0, 0, 1})
	want.total.e, want.area.e = api.ErrOver, api.ErrOver
	check(t, "just a time", f, want)
	f.Tasks[3].Wall = most
	f.Tasks[2].Done = true
	want = told([]int{2, 1, 0, most, 7}, []int{0, 1, most, 0, 0}, []int{3, 2}, []int{3, 4, 0, 1, 2}, [4]int{most, 0, 0, 1})
	want.total.e, want.area.e = api.ErrOver, api.ErrOver
	check(t, "just a time with a done one behind", f, want)
}

// Down leaves out the last task of a way: it may be a time where Up is none.
func TestDownAtTheLimit(t *testing.T) {
	over := number{e: api.ErrOver}
	check(t, "just a time", flowOf(task("a", most-1), task("b", 1, 0), task("c", most, 1)),
		unranked(answers{down: list{l: []int{0, most - 1, most}}, total: over, area: over, widest: number{n: 1}}))
	check(t, "one more", flowOf(task("a", most-1), task("b", 2, 0), task("c", 1, 1)),
		unranked(answers{down: list{e: api.ErrOver}, total: over, area: over, widest: number{n: 1}}))
	check(t, "one more at the begin", flowOf(task("a", most), task("b", 1, 0), task("c", 1, 1)),
		unranked(answers{down: list{e: api.ErrOver}, total: over, area: over, widest: number{n: 1}}))
	check(t, "the greatest Wall twice", flowOf(task("a", most), task("b", most, 0)),
		unranked(answers{down: list{l: []int{0, most}}, total: over, area: over, widest: number{n: 1}}))
	check(t, "a done one still has a Down", flowOf(task("a", most), task("b", 1, 0), done(task("c", 1, 1))),
		unranked(answers{down: list{e: api.ErrOver}, total: over, area: over, widest: number{n: 1}}))
	check(t, "the short way is a time", flowOf(task("a", 1), task("b", most), task("c", 1, 1), task("d", 1, 0, 2)),
		unranked(answers{down: list{e: api.ErrOver}, total: over, area: over, widest: number{n: 1}}))
	want := told([]int{most, 0, 0}, []int{0, most, most}, []int{0, 1, 2}, []int{0, 1, 2}, [4]int{most, most, most, 1})
	check(t, "behind a done one", flowOf(task("a", most), done(task("b", most, 0)), done(task("c", most, 1))), want)
	want = told([]int{most, 1, 1}, []int{0, most - 1, most - 1}, []int{0, 1, 2}, []int{0, 1, 2}, [4]int{most, most, most, 1})
	check(t, "a done one between", flowOf(task("a", most-1), done(task("b", most, 0)), task("c", 1, 1)), want)
}

func TestTotalAtTheLimit(t *testing.T) {
	f := flowOf(task("a", most-6), task("b", 4), done(task("c", most)), task("d", 2))
	want := told([]int{most - 6, 4, 0, 2}, []int{0, 0, 0, 0}, []int{0}, []int{0, 1, 3, 2}, [4]int{most - 6, most, most, 1})
	check(t, "just a time", f, want)
	for _, v := range []int{0, 1, 3} {
		f.Tasks[v].Wall++
		want.up.l[v]++
		want.length.n, want.total, want.area = want.up.l[0], number{e: api.ErrOver}, number{e: api.ErrOver}
		check(t, "one more", f, want)
		f.Tasks[v].Wall--
		want.up.l[v]--
	}
	f.Tasks[0].Done = true
	check(t, "the longest is done", f, told([]int{0, 4, 0, 2}, []int{0, 0, 0, 0}, []int{1}, []int{1, 3, 0, 2}, [4]int{4, 6, 6, 1}))
}

func TestAreaAtTheLimit(t *testing.T) {
	// 3 goes into MaxTime.
	f := flowOf(wide("a", 3, most/3))
	want := told([]int{most / 3}, []int{0}, []int{0}, []int{0}, [4]int{most / 3, most / 3, most, 3})
	check(t, "just a time", f, want)
	f.Tasks = append(f.Tasks, done(wide("b", api.MaxNodes, most)))
	want = told([]int{most / 3, 0}, []int{0, 0}, []int{0}, []int{0, 1}, [4]int{most / 3, most / 3, most, 3})
	check(t, "just a time, with a done one", f, want)
	f = flowOf(wide("a", 3, most/3), wide("b", 1, 1))
	want = told([]int{most / 3, 1}, []int{0, 0}, []int{0}, []int{0, 1}, [4]int{most / 3, most/3 + 1, 0, 3})
	want.area.e = api.ErrOver
	check(t, "one more task", f, want)
	f = flowOf(wide("a", 2, most/2+1))
	want = told([]int{most/2 + 1}, []int{0}, []int{0}, []int{0}, [4]int{most/2 + 1, most/2 + 1, 0, 2})
	want.area.e = api.ErrOver
	check(t, "one task is too much by one", f, want)
	f = flowOf(wide("a", 2, most/2), wide("b", 1, 1))
	want = told([]int{most / 2, 1}, []int{0, 0}, []int{0}, []int{0, 1}, [4]int{most / 2, most/2 + 1, most, 2})
	check(t, "two tasks, just a time", f, want)
	f.Tasks[1].Nodes = 2
	want.area = number{e: api.ErrOver}
	check(t, "one node more", f, want)
	f = flowOf(wide("a", 1, 5), wide("b", api.MaxNodes, most))
	want = told([]int{5, most}, []int{0, 0}, []int{1}, []int{1, 0}, [4]int{most, 0, 0, api.MaxNodes})
	want.total.e, want.area.e = api.ErrOver, api.ErrOver
	check(t, "the greatest Nodes and Wall", f, want)
}
