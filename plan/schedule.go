package plan

import (
	"iter"
	"slices"

	"timekeeper/api"
	"timekeeper/fit"
)

// schedule is the starts of tasks, as far as they are known, on the profile that these tasks have left.
type schedule struct {
	profile
	tasks  []api.Task
	order  []int // each task behind all those that it waits for
	starts []int
}

// finder tells when a request fits: fit.First, or fit.Last.
type finder func(l []api.Step, w api.Window, nodes int, long int) (int, api.Errno)

// run gives a start to one task after the other, each within its window.
func (s *schedule) run(windows iter.Seq2[int, api.Window], find finder) ([]int, api.Errno) {
	e := api.OK
tasks:
	for v, w := range windows {
		if e = s.place(v, w, find); e != api.OK {
			break tasks
		}
	}
	if e != api.OK {
		return nil, e
	}
	return s.starts, api.OK
}

// place gives task v the start that is found within w, and takes its nodes.
func (s *schedule) place(v int, w api.Window, find finder) api.Errno {
	t := s.tasks[v]
	start, e := find(s.free, w, t.Nodes, t.Wall)
	if e != api.OK {
		return api.ErrLate
	}
	s.starts[v] = start
	return s.take(t, start)
}

// pull moves one task after the other to the first time at which it fits.
func (s *schedule) pull(now int) ([]int, api.Errno) {
	for v, w := range s.forwards(now, api.MaxTime) {
		t, start := s.tasks[v], s.starts[v]
		w.By = start + t.Wall
		if e := s.give(t, start); e != api.OK {
			return nil, e
		}
		if e := s.place(v, w, fit.First); e != api.OK {
			return nil, e
		}
	}
	return s.starts, api.OK
}

// forwards goes through the tasks that are not done, each behind those that it waits for, and with the window from their ends on: a task needs its start by the time that the next one is asked for.
func (s *schedule) forwards(now int, by int) iter.Seq2[int, api.Window] {
	return func(yield func(int, api.Window) bool) {
		ends := make([]int, len(s.tasks))
		lastEnd := func(tasks []int) int {
			last := now
			for _, u := range tasks {
				last = max(last, ends[u])
			}
			return last
		}
		for _, v := range s.order {
			t := s.tasks[v]
			// What waits for a done task waits for those that this one waits for.
			ends[v] = lastEnd(t.After)
			if t.Done {
				continue
			}
			if !yield(v, api.Window{From: ends[v], By: by}) {
				return
			}
			ends[v] = s.starts[v] + t.Wall
		}
	}
}

// backwards goes through the tasks that are not done, each behind those that wait for it, and with the window up to their starts: a task needs its start by the time that the next one is asked for.
func (s *schedule) backwards(now int, by int) iter.Seq2[int, api.Window] {
	return func(yield func(int, api.Window) bool) {
		dues := slices.Repeat([]int{by}, len(s.tasks))
		for _, v := range slices.Backward(s.order) {
			t := s.tasks[v]
			if !t.Done {
				if !yield(v, api.Window{From: now, By: dues[v]}) {
					return
				}
				dues[v] = s.starts[v]
			}
			// What a done task waits for has to be done by when what waits for that starts.
			for _, u := range t.After {
				dues[u] = min(dues[u], dues[v])
			}
		}
	}
}
