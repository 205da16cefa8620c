package plan

import (
	"cmp"
	"slices"

	"timekeeper/api"
	"timekeeper/steps"
)

// profile is what is free beside the tasks that have been placed on it.
type profile struct {
	free []api.Step
}

// take makes the nodes of t not free while it runs.
func (p *profile) take(t api.Task, start int) api.Errno {
	return p.add(t, start, -t.Nodes)
}

// give makes them free again.
func (p *profile) give(t api.Task, start int) api.Errno {
	return p.add(t, start, t.Nodes)
}

// add makes so many more nodes free. After an error there is no profile any more.
func (p *profile) add(t api.Task, start int, nodes int) api.Errno {
	free, e := steps.Add(p.free, start, start+t.Wall, nodes)
	p.free = free
	return e
}

// without returns what all tasks together leave of l: fewer than no nodes where too many are needed, and maybe more steps than a profile has. Taken one by one, the tasks might need more steps than they do together.
func without(l []api.Step, tasks []api.Task, starts []int) []api.Step {
	changes := make([]api.Step, 0, len(l)+2*len(tasks))
	change := func(at int, nodes int) {
		changes = append(changes, api.Step{At: at, Free: nodes})
	}
	free := 0
	for _, s := range l {
		change(s.At, s.Free-free)
		free = s.Free
	}
	for v, t := range tasks {
		if !t.Done {
			change(starts[v], -t.Nodes)
			change(starts[v]+t.Wall, t.Nodes)
		}
	}
	slices.SortFunc(changes, func(a api.Step, b api.Step) int { return cmp.Compare(a.At, b.At) })
	for i := range changes[1:] {
		changes[i+1].Free += changes[i].Free
	}
	// Of several changes at a time, the last one has the sum of all.
	return steps.Tidy(changes...)
}
