package life

import (
	"slices"

	"timekeeper/api"
	"timekeeper/dag"
	"timekeeper/flow"
)

// Check returns ErrArg for what is no life of f.
func Check(f api.Flow, x api.Life) api.Errno {
	if e := flow.Check(f); e != api.OK {
		return e
	}
	if len(x.State) != len(f.Tasks) || len(x.Fails) != len(f.Tasks) {
		return api.ErrArg
	}
	if !areAllowed(f, x) || !areDead(f, x) || !isWhole(x) {
		return api.ErrArg
	}
	return api.OK
}

// checkTask returns the errors of a change to v, which has to be in that state.
func checkTask(f api.Flow, x api.Life, v int, state int) api.Errno {
	if e := Check(f, x); e != api.OK {
		return e
	}
	if v < 0 || v >= len(f.Tasks) {
		return api.ErrNone
	}
	if x.State[v] != state {
		return api.ErrState
	}
	return api.OK
}

// areAllowed reports whether each task may have its state and its fails, as the tasks that it waits for stand.
func areAllowed(f api.Flow, x api.Life) bool {
	allowed := true
tasks:
	for v, t := range f.Tasks {
		allowed = mayFail(t, x.State[v], x.Fails[v])
		switch x.State[v] {
		case api.Waiting, api.Dead, api.Cancelled:
			allowed = allowed && !t.Done
		case api.Running, api.Failed:
			allowed = allowed && !t.Done && isFree(f, x, v)
		case api.Succeeded:
			// What was done from the beginning has not waited for anything.
			allowed = allowed && (t.Done || isFree(f, x, v))
		default:
			allowed = false
		}
		if !allowed {
			break tasks
		}
	}
	return allowed
}

// mayFail reports whether a task in that state may have failed so often.
func mayFail(t api.Task, state int, fails int) bool {
	if t.Done {
		return fails == 0
	}
	if state == api.Failed {
		return fails == t.Retry+1
	}
	return 0 <= fails && fails <= t.Retry
}

// areDead reports whether just those tasks are dead that wait for a failed one.
func areDead(f api.Flow, x api.Life) bool {
	return slices.Equal(standing(x, api.Dead), behind(f, standing(x, api.Failed)...))
}

// behind returns the tasks that wait for one of these, directly or via tasks that are not done, in ascending order.
func behind(f api.Flow, tasks ...int) []int {
	after := flow.After(f)
	for v, t := range f.Tasks {
		if t.Done {
			// No path leads to it, so that none leads through it.
			after[v] = nil
		}
	}
	// It is a graph, as that of f is one, which has all of these edges.
	g, _ := dag.New(after)
	return g.Below(tasks...)
}

// isWhole reports whether a life that was cancelled was cancelled as a whole.
func isWhole(x api.Life) bool {
	return len(standing(x, api.Cancelled)) == 0 || len(open(x)) == 0
}
