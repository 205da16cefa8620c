package plan

import (
	"fmt"
	"slices"
	"testing"

	"timekeeper/api"
	"timekeeper/flow"
	"timekeeper/rank"
	"timekeeper/steps"
)

// The answers of this package, found by another way: time by time, and by asking all that a task waits for, however far behind.

// model is a workflow, and what is free at each time from 0 on. From the last one on it stays as it is.
type model struct {
	f    api.Flow
	free []int
}

// modelOf tells the free nodes of as many times as all tasks may need one after the other, from now on, behind the last step.
func modelOf(r request, starts []int) model {
	n := max(r.now, r.l[len(r.l)-1].At) + 2
	for v, t := range r.f.Tasks {
		n += t.Wall
		if v < len(starts) {
			n = max(n, starts[v]+t.Wall+1)
		}
	}
	free := make([]int, n)
	for at := range free {
		for _, s := range r.l {
			if s.At <= at {
				free[at] = s.Free
			}
		}
	}
	return model{r.f, free}
}

// steps are those of what is free.
func (m model) steps() []api.Step {
	var l []api.Step
	for at, n := range m.free {
		if at == 0 || n != m.free[at-1] {
			l = append(l, api.Step{At: at, Free: n})
		}
	}
	return l
}

// add makes so many more nodes free while t runs.
func (m model) add(t api.Task, start int, nodes int) {
	for at := range t.Wall {
		m.free[start+at] += nodes
	}
}

// fits reports whether t can run from then on.
func (m model) fits(t api.Task, start int) bool {
	return start+t.Wall <= len(m.free) && slices.Min(m.free[start:start+t.Wall]) >= t.Nodes
}

// before are the tasks that are not done, and that v waits for, over tasks that are done.
func (m model) before(v int) []int {
	var l []int
	for _, u := range m.f.Tasks[v].After {
		if m.f.Tasks[u].Done {
			l = append(l, m.before(u)...)
		} else {
			l = append(l, u)
		}
	}
	return l
}

// up is how long the longest way from v on takes.
func (m model) up(v int) int {
	up := 0
	for w, t := range m.f.Tasks {
		if slices.Contains(t.After, v) {
			up = max(up, m.up(w))
		}
	}
	if !m.f.Tasks[v].Done {
		up += m.f.Tasks[v].Wall
	}
	return up
}

// order is that of rank: of the order of dag, the first one with the greatest rank, again and again. Tasks that are done are left out.
func (m model) order() []int {
	var left []int
	for range m.f.Tasks {
		for v, t := range m.f.Tasks {
			isReady := !slices.ContainsFunc(t.After, func(u int) bool { return !slices.Contains(left, u) })
			if isReady && !slices.Contains(left, v) {
				left = append(left, v)
				break
			}
		}
	}
	var order []int
	for len(left) > 0 {
		first := 0
		for i, v := range left {
			if m.up(v) > m.up(left[first]) {
				first = i
			}
		}
		if v := left[first]; !m.f.Tasks[v].Done {
			order = append(order, v)
		}
		left = slices.Delete(left, first, first+1)
	}
	return order
}

// noStarts are the starts of tasks that have none yet.
func (m model) noStarts() []int {
	return slices.Repeat([]int{-1}, len(m.f.Tasks))
}

// ready is from when on v may start.
func (m model) ready(v int, now int, starts []int) int {
	for _, u := range m.before(v) {
		now = max(now, starts[u]+m.f.Tasks[u].Wall)
	}
	return now
}

// forward returns nil if there is not enough time.
func (m model) forward(now int, by int) []int {
	if now > by {
		return nil
	}
	starts := m.noStarts()
	for _, v := range m.order() {
		t := m.f.Tasks[v]
		start := m.ready(v, now, starts)
		for !m.fits(t, start) && start+t.Wall <= by && start < len(m.free) {
			start++
		}
		if start+t.Wall > by || start == len(m.free) {
			return nil
		}
		starts[v] = start
		m.add(t, start, -t.Nodes)
	}
	return starts
}

func (m model) backward(now int, by int) []int {
	if now > by {
		return nil
	}
	starts := m.noStarts()
	for _, v := range slices.Backward(m.order()) {
		t := m.f.Tasks[v]
		due := by
		for w := range m.f.Tasks {
			if starts[w] >= 0 && slices.Contains(m.before(w), v) {
				due = min(due, starts[w])
			}
		}
		start := due - t.Wall
		for start >= now && !m.fits(t, start) {
			start--
		}
		if start < now {
			return nil
		}
		starts[v] = start
		m.add(t, start, -t.Nodes)
	}
	return starts
}

// take takes the nodes of all tasks, and reports whether they are free.
func (m model) take(starts []int) bool {
	for v, t := range m.f.Tasks {
		if !t.Done {
			m.add(t, starts[v], -t.Nodes)
		}
	}
	return slices.Min(m.free) >= 0
}

// holds is asked for starts that are times, and for all of those times.
func (m model) holds(now int, by int, starts []int) bool {
	for v, t := range m.f.Tasks {
		if !t.Done && (starts[v] < m.ready(v, now, starts) || starts[v]+t.Wall > by) {
			return false
		}
	}
	return m.take(starts)
}

func (m model) pull(now int, starts []int) []int {
	starts = slices.Clone(starts)
	for _, v := range m.order() {
		t := m.f.Tasks[v]
		m.add(t, starts[v], t.Nodes)
		start := m.ready(v, now, starts)
		for !m.fits(t, start) {
			start++
		}
		starts[v] = start
		m.add(t, start, -t.Nodes)
	}
	return starts
}

// checkPlans asks all calls for what the model tells. It looks back from no time behind those that it knows.
func checkPlans(t *testing.T, r request) {
	t.Helper()
	if want := modelOf(r, nil).forward(r.now, r.by); want != nil {
		checkForward(t, r, want...)
	} else {
		checkNotForward(t, r, api.ErrLate)
		if starts := modelOf(r, nil).forward(r.now, most); starts == nil {
			checkNoOffer(t, r, api.ErrLate)
		} else {
			checkOffered(t, r, max(r.now, lastEnd(r.f, starts)))
		}
	}
	if r.by >= len(modelOf(r, nil).free) {
		return
	}
	if want := modelOf(r, nil).backward(r.now, r.by); want != nil {
		checkBackward(t, r, want...)
	} else {
		checkNotBackward(t, r, api.ErrLate)
	}
}

// checkStarts asks all calls for starts for what the model tells.
func checkStarts(t *testing.T, r request, starts []int) {
	t.Helper()
	m := modelOf(r, starts)
	isRoom := m.take(starts)
	if left, e := r.taken(starts); isRoom {
		checkTaken(t, r, starts, m.steps())
	} else if e != api.ErrRoom || len(left) > 0 {
		t.Errorf("%s: Taken of %v is %v, error %d", r, starts, left, e)
	}
	if got, want := r.holds(starts), modelOf(r, starts).holds(r.now, r.by, starts); got != want {
		t.Errorf("%s: Holds of %v is %v; asked for: %v", r, starts, got, want)
	}
	if !modelOf(r, starts).holds(r.now, most, starts) {
		if pulled, e := r.pull(starts); e != api.ErrArg || len(pulled) > 0 {
			t.Errorf("%s: Pull of %v is %v, error %d", r, starts, pulled, e)
		}
		return
	}
	m = modelOf(r, starts)
	m.take(starts)
	checkPulled(t, r, starts, m.pull(r.now, starts))
}

// kinds are tasks that differ in all that matters.
func kinds() []api.Task {
	return []api.Task{task("", 1, 1), task("", 2, 1), task("", 1, 2), task("", 2, 3), done(task("", 2, 2))}
}

// small are all workflows of n tasks of these kinds, each with all ways to wait for others that make no cycle.
func small(n int, kinds ...api.Task) []api.Flow {
	all := []api.Flow{flowOf()}
	for v := range n {
		var longer []api.Flow
		for _, f := range all {
			for _, t := range kinds {
				for links := range 1 << n {
					g := flow.Copy(f)
					t := t
					t.Name, t.After = fmt.Sprint("t", v), nil
					for u := range n {
						if links>>u&1 == 1 {
							t.After = append(t.After, u)
						}
					}
					g.Tasks = append(g.Tasks, t)
					longer = append(longer, g)
				}
			}
		}
		all = longer
	}
	return slices.DeleteFunc(all, func(f api.Flow) bool { return flow.Check(f) != api.OK })
}

// profiles are short ones, with none, one, two, or more free nodes for a while.
func profiles() [][]api.Step {
	return [][]api.Step{list(0, 2), list(0, 1), list(0, 3, 2, 1, 4, 2), list(0, 2, 1, 0, 3, 2), list(0, 1, 2, 2, 3, 1, 4, 4), list(0, 2, 4, 1), list(0, 0, 2, 3), list(0, 3, 3, 0)}
}

// All workflows of up to two tasks, and of three that have not as many kinds, on all of these profiles.
func TestAllSmallPlans(t *testing.T) {
	flows := slices.Concat(small(0), small(1, kinds()...), small(2, kinds()...), small(3, kinds()[1], kinds()[2], kinds()[4]))
	for _, f := range flows {
		for _, l := range profiles() {
			for _, now := range []int{0, 1} {
				for _, by := range []int{0, 2, 4, 6, 8} {
					checkPlans(t, request{f, l, now, by})
				}
			}
		}
	}
}

// eachStarts calls yield with all starts below n for the tasks that are not done.
func eachStarts(f api.Flow, n int, yield func(starts []int)) {
	starts := make([]int, len(f.Tasks))
	var set func(v int)
	set = func(v int) {
		if v == len(starts) {
			yield(starts)
			return
		}
		if starts[v] = -1; f.Tasks[v].Done {
			set(v + 1)
			return
		}
		for at := range n {
			starts[v] = at
			set(v + 1)
		}
	}
	set(0)
}

func TestAllSmallStarts(t *testing.T) {
	for _, f := range slices.Concat(small(1, kinds()...), small(2, kinds()...), small(3, kinds()[2], kinds()[4])) {
		for _, l := range profiles() {
			eachStarts(f, 6, func(starts []int) {
				checkStarts(t, request{f, l, 1, 6}, starts)
			})
		}
	}
}

// dice returns numbers below n, always the same ones for the same seed.
func dice(seed uint64) func(n int) int {
	return func(n int) int {
		seed = seed*6364136223846793005 + 1442695040888963407
		return int(seed>>33) % n
	}
}

// drawnFlow has n tasks, each pair of which waits for one another in one case of many, in a direction that the indexes do not tell.
func drawnFlow(roll func(n int) int, n, many, nodes, walls int) api.Flow {
	index := make([]int, n)
	for i := range index {
		k := roll(i + 1)
		index[i], index[k] = index[k], i
	}
	tasks := make([]api.Task, n)
	for i, v := range index {
		tasks[v] = task(fmt.Sprint("t", v), 1+roll(nodes), 1+roll(walls))
		tasks[v].Done = roll(4) == 0
		for k := range i {
			if roll(many) == 0 {
				tasks[v].After = append(tasks[v].After, index[k])
			}
		}
		slices.Sort(tasks[v].After)
	}
	return flowOf(tasks...)
}

// drawnProfile has up to n steps within these times, of up to so many free nodes.
func drawnProfile(roll func(n int) int, n, times, free int) []api.Step {
	l := list(0, roll(free+1))
	for range n {
		l = append(l, list(roll(times), roll(free+1))...)
	}
	return steps.Tidy(append(l, list(times, free)...)...)
}

func TestDrawnPlans(t *testing.T) {
	roll := dice(12)
	for range 4000 {
		nodes, times := 1+roll(5), 1+roll(30)
		f := drawnFlow(roll, roll(8), 1+roll(5), nodes, 1+roll(9))
		r := request{f, drawnProfile(roll, roll(9), times, nodes), roll(times), roll(3 * times)}
		checkPlans(t, r)
		checkPlans(t, r.until(roll(60)))
		starts, e := r.backward()
		if e != api.OK {
			continue
		}
		checkStarts(t, r, starts)
		// What is late by some time can be pulled as well, and what is not may break something.
		for v := range starts {
			later := slices.Clone(starts)
			if !f.Tasks[v].Done {
				later[v] += roll(20)
			}
			checkStarts(t, r, later)
		}
	}
}

// Starts that are kept, but wide apart, so that much can be pulled.
func TestDrawnPulls(t *testing.T) {
	roll := dice(120)
	for range 3000 {
		nodes, times := 1+roll(5), 1+roll(30)
		f := drawnFlow(roll, 1+roll(7), 1+roll(5), nodes, 1+roll(9))
		r := request{f, drawnProfile(roll, roll(9), times, nodes), roll(times), most}
		starts := modelOf(r, nil).noStarts()
		at := times
		for _, v := range modelOf(r, nil).order() {
			at += roll(9)
			starts[v] = at
			at += f.Tasks[v].Wall
		}
		checkStarts(t, r, starts)
		pulled, _ := r.pull(starts)
		for v := range starts {
			if pulled[v] > starts[v] {
				t.Errorf("%s: Pull of %v is %v", r, starts, pulled)
			}
		}
		if first, _ := r.forward(); len(f.Tasks) == 1 && !slices.Equal(first, pulled) {
			t.Errorf("%s: Pull of %v is %v, and Forward is %v", r, starts, pulled, first)
		}
	}
}

// shifted is r so much later. What is free ahead of all is the same as at the first time.
func (r request) shifted(times int) request {
	l := slices.Clone(r.l)
	for i := range l[1:] {
		l[i+1].At += times
	}
	return request{r.f, l, r.now + times, r.by + times}
}

func later(starts []int, times int) []int {
	l := slices.Clone(starts)
	for v := range l {
		if l[v] >= 0 {
			l[v] += times
		}
	}
	return l
}

// Everything is the same at any other time, up to the last one.
func TestDrawnPlansAtGreatTimes(t *testing.T) {
	roll := dice(1200)
	for range 2000 {
		nodes, times := 1+roll(5), 1+roll(30)
		f := drawnFlow(roll, 1+roll(7), 1+roll(5), nodes, 1+roll(9))
		r := request{f, drawnProfile(roll, roll(9), times, nodes), roll(times), roll(3 * times)}
		for _, shift := range []int{1, 1 << 32, most - max(r.by, times) - roll(9), most - max(r.by, times)} {
			other := r.shifted(shift)
			if starts, e := r.forward(); e == api.OK {
				checkForward(t, other, later(starts, shift)...)
			} else {
				checkNotForward(t, other, e)
			}
			if starts, e := r.backward(); e == api.OK {
				checkBackward(t, other, later(starts, shift)...)
				pulled, _ := r.pull(starts)
				checkPulled(t, other, later(starts, shift), later(pulled, shift))
			} else {
				checkNotBackward(t, other, e)
			}
		}
	}
}

// P5: what is refused is offered for a later time, and accepted for that and for all later ones, and for no earlier one; and on all nodes there is enough time if all Walls come one after the other.
func TestDrawnOffers(t *testing.T) {
	roll := dice(55)
	for range 2000 {
		nodes, times := 1+roll(5), 1+roll(30)
		f := drawnFlow(roll, roll(8), 1+roll(5), nodes, 1+roll(9))
		r := request{f, drawnProfile(roll, roll(9), times, nodes), roll(times), 0}
		offer, e := r.offer()
		if e != api.OK || offer < r.now {
			t.Fatalf("%s: Offer is %d, error %d", r, offer, e)
		}
		for by := range offer + 9 {
			starts, n, e := r.until(by).admit()
			switch {
			case by < offer && (e != api.ErrLate || n != offer || len(starts) > 0):
				t.Errorf("%s: %d is offered, but by %d Admit is %v by %d, error %d", r, offer, by, starts, n, e)
			case by >= offer && (e != api.OK || n != offer || !r.until(by).holds(starts)):
				t.Errorf("%s: %d is offered, but by %d Admit is %v by %d, error %d", r, offer, by, starts, n, e)
			}
		}
		sum, _ := rank.Total(f)
		r.l = list(0, nodes)
		if starts, n, e := r.until(r.now + sum).admit(); e != api.OK || n > r.now+sum || !r.until(n).holds(starts) {
			t.Errorf("%s: all nodes are free, and by %d Admit is %v by %d, error %d", r, r.now+sum, starts, n, e)
		}
		// One node less than the widest task needs.
		if widest, _ := rank.Widest(f); widest > 0 {
			r.l = list(0, widest-1)
			checkNoOffer(t, r, api.ErrLate)
		}
	}
}

// requestOfBytes has a task for each four bytes of what is behind the first six, which tell now, by, and a profile.
func requestOfBytes(b []byte) request {
	if len(b) < 6 {
		return on(list(0, len(b)), 0, len(b))
	}
	r := request{flowOf(), list(0, int(b[0]%8), 1+int(b[1]), int(b[2]%8), 2+int(b[1])+int(b[3]), int(b[4]%8)), int(b[5] % 16), int(b[5]) / 2}
	r.l = steps.Tidy(r.l...)
	b = b[6:]
	n := min(len(b)/4, 7)
	for v := range n {
		x := b[4*v : 4*v+4]
		t := task(fmt.Sprint("t", v), 1+int(x[0]%8), 1+int(x[1]%16))
		t.Done = x[2]&1 == 1
		for u := range n {
			if x[3]>>u&1 == 1 && u != v {
				t.After = append(t.After, u)
			}
		}
		r.f.Tasks = append(r.f.Tasks, t)
	}
	return r
}

func FuzzPlan(f *testing.F) {
	f.Add([]byte{3, 0, 3, 0, 3, 74, 1, 2, 0, 0, 1, 4, 0, 0, 0, 1, 0, 3})
	f.Add([]byte{4, 9, 1, 9, 4, 200, 1, 7, 0, 0, 1, 9, 1, 1, 0, 1, 0, 2})
	f.Add([]byte{2, 3, 0, 5, 4, 33, 1, 3, 0, 2, 1, 4, 0, 4, 0, 1, 0, 0, 3, 1, 0, 7})
	f.Fuzz(func(t *testing.T, b []byte) {
		r := requestOfBytes(b)
		if e := flow.Check(r.f); e != api.OK {
			checkNone(t, r, e)
			return
		}
		checkPlans(t, r)
		starts, e := r.until(200).backward()
		if e != api.OK {
			return
		}
		checkStarts(t, r, starts)
		for v, x := range b {
			if v < len(starts) && starts[v] >= 0 {
				starts[v] = int(x)
			}
		}
		checkStarts(t, r, starts)
	})
}
