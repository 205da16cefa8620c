package book

import (
	"cmp"
	"fmt"
	"slices"
	"testing"

	"timekeeper/api"
	"timekeeper/steps"
)

// The answers of this package, found by another way: a model has all that was done to the nodes, and looks at each time at which something may change, or at each one there is.

// model has reservations in any order, and in the order in which they came all outages, as slots without numbers.
type model struct {
	nodes int
	held  []api.Slot
	outs  []api.Slot
}

// includes reports whether t is a time of s.
func includes(s api.Slot, t int) bool {
	return s.From <= t && t < s.To
}

// service looks at each outage: as many nodes as it takes are gone, or all.
func (m model) service(t int) int {
	n := m.nodes
	for _, s := range m.outs {
		if includes(s, t) {
			n = max(n-s.Nodes, 0)
		}
	}
	return n
}

func (m model) reserved(t int) int {
	n := 0
	for _, s := range m.held {
		if includes(s, t) {
			n += s.Nodes
		}
	}
	return n
}

func (m model) free(t int) int {
	return m.service(t) - m.reserved(t)
}

// times are all times at which the number of free nodes may change.
func (m model) times() []int {
	l := []int{0}
	for _, s := range append(slices.Clone(m.held), m.outs...) {
		l = append(l, s.From, s.To)
	}
	slices.Sort(l)
	return slices.Compact(l)
}

// profile has a step at each of these times at which n tells another number.
func (m model) profile(n func(t int) int) []api.Step {
	var l []api.Step
	for _, t := range m.times() {
		if k := len(l); k == 0 || l[k-1].Free != n(t) {
			l = append(l, api.Step{At: t, Free: n(t)})
		}
	}
	return l
}

func (m model) index(id int) int {
	return slices.IndexFunc(m.held, func(s api.Slot) bool { return s.ID == id })
}

func (m model) isValid(s api.Slot) bool {
	return s.ID > 0 && s.From >= 0 && s.From < s.To && s.To <= most && s.Nodes > 0 && s.Nodes <= m.nodes
}

// isCrowded reports whether at some time more nodes are reserved than are in service, and at which.
func (m model) isCrowded() (int, bool) {
	l := m.times()
	if i := slices.IndexFunc(l, func(t int) bool { return m.free(t) < 0 }); i >= 0 {
		return l[i], true
	}
	return 0, false
}

// without is the model without reservation i.
func (m model) without(i int) model {
	m.held = slices.Delete(slices.Clone(m.held), i, i+1)
	return m
}

// with is the model with one reservation more.
func (m model) with(s api.Slot) model {
	m.held = append(slices.Clone(m.held), s)
	return m
}

func (m model) take(s api.Slot) (model, api.Errno) {
	switch {
	case !m.isValid(s):
		return m, api.ErrArg
	case m.index(s.ID) >= 0:
		return m, api.ErrTwice
	case len(m.held) >= api.MaxSlots:
		return m, api.ErrLong
	}
	if _, crowded := m.with(s).isCrowded(); crowded {
		return m, api.ErrRoom
	}
	return m.with(s), api.OK
}

func (m model) remove(l []int) (model, api.Errno) {
	other := m
	for i, id := range l {
		if m.index(id) < 0 || slices.Contains(l[:i], id) {
			return m, api.ErrNone
		}
		other = other.without(other.index(id))
	}
	return other, api.OK
}

func (m model) cut(id, to int) (model, api.Errno) {
	i := m.index(id)
	switch {
	case i < 0:
		return m, api.ErrNone
	case to < 0 || to > most || to > m.held[i].To:
		return m, api.ErrArg
	}
	s := m.held[i]
	s.To = to
	if to <= s.From {
		return m.without(i), api.OK
	}
	return m.without(i).with(s), api.OK
}

func (m model) move(id, from int) (model, api.Errno) {
	i := m.index(id)
	if i < 0 {
		return m, api.ErrNone
	}
	s := m.held[i]
	s.From, s.To = from, from+s.To-s.From
	// The sum of two great numbers may wrap around.
	if from > most || !m.isValid(s) {
		return m, api.ErrArg
	}
	if _, crowded := m.without(i).with(s).isCrowded(); crowded {
		return m, api.ErrRoom
	}
	return m.without(i).with(s), api.OK
}

// greatest is the index of the reservation with the greatest number that includes one of the times at which there are too many.
func (m model) greatest() int {
	best := -1
	for _, t := range m.times() {
		for i, s := range m.held {
			if m.free(t) < 0 && includes(s, t) && (best < 0 || s.ID > m.held[best].ID) {
				best = i
			}
		}
	}
	return best
}

func (m model) out(from, to, k int) (model, []int, api.Errno) {
	if !m.isValid(api.Slot{ID: 1, From: from, To: to, Nodes: k}) {
		return m, nil, api.ErrArg
	}
	other := m
	other.outs = append(slices.Clone(m.outs), api.Slot{From: from, To: to, Nodes: k})
	if len(other.profile(other.service)) > 1000 {
		return m, nil, api.ErrLong
	}
	var ids []int
	for {
		if _, crowded := other.isCrowded(); !crowded {
			break
		}
		i := other.greatest()
		ids = append(ids, other.held[i].ID)
		other = other.without(i)
	}
	slices.Sort(ids)
	return other, ids, api.OK
}

// call is what a book and a model are asked for: by its kind some of the numbers are used.
type call struct {
	kind            string
	id, from, to, k int
	l               []int
}

func (c call) String() string {
	switch c.kind {
	case "Take":
		return fmt.Sprintf("Take(%d, %d, %d, %d)", c.id, c.from, c.to, c.k)
	case "Free":
		return fmt.Sprintf("Free(%v)", c.l)
	case "Cut":
		return fmt.Sprintf("Cut(%d, %d)", c.id, c.to)
	case "Move":
		return fmt.Sprintf("Move(%d, %d)", c.id, c.from)
	}
	return fmt.Sprintf("Out(%d, %d, %d)", c.from, c.to, c.k)
}

func (c call) slot() api.Slot {
	return api.Slot{ID: c.id, From: c.from, To: c.to, Nodes: c.k}
}

func (c call) ofBook(b *Book) ([]int, api.Errno) {
	switch c.kind {
	case "Take":
		return nil, b.Take(c.slot())
	case "Free":
		return nil, b.Free(c.l...)
	case "Cut":
		return nil, b.Cut(c.id, c.to)
	case "Move":
		return nil, b.Move(c.id, c.from)
	}
	return b.Out(c.from, c.to, c.k)
}

func (c call) ofModel(m model) (model, []int, api.Errno) {
	var e api.Errno
	switch c.kind {
	case "Take":
		m, e = m.take(c.slot())
	case "Free":
		m, e = m.remove(c.l)
	case "Cut":
		m, e = m.cut(c.id, c.to)
	case "Move":
		m, e = m.move(c.id, c.from)
	default:
		return m.out(c.from, c.to, c.k)
	}
	return m, nil, e
}

// both is a book, a model that should tell the same, and what was done to them.
type both struct {
	b    *Book
	m    model
	done []call
}

func newBoth(t *testing.T, nodes int) both {
	t.Helper()
	return both{bookOf(t, nodes), model{nodes: nodes}, nil}
}

// do returns what has become of the two, and leaves these as they are. It reports whether the call had no error.
func (x both) do(t *testing.T, c call) (both, bool) {
	t.Helper()
	next := both{b: x.b.Copy(), done: append(slices.Clone(x.done), c)}
	got, e := c.ofBook(next.b)
	m, want, wantE := c.ofModel(x.m)
	next.m = m
	if !slices.Equal(got, want) || e != wantE {
		t.Errorf("%v: %v, error %d; asked for: %v, error %d", next.done, got, e, want, wantE)
	}
	next.check(t)
	return next, wantE == api.OK
}

// check asks the book for what the model tells.
func (x both) check(t *testing.T) {
	t.Helper()
	held := slices.Clone(x.m.held)
	slices.SortFunc(held, func(s, u api.Slot) int { return cmp.Compare(s.ID, u.ID) })
	free := x.m.profile(x.m.free)
	if got := stateOf(x.b); !got.isSame(state{held, free}) || steps.Check(got.steps) != api.OK {
		t.Errorf("%v: %v; asked for: %v", x.done, got, state{held, free})
	}
	for _, s := range held {
		if got, ok := x.b.Get(s.ID); got != s || !ok {
			t.Errorf("%v: Get of %d is %v, %v; asked for: %v", x.done, s.ID, got, ok, s)
		}
		if got, ok := x.b.Get(s.ID + 1); ok != (x.m.index(s.ID+1) >= 0) {
			t.Errorf("%v: Get of %d is %v, %v", x.done, s.ID+1, got, ok)
		}
	}
}

// checkTimes looks at each of the times 0 to n-1: the nodes that are free, out of service, and reserved are all nodes.
func (x both) checkTimes(t *testing.T, n int) {
	t.Helper()
	l := x.b.Steps()
	for at := range n {
		reserved := 0
		for _, s := range x.b.Slots() {
			if includes(s, at) {
				reserved += s.Nodes
			}
		}
		out := x.m.nodes - x.m.service(at)
		if free := steps.At(l, at); free < 0 || free+out+reserved != x.m.nodes {
			t.Errorf("%v: at %d %d are free, %d out, and %d reserved of %d", x.done, at, free, out, reserved, x.m.nodes)
		}
	}
}

// takes are all reservations within these times, of any number of nodes.
func takes(id, times, nodes int) []call {
	var l []call
	for from := range times {
		for to := from + 1; to <= times; to++ {
			for k := 1; k <= nodes; k++ {
				l = append(l, call{kind: "Take", id: id, from: from, to: to, k: k})
			}
		}
	}
	return l
}

func outages(times, nodes int) []call {
	l := takes(0, times, nodes)
	for i := range l {
		l[i].kind = "Out"
	}
	return l
}

// changes are all ways to free, cut or move one of these reservations, or to free two.
func changes(times int, ids ...int) []call {
	var l []call
	for _, id := range ids {
		l = append(l, call{kind: "Free", l: []int{id}})
		for _, other := range ids {
			l = append(l, call{kind: "Free", l: []int{id, other}})
		}
		for at := -1; at <= times+1; at++ {
			l = append(l, call{kind: "Cut", id: id, to: at}, call{kind: "Move", id: id, from: at})
		}
	}
	return l
}

// Two reservations, and anything that is done to them, and then to what they have become.
func TestAllSmallBooks(t *testing.T) {
	const times, nodes = 3, 2
	for _, first := range takes(2, times, nodes) {
		one, _ := newBoth(t, nodes).do(t, first)
		for _, second := range takes(1, times, nodes) {
			two, ok := one.do(t, second)
			if !ok {
				continue
			}
			for _, c := range slices.Concat(changes(times, 1, 2, 3), takes(3, times, nodes), outages(times, nodes)) {
				three, _ := two.do(t, c)
				three.checkTimes(t, times+2)
				for _, last := range outages(times, nodes) {
					four, _ := three.do(t, last)
					four.checkTimes(t, times+2)
				}
			}
		}
	}
}

// Three reservations, two outages, and a change.
func TestAllOutagesOfThree(t *testing.T) {
	const times, nodes = 2, 3
	var books []both
	for _, first := range takes(5, times, nodes) {
		one, _ := newBoth(t, nodes).do(t, first)
		for _, second := range takes(3, times, nodes) {
			two, ok := one.do(t, second)
			if !ok {
				continue
			}
			for _, third := range takes(4, times, nodes) {
				if three, ok := two.do(t, third); ok {
					books = append(books, three)
				}
			}
		}
	}
	for _, x := range books {
		for _, c := range outages(times, nodes) {
			out, _ := x.do(t, c)
			out.checkTimes(t, times+2)
			for _, c := range slices.Concat(outages(times, nodes), changes(times, 3, 5)) {
				last, _ := out.do(t, c)
				last.checkTimes(t, times+2)
			}
		}
	}
}

// dice returns numbers below n, always the same ones for the same seed.
func dice(seed uint64) func(n int) int {
	return func(n int) int {
		seed = seed*6364136223846793005 + 1442695040888963407
		return int(seed>>33) % n
	}
}

// drawn is a call with numbers that are mostly right; at answers times that may be no such.
func drawn(roll func(n int) int, nodes int, at func() int) call {
	c := call{id: 1 + roll(12), from: at(), to: at(), k: 1 + roll(nodes)}
	if c.from > c.to && roll(8) > 0 {
		c.from, c.to = c.to, c.from
	}
	if roll(20) == 0 {
		c.k, c.id = roll(nodes+3)-1, roll(14)-1
	}
	switch n := roll(20); {
	case n < 10:
		c.kind, c.k = "Take", 1+(c.k-1)/2
	case n < 12:
		c.kind = "Free"
		for range roll(4) {
			c.l = append(c.l, 1+roll(12))
		}
	case n < 14:
		c.kind = "Cut"
	case n < 17:
		c.kind = "Move"
	default:
		c.kind = "Out"
		if roll(3) > 0 {
			c.k = 1 + roll(max(nodes/3, 1))
		}
	}
	return c
}

// checkDrawn does so many things to a book.
func checkDrawn(t *testing.T, roll func(n int) int, n, nodes int, at func() int) both {
	t.Helper()
	x := newBoth(t, nodes)
	for range n {
		x, _ = x.do(t, drawn(roll, nodes, at))
		if t.Failed() {
			break
		}
	}
	return x
}

func TestDrawnBooks(t *testing.T) {
	roll := dice(11)
	for range 3000 {
		times := 2 + roll(14)
		x := checkDrawn(t, roll, 10+roll(30), 1+roll(12), func() int { return roll(times) - roll(40)/39 })
		x.checkTimes(t, times+2)
	}
}

// Times far apart, and those beside them.
func TestDrawnBooksFarApart(t *testing.T) {
	roll := dice(111)
	far := func() int { return roll(1<<20)<<20 + roll(1<<20) }
	for range 1000 {
		pool := []int{0, most, far(), far(), far(), far(), roll(1 << 20)}
		for _, at := range pool {
			pool = append(pool, at+1, at-1, at+roll(9)-4)
		}
		checkDrawn(t, roll, 10+roll(30), 1+roll(allNodes), func() int { return pool[roll(len(pool))] })
	}
}

// Few nodes are left of many reservations.
func TestDrawnOutages(t *testing.T) {
	roll := dice(1111)
	for range 600 {
		const times = 30
		nodes := 5 + roll(40)
		x := newBoth(t, nodes)
		for id := range 30 {
			from := roll(times)
			x, _ = x.do(t, call{kind: "Take", id: 100 - (37*id)%61, from: from, to: from + 1 + roll(times), k: 1 + roll(6)})
		}
		for range 4 {
			from := roll(times)
			x, _ = x.do(t, call{kind: "Out", from: from, to: from + 1 + roll(times), k: 1 + roll(nodes)})
			x.checkTimes(t, 2*times+2)
		}
	}
}

// callOfBytes has a number of each byte.
func callOfBytes(b []byte) call {
	c := call{id: int(b[1] % 9), from: int(b[2]), to: int(b[3]), k: int(b[4] % 9)}
	if b[1] >= 200 {
		// Ahead of, at and behind the end of all times.
		c.from, c.to = most-100+c.from, most-100+c.to
	}
	c.kind = []string{"Take", "Free", "Cut", "Move", "Out"}[b[0]%5]
	if c.kind == "Free" {
		for _, n := range b[1:4] {
			if n < 9 {
				c.l = append(c.l, int(n))
			}
		}
	}
	return c
}

func FuzzCalls(f *testing.F) {
	f.Add(4, []byte{0, 1, 0, 10, 3, 0, 2, 5, 9, 2, 4, 0, 3, 4, 2})
	f.Add(8, []byte{0, 1, 0, 10, 3, 0, 2, 10, 20, 2, 3, 2, 9, 0, 0, 2, 1, 0, 5, 0, 1, 1, 2, 99, 0})
	f.Add(allNodes, []byte{0, 209, 0, 100, 3, 0, 210, 5, 101, 2, 4, 255, 99, 100, 8, 3, 200, 91, 0, 0})
	f.Fuzz(func(t *testing.T, nodes int, b []byte) {
		if nodes < 1 || nodes > allNodes {
			if b, e := New(nodes); b != nil || e != api.ErrArg {
				t.Errorf("New of %d is %v, error %d", nodes, b, e)
			}
			return
		}
		x := newBoth(t, nodes)
		for c := range slices.Chunk(b[:min(len(b), 200)], 5) {
			if len(c) == 5 {
				x, _ = x.do(t, callOfBytes(c))
			}
		}
	})
}
