package flow

import (
	"slices"

	"timekeeper/api"
	"timekeeper/text"
)

// marks are the statements of which there was a line.
type marks [len(statements)]bool

// link is what one PARENT line says: each child waits for each parent.
type link struct {
	parents  []int
	children []int
}

// draft is what the lines up to some line say. Who waits for whom is put into the tasks at the end, all at once.
type draft struct {
	flow  api.Flow
	had   marks
	index map[string]int
	told  []marks // of each task
	links []link
}

// Parse returns the workflow that s describes, or the number of the first line with an error, and the error.
func Parse(s string) (api.Flow, int, api.Errno) {
	lines, e := text.Lines(s)
	if e != api.OK {
		return api.Flow{}, 0, e
	}
	d, at, e := read(lines)
	if e != api.OK {
		return api.Flow{}, at, e
	}
	if !d.had[keyWorkflow] {
		return api.Flow{}, 0, api.ErrWord
	}
	d.join()
	if e := Check(d.flow); e != api.OK {
		return api.Flow{}, 0, e
	}
	return d.flow, 0, api.OK
}

// read returns what the lines say up to the first one with an error, and the number and the error of that one.
func read(lines []string) (draft, int, api.Errno) {
	d := draft{index: map[string]int{}}
reading:
	for i, line := range lines {
		words, e := text.Words(line)
		switch {
		case e == api.OK && len(words) == 0:
			continue reading
		case e == api.OK:
			e = d.add(words)
		}
		if e != api.OK {
			return d, i + 1, e
		}
	}
	return d, 0, api.OK
}

// add takes in one more line, which has words.
func (d *draft) add(l []string) api.Errno {
	key, words, e := classify(l)
	if e != api.OK {
		return e
	}
	if key != keyWorkflow && !d.had[keyWorkflow] {
		return api.ErrWord
	}
	switch key {
	case keyWorkflow:
		return d.begin(words[0])
	case keyDeadline, keyPriority:
		return d.set(key, words[0])
	case keyJob:
		return d.addTask(words[0])
	case keyParent:
		return d.addLink(words)
	default:
		return d.setTask(key, words)
	}
}

// begin takes in a WORKFLOW line.
func (d *draft) begin(name string) api.Errno {
	if d.had[keyWorkflow] {
		return api.ErrTwice
	}
	if !text.Name(name) {
		return api.ErrForm
	}
	d.had[keyWorkflow] = true
	d.flow.Name = name
	return api.OK
}

// set takes in a number of the whole workflow.
func (d *draft) set(key int, word string) api.Errno {
	if d.had[key] {
		return api.ErrTwice
	}
	n, e := statements[key].number(word)
	if e != api.OK {
		return e
	}
	d.had[key] = true
	switch key {
	case keyDeadline:
		d.flow.Deadline = n
	case keyPriority:
		d.flow.Priority = n
	}
	return api.OK
}

// addTask takes in a JOB line.
func (d *draft) addTask(name string) api.Errno {
	if !isTaskName(name) {
		return api.ErrForm
	}
	if _, ok := d.index[name]; ok {
		return api.ErrTwice
	}
	d.index[name] = len(d.flow.Tasks)
	d.flow.Tasks = append(d.flow.Tasks, api.Task{
		Name:  name,
		Nodes: statements[keyNodes].least,
		Wall:  statements[keyWalltime].least,
		Retry: statements[keyRetry].least,
	})
	d.told = append(d.told, marks{})
	return api.OK
}

// setTask takes in a line that tells something of one task.
func (d *draft) setTask(key int, words []string) api.Errno {
	v, ok := d.index[words[0]]
	if !ok {
		return api.ErrName
	}
	if d.told[v][key] {
		return api.ErrTwice
	}
	d.told[v][key] = true
	t := &d.flow.Tasks[v]
	if key == keyDone {
		t.Done = true
		return api.OK
	}
	n, e := statements[key].number(words[1])
	if e != api.OK {
		return e
	}
	switch key {
	case keyNodes:
		t.Nodes = n
	case keyWalltime:
		t.Wall = n
	case keyRetry:
		t.Retry = n
	}
	return api.OK
}

// addLink takes in a PARENT line.
func (d *draft) addLink(words []string) api.Errno {
	at := slices.Index(words, childWord)
	parents, known := d.tasks(words[:at])
	children, alsoKnown := d.tasks(words[at+1:])
	if !known || !alsoKnown {
		return api.ErrName
	}
	d.links = append(d.links, link{parents, children})
	return api.OK
}

// tasks returns the tasks with these names in ascending order, and whether there are all of them. Each is listed once, because a line has room for more pairs of names than one wants to go through.
func (d *draft) tasks(names []string) ([]int, bool) {
	var l []int
	for _, name := range names {
		v, ok := d.index[name]
		if !ok {
			return nil, false
		}
		l = append(l, v)
	}
	slices.Sort(l)
	return slices.Compact(l), true
}

// join lets the tasks wait for one another as the links say. It takes the parents in ascending order: so each After is sorted, and a link that is given twice is seen at its end.
func (d *draft) join() {
	tasks := d.flow.Tasks
	lines := make([][]int, len(tasks)) // of each task, the links in which it is a parent
	for i, k := range d.links {
		for _, v := range k.parents {
			lines[v] = append(lines[v], i)
		}
	}
	for v, l := range lines {
		for _, i := range l {
			for _, w := range d.links[i].children {
				if n := len(tasks[w].After); n == 0 || tasks[w].After[n-1] != v {
					tasks[w].After = append(tasks[w].After, v)
				}
			}
		}
	}
}
