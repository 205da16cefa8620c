package flow

import (
	"strings"

	"timekeeper/api"
	"timekeeper/clock"
	"timekeeper/text"
)

// Print returns the canonical text of f.
func Print(f api.Flow) (string, api.Errno) {
	e := Check(f)
	if e != api.OK {
		return "", e
	}
	var p page
	p.line(keyWorkflow, f.Name)
	p.number(keyDeadline, f.Deadline)
	p.number(keyPriority, f.Priority)
	for _, t := range f.Tasks {
		p.task(t)
	}
	for _, t := range f.Tasks {
		if len(t.After) > 0 {
			p.line(keyParent, parents(f, t)...)
		}
	}
	return p.String(), api.OK
}

// page is the lines that have been printed.
type page struct {
	strings.Builder
}

// line prints a keyword and the words after it.
func (p *page) line(key int, words ...string) {
	p.WriteString(statements[key].keyword)
	p.WriteByte(' ')
	p.WriteString(text.Join(words...))
	p.WriteByte('\n')
}

// number prints a number behind the name, if there is one, unless it is the number that is meant without a line.
func (p *page) number(key int, n int, name ...string) {
	if n != statements[key].least {
		p.line(key, append(name, clock.Text(n))...)
	}
}

// task prints what is told of t alone.
func (p *page) task(t api.Task) {
	p.line(keyJob, t.Name)
	p.number(keyNodes, t.Nodes, t.Name)
	p.number(keyWalltime, t.Wall, t.Name)
	p.number(keyRetry, t.Retry, t.Name)
	if t.Done {
		p.line(keyDone, t.Name)
	}
}

// parents returns the names of those that t waits for, CHILD, and its own.
func parents(f api.Flow, t api.Task) []string {
	var words []string
	for _, v := range t.After {
		words = append(words, f.Tasks[v].Name)
	}
	return append(words, childWord, t.Name)
}
