package rescue

import (
	"strings"

	"timekeeper/api"
	"timekeeper/clock"
	"timekeeper/flow"
	"timekeeper/life"
	"timekeeper/text"
)

// stateNames are the words for the states, by their numbers.
var stateNames = [...]string{
	api.Waiting:   "waiting",
	api.Running:   "running",
	api.Succeeded: "succeeded",
	api.Failed:    "failed",
	api.Dead:      "dead",
	api.Cancelled: "cancelled",
}

// find returns the state of that name, and whether there is one.
func find(name string) (int, bool) {
	found, ok := 0, false
search:
	for state, s := range stateNames {
		if s == name {
			found, ok = state, true
			break search
		}
	}
	return found, ok
}

// Status returns a line for each task: its name, its state, and its fails.
func Status(f api.Flow, x api.Life) (string, api.Errno) {
	if e := life.Check(f, x); e != api.OK {
		return "", e
	}
	var lines strings.Builder
	for v, t := range f.Tasks {
		lines.WriteString(text.Join(t.Name, stateNames[x.State[v]], clock.Text(x.Fails[v])))
		lines.WriteByte('\n')
	}
	return lines.String(), api.OK
}

// Read returns the life of f that s tells, or the error, and the number of its line, if it is one of a line.
func Read(f api.Flow, s string) (api.Life, int, api.Errno) {
	if e := flow.Check(f); e != api.OK {
		return api.Life{}, 0, e
	}
	lines, e := text.Lines(s)
	if e != api.OK {
		return api.Life{}, 0, e
	}
	x, at, e := readLines(f, lines)
	if e != api.OK {
		return api.Life{}, at, e
	}
	if e := life.Check(f, x); e != api.OK {
		return api.Life{}, 0, e
	}
	return x, 0, api.OK
}

// readLines returns what the lines tell, one for each task of f, be it a life or not.
func readLines(f api.Flow, lines []string) (api.Life, int, api.Errno) {
	var x api.Life
	for i, line := range lines {
		words, e := text.Words(line)
		if e == api.OK && len(words) > 0 {
			e = add(f, &x, words)
		}
		if e != api.OK {
			return api.Life{}, i + 1, e
		}
	}
	if len(x.State) < len(f.Tasks) {
		return api.Life{}, 0, api.ErrWord
	}
	return x, 0, api.OK
}

// add takes in the words of one more line, which has to be that of the next task.
func add(f api.Flow, x *api.Life, words []string) api.Errno {
	v := len(x.State)
	if len(words) != 3 || v == len(f.Tasks) || words[0] != f.Tasks[v].Name {
		return api.ErrWord
	}
	state, ok := find(words[1])
	if !ok {
		return api.ErrWord
	}
	fails, e := clock.Read(words[2])
	if e != api.OK {
		return e
	}
	x.State = append(x.State, state)
	x.Fails = append(x.Fails, fails)
	return api.OK
}
