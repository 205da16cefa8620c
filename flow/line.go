package flow

import (
	"slices"

	"timekeeper/api"
	"timekeeper/clock"
	"timekeeper/text"
)

// The kinds of lines, as indexes of the table of statements.
const (
	keyWorkflow = iota
	keyDeadline
	keyPriority
	keyJob
	keyNodes
	keyWalltime
	keyRetry
	keyDone
	keyParent
)

const (
	childWord   = "CHILD" // stands between the parents and the children of a line
	maxPriority = 1000
	anyWords    = -1 // more than one number of words is allowed
)

// statement is a keyword, how many words come after it, and, if the last of these is a number, its limits. A number that no line tells is the least one.
type statement struct {
	keyword string
	words   int
	least   int
	most    int
}

var statements = [...]statement{
	keyWorkflow: {"WORKFLOW", 1, 0, 0},
	keyDeadline: {"DEADLINE", 1, 0, api.MaxTime},
	keyPriority: {"PRIORITY", 1, 0, maxPriority},
	keyJob:      {"JOB", 1, 0, 0},
	keyNodes:    {"NODES", 2, 1, api.MaxNodes},
	keyWalltime: {"WALLTIME", 2, 1, api.MaxTime},
	keyRetry:    {"RETRY", 2, 0, api.MaxRetry},
	keyDone:     {"DONE", 1, 0, 0},
	keyParent:   {"PARENT", anyWords, 0, 0},
}

// allows reports whether n is within the limits.
func (s statement) allows(n int) bool {
	return s.least <= n && n <= s.most
}

// number reads a number, which has to be within the limits.
func (s statement) number(word string) (int, api.Errno) {
	n, e := clock.Read(word)
	if e != api.OK {
		return 0, e
	}
	if !s.allows(n) {
		return 0, api.ErrArg
	}
	return n, api.OK
}

// Line returns the keyword of a line's words, and the words after it.
func Line(l ...string) (string, []string, api.Errno) {
	if len(l) == 0 {
		return "", nil, api.OK
	}
	key, words, e := classify(l)
	if e != api.OK {
		return "", nil, e
	}
	return statements[key].keyword, words, api.OK
}

// classify is Line for at least one word, and tells the keyword by its index.
func classify(l []string) (int, []string, api.Errno) {
	key := find(l[0])
	switch {
	case key < 0:
		return 0, nil, api.ErrWord
	case key == keyParent:
		words, e := family(l[1:])
		return key, words, e
	case len(l)-1 != statements[key].words:
		return 0, nil, api.ErrWord
	default:
		return key, slices.Clone(l[1:]), api.OK
	}
}

// find returns the index of a keyword, or -1 if the word is none.
func find(word string) int {
	for key, s := range statements {
		if text.Same(s.keyword, word) {
			return key
		}
	}
	return -1
}

// family returns the words of a PARENT line, with CHILD in capitals.
func family(l []string) ([]string, api.Errno) {
	isChild := func(word string) bool { return text.Same(word, childWord) }
	at := slices.IndexFunc(l, isChild)
	if at <= 0 || at == len(l)-1 || slices.ContainsFunc(l[at+1:], isChild) {
		return nil, api.ErrWord
	}
	words := slices.Clone(l)
	words[at] = childWord
	return words, api.OK
}
