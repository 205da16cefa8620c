package flow

import (
	"fmt"
	"strings"
	"testing"

	"timekeeper/api"
)

// parsed is what s describes, which has to be a workflow.
func parsed(t *testing.T, s string) api.Flow {
	t.Helper()
	f, line, e := Parse(s)
	if e != api.OK || line != 0 {
		t.Errorf("Parse(%s): line %d, error %d", short(s), line, e)
	}
	return f
}

// checkText asks for the workflow of a text, and holds it against the other way too.
func checkText(t *testing.T, s string, want api.Flow) {
	t.Helper()
	if f := parsed(t, s); !wantSame(f, want) {
		t.Errorf("Parse(%s) = %s; asked for: %s", short(s), short(f), short(want))
	}
	checkParse(t, s)
}

// checkFault asks for the error of a text, and for the number of its line.
func checkFault(t *testing.T, s string, line int, want api.Errno) {
	t.Helper()
	f, at, e := Parse(s)
	if e != want || at != line || !wantSame(f, api.Flow{}) {
		t.Errorf("Parse(%s) = %s, %d, %d; asked for: line %d, error %d", short(s), short(f), at, e, line, want)
	}
	checkParse(t, s)
}

// lines joins lines, each with a line feed.
func lines(l ...string) string {
	return strings.Join(append(l, ""), "\n")
}

func TestParseExamples(t *testing.T) {
	checkText(t, "workflow w\nJOB b\njob a\nparent b child a", example())
	checkText(t, exampleText, example())
	checkText(t, "WORKFLOW w\nJOB a\nJOB b\nJOB c\nWALLTIME a 3\nWALLTIME b 5\nWALLTIME c 2\nNODES a 2\nNODES b 2\nPARENT a b CHILD c\n", wide())
	checkText(t, "WORKFLOW one\nDEADLINE 9\nJOB t\nNODES t 2\nWALLTIME t 5\n", urgent())
	checkText(t, "WORKFLOW w\nJOB a  # x\n", flowOf(task("a")))
	checkText(t, "WORKFLOW w\nJOB a\nJOB b\nPARENT a CHILD b", flowOf(task("a"), task("b", 0)))
	checkFault(t, "WORKFLOW w\nJOB a\nWALLTIME a 007\n", 3, api.ErrForm)
}

func TestParseWithoutTasks(t *testing.T) {
	for _, s := range []string{"WORKFLOW w", "workflow w\n", "\n\nWorkflow\tw\n\n", "#\nWORKFLOW w #\n"} {
		checkText(t, s, flowOf())
	}
	checkText(t, "WORKFLOW w\nDEADLINE 0\nPRIORITY 0\n", flowOf())
	checkText(t, "WORKFLOW w\nPRIORITY 1000\nDEADLINE 1099511627775", api.Flow{Name: "w", Priority: 1000, Deadline: api.MaxTime})
}

// Each keyword is read in capitals, in small letters, and mixed.
func TestParseInAnyCase(t *testing.T) {
	want := api.Flow{Name: "w", Deadline: 7, Priority: 8, Tasks: []api.Task{
		{Name: "a", Nodes: 2, Wall: 3, Retry: 4, Done: true},
		{Name: "b", Nodes: 1, Wall: 1, After: []int{0}},
	}}
	for i := range cases("CHILD") {
		in := func(word string) string { return cases(word)[i] }
		checkText(t, lines(in("WORKFLOW")+" w", in("DEADLINE")+" 7", in("PRIORITY")+" 8", in("JOB")+" a", in("NODES")+" a 2", in("WALLTIME")+" a 3",
			in("RETRY")+" a 4", in("DONE")+" a", in("JOB")+" b", in("PARENT")+" a "+in("CHILD")+" b"), want)
	}
	// Names are not keywords: their case is kept.
	checkText(t, lines("workflow W", "job A", "job a", "done A", "parent A child a"), api.Flow{Name: "W", Tasks: []api.Task{
		{Name: "A", Nodes: 1, Wall: 1, Done: true}, task("a", 0),
	}})
	checkText(t, lines("workflow w", "job parent", "job JOB", "parent parent child JOB"), flowOf(task("parent"), task("JOB", 0)))
}

func TestParseWithBlanksAndNotes(t *testing.T) {
	for _, s := range []string{
		lines("WORKFLOW w", "", "   ", "\t", "# a note", " \t# JOB x", "JOB b", "#JOB c", "JOB a", "", "PARENT b CHILD a", "", "#"),
		lines("  WORKFLOW\t\tw ", "\tJOB \t b", "JOB  a\t", " PARENT  b\tCHILD \t a\t "),
		lines("WORKFLOW w # the workflow", "JOB b #", "JOB a #b c d", "PARENT b CHILD a # CHILD c"),
		lines("WORKFLOW w\t#x#", "JOB b # \u00e9\u2028", "JOB a ##", "PARENT b CHILD a #"),
		"\n\n\nWORKFLOW w\nJOB b\nJOB a\nPARENT b CHILD a\n\n\n",
		"WORKFLOW w\nJOB b\nJOB a\nPARENT b CHILD a",
	} {
		checkText(t, s, example())
	}
	// A note that begins within a word is none.
	checkFault(t, lines("WORKFLOW w", "JOB a#b"), 2, api.ErrForm)
	checkFault(t, lines("WORKFLOW w", "JOB a", "DONE a#"), 3, api.ErrName)
	checkFault(t, lines("WORKFLOW w", "DEADLINE 5#"), 2, api.ErrForm)
	checkFault(t, lines("WORKFLOW w", "JOB #a"), 2, api.ErrWord)
	// Other white space separates nothing.
	checkFault(t, lines("WORKFLOW\u00a0w"), 1, api.ErrWord)
	checkFault(t, lines("WORKFLOW w", "JOB a\u3000"), 2, api.ErrForm)
	checkFault(t, lines("WORKFLOW w\r", "JOB a"), 1, api.ErrForm)
}

func TestParseOfLinks(t *testing.T) {
	const jobs = "WORKFLOW w\nJOB a\nJOB b\nJOB c\nJOB d\n"
	four := func(a, b, c, d []int) api.Flow {
		return flowOf(task("a", a...), task("b", b...), task("c", c...), task("d", d...))
	}
	for _, x := range []struct {
		s string
		f api.Flow
	}{
		{"PARENT a CHILD d\nPARENT b CHILD d\nPARENT c CHILD d", four(nil, nil, nil, []int{0, 1, 2})},
		{"PARENT c CHILD d\nPARENT b CHILD d\nPARENT a CHILD d", four(nil, nil, nil, []int{0, 1, 2})},
		{"PARENT c a b CHILD d", four(nil, nil, nil, []int{0, 1, 2})},
		{"PARENT a CHILD b\nPARENT a CHILD b", four(nil, []int{0}, nil, nil)},
		{"PARENT a a CHILD b b b", four(nil, []int{0}, nil, nil)},
		{"PARENT a b a CHILD c d c\nPARENT b a CHILD d", four(nil, nil, []int{0, 1}, []int{0, 1})},
		{"PARENT d CHILD a b c", four([]int{3}, []int{3}, []int{3}, nil)},
		{"PARENT d c CHILD b a\nPARENT b CHILD a\nPARENT d CHILD c\nPARENT d CHILD b", four([]int{1, 2, 3}, []int{2, 3}, []int{3}, nil)},
		{"PARENT b CHILD a\nPARENT c CHILD b\nPARENT d CHILD c", four([]int{1}, []int{2}, []int{3}, nil)},
		{"PARENT b CHILD d\nPARENT a CHILD c\nPARENT a CHILD d\nPARENT b CHILD c", four(nil, nil, []int{0, 1}, []int{0, 1})},
		{"", four(nil, nil, nil, nil)},
	} {
		checkText(t, jobs+x.s, x.f)
	}
	checkText(t, "WORKFLOW w\nJOB b\nJOB a\nPARENT b CHILD a\nJOB c\nPARENT c b CHILD a\nNODES a 1\n", flowOf(task("b"), task("a", 0, 2), task("c")))
}

// numbers are the lines that tell one, each with its limits and the field that it sets.
func numbers() []struct {
	line        string
	least, most int
	set         func(f *api.Flow, n int)
} {
	return []struct {
		line        string
		least, most int
		set         func(f *api.Flow, n int)
	}{
		{"DEADLINE", 0, api.MaxTime, func(f *api.Flow, n int) { f.Deadline = n }},
		{"PRIORITY", 0, 1000, func(f *api.Flow, n int) { f.Priority = n }},
		{"NODES a", 1, api.MaxNodes, func(f *api.Flow, n int) { f.Tasks[0].Nodes = n }},
		{"WALLTIME a", 1, api.MaxTime, func(f *api.Flow, n int) { f.Tasks[0].Wall = n }},
		{"RETRY a", 0, api.MaxRetry, func(f *api.Flow, n int) { f.Tasks[0].Retry = n }},
	}
}

func TestParseOfNumbers(t *testing.T) {
	for _, x := range numbers() {
		tell := func(word string) string {
			return lines("WORKFLOW w", "JOB a", "JOB b", x.line+" "+word)
		}
		for _, n := range []int{x.least, x.least + 1, 7, x.most - 1, x.most} {
			f := flowOf(task("a"), task("b"))
			x.set(&f, n)
			checkText(t, tell(fmt.Sprint(n)), f)
		}
		for _, word := range []string{"007", "00", "01", "-1", "+1", "1.0", "x", "1x", "0x1", "1e3", "1_0", "٣", "\u0661", "1\u00a0", "½", "-", "a", "child"} {
			checkFault(t, tell(word), 4, api.ErrForm)
		}
		for _, word := range []string{"1099511627776", "1099511627777", "9999999999999", "9223372036854775808", "18446744073709551617", strings.Repeat("9", 1000)} {
			checkFault(t, tell(word), 4, api.ErrOver)
		}
		for _, n := range []int{x.least - 1, x.most + 1, x.most + 2, 1<<32 + x.least, api.MaxTime} {
			if 0 <= n && n <= api.MaxTime && (n < x.least || n > x.most) {
				checkFault(t, tell(fmt.Sprint(n)), 4, api.ErrArg)
			}
		}
	}
}

func TestParseOfNames(t *testing.T) {
	for _, name := range []string{"a", "é", "𝔸", "a1", "a-", "a_", "a.", "A.b-c_1", longName('a'), longName('é'), longName('𝔸'), "JOB", "done", "a\u0660", "K", "children", "ch\u0131ld"} {
		checkText(t, lines("WORKFLOW "+name), api.Flow{Name: name})
		checkText(t, lines("WORKFLOW w", "JOB "+name, "NODES "+name+" 2", "JOB z", "PARENT "+name+" CHILD z"), flowOf(api.Task{Name: name, Nodes: 2, Wall: 1}, task("z", 0)))
	}
	for _, name := range []string{"1", "_a", "-", ".", "a/b", "a,", "a#", "a+", "a\u0301", "²", longName('a') + "a", longName('𝔸') + "b", "\u0660a"} {
		checkFault(t, lines("WORKFLOW "+name), 1, api.ErrForm)
		checkFault(t, lines("WORKFLOW w", "JOB a", "JOB "+name), 3, api.ErrForm)
		checkFault(t, lines("WORKFLOW w", "JOB a", "DONE "+name), 3, api.ErrName)
		checkFault(t, lines("WORKFLOW w", "JOB a", "PARENT a CHILD "+name), 3, api.ErrName)
	}
	for _, name := range childs() {
		checkText(t, lines("WORKFLOW "+name, "JOB a"), api.Flow{Name: name, Tasks: []api.Task{task("a")}})
		checkFault(t, lines("WORKFLOW w", "JOB a", "JOB "+name), 3, api.ErrForm)
		checkFault(t, lines("WORKFLOW w", "JOB a", "NODES "+name+" 1"), 3, api.ErrName)
		checkFault(t, lines("WORKFLOW w", "JOB a", "DONE "+name), 3, api.ErrName)
	}
}

// Each error of a line, by itself.
func TestParseOfEachError(t *testing.T) {
	for _, x := range []struct {
		line string
		e    api.Errno
	}{
		{"JOB c\x00", api.ErrForm}, {"\x7f", api.ErrForm}, {"# \x1f", api.ErrForm}, {"JOB\rc", api.ErrForm},
		{"WHAT", api.ErrWord}, {"JOB", api.ErrWord}, {"JOB c d", api.ErrWord}, {"NODES a", api.ErrWord}, {"NODES a 1 1", api.ErrWord}, {"DEADLINE", api.ErrWord},
		{"DONE", api.ErrWord}, {"DONE a b", api.ErrWord}, {"PARENT", api.ErrWord}, {"PARENT a", api.ErrWord}, {"PARENT a b", api.ErrWord}, {"PARENT CHILD b", api.ErrWord},
		{"PARENT a CHILD", api.ErrWord}, {"PARENT a CHILD b CHILD b", api.ErrWord}, {"CHILD b", api.ErrWord}, {"PRIORITY 1 2", api.ErrWord}, {"WORKFLOW", api.ErrWord},
		{"WORKFLOW v w", api.ErrWord}, {"RETRY a", api.ErrWord}, {"WALLTIME 1", api.ErrWord},
		{"WORKFLOW v", api.ErrTwice}, {"workflow w", api.ErrTwice},
		{"JOB 1", api.ErrForm}, {"JOB child", api.ErrForm}, {"JOB " + longName('c') + "c", api.ErrForm},
		{"DEADLINE 5", api.ErrTwice}, {"deadline 0", api.ErrTwice}, {"PRIORITY 1", api.ErrTwice}, {"JOB a", api.ErrTwice}, {"JOB b", api.ErrTwice},
		{"NODES z 1", api.ErrName}, {"WALLTIME A 1", api.ErrName}, {"RETRY c 1", api.ErrName}, {"DONE w", api.ErrName}, {"PARENT a CHILD c", api.ErrName},
		{"PARENT c CHILD a", api.ErrName}, {"PARENT a b CHILD a c", api.ErrName}, {"PARENT z CHILD z", api.ErrName}, {"PARENT parent CHILD a", api.ErrName},
		{"NODES a 1", api.ErrTwice}, {"WALLTIME a 3", api.ErrTwice}, {"RETRY a 3", api.ErrTwice}, {"DONE a", api.ErrTwice}, {"nodes a 2", api.ErrTwice},
		{"NODES b 01", api.ErrForm}, {"WALLTIME b -1", api.ErrForm}, {"RETRY b b", api.ErrForm},
		{"NODES b 1099511627776", api.ErrOver}, {"WALLTIME b 1099511627776", api.ErrOver}, {"RETRY b 1099511627776", api.ErrOver},
		{"NODES b 0", api.ErrArg}, {"NODES b 10001", api.ErrArg}, {"WALLTIME b 0", api.ErrArg}, {"RETRY b 21", api.ErrArg}, {"RETRY b 1099511627775", api.ErrArg},
	} {
		before := []string{"WORKFLOW w", "DEADLINE 5", "PRIORITY 5", "JOB a", "NODES a 2", "WALLTIME a 2", "RETRY a 2", "DONE a", "JOB b", "PARENT a CHILD b"}
		parsed(t, lines(before...))
		line := len(before) + 1
		checkFault(t, lines(append(before, x.line)...), line, x.e)
		checkFault(t, lines(append(before, x.line, "JOB c", "WHAT")...), line, x.e)
		checkFault(t, lines(append([]string{"", "# x"}, append(before, "", x.line, "\x01")...)...), line+3, x.e)
		checkFault(t, strings.TrimSuffix(lines(append(before, x.line)...), "\n"), line, x.e)
	}
}

// Within one line the error that is named first is told.
func TestParseOfSeveralErrorsInALine(t *testing.T) {
	begun := []string{"WORKFLOW w", "JOB a", "NODES a 2", "DONE a", "DEADLINE 5"}
	for _, x := range []struct {
		line string
		e    api.Errno
	}{
		{"WHAT \x00", api.ErrForm},                             // Words, then Line
		{"WORKFLOW x y", api.ErrWord},                          // Line, then twice
		{"WORKFLOW 1", api.ErrTwice},                           // twice, then the name
		{"NODES z", api.ErrWord},                               // Line, then the name of no task
		{"JOB 1 2", api.ErrWord},                               // Line, then the name
		{"DEADLINE 007", api.ErrTwice},                         // twice, then the number
		{"DEADLINE 1099511627776", api.ErrTwice},               // likewise
		{"DEADLINE 5 5", api.ErrWord},                          // Line, then twice
		{"NODES z 007", api.ErrName},                           // no task, then the number
		{"NODES z 0", api.ErrName},                             // no task, then the limits
		{"NODES a 007", api.ErrTwice},                          // twice, then the number
		{"NODES a 0", api.ErrTwice},                            // twice, then the limits
		{"NODES a 1099511627776", api.ErrTwice},                // likewise
		{"PRIORITY 1001x", api.ErrForm},                        // the form of a number, then its size
		{"PRIORITY 01099511627776", api.ErrForm},               // likewise
		{"PRIORITY 1099511627776", api.ErrOver},                // the greatest time, then the limits
		{"WALLTIME a 1099511627776", api.ErrOver},              // likewise
		{"PARENT z CHILD y CHILD x", api.ErrWord},              // Line, then no task
		{"PARENT a z CHILD a", api.ErrName},                    // no task, then a cycle
		{"JOB CHILD", api.ErrForm},                             // not allowed as the name of a task
		{"PARENT 1 CHILD " + longName('a') + "a", api.ErrName}, // no task, whatever it is
	} {
		checkFault(t, lines(append(begun, x.line)...), len(begun)+1, x.e)
	}
}

// Before WORKFLOW there is no other line with words, whatever else it is; but the errors of Words and of Line are told first.
func TestParseBeforeWorkflow(t *testing.T) {
	for _, line := range []string{
		"DEADLINE 5", "DEADLINE 007", "PRIORITY 1", "PRIORITY 1001", "JOB a", "JOB 1", "JOB CHILD", "NODES a 1", "NODES a x", "WALLTIME a 1", "RETRY a 1", "DONE a", "PARENT a CHILD b",
		"WHAT", "JOB", "WORKFLOW", "WORKFLOW w v", "parent a", "CHILD",
	} {
		checkFault(t, lines(line), 1, api.ErrWord)
		checkFault(t, lines(line, "WORKFLOW w"), 1, api.ErrWord)
		checkFault(t, lines("", "  # x", line, "WORKFLOW w"), 3, api.ErrWord)
	}
	checkFault(t, lines("JOB \x00a", "WORKFLOW w"), 1, api.ErrForm)
	checkFault(t, lines("WORKFLOW 1"), 1, api.ErrForm)
	checkFault(t, lines("WORKFLOW 1", "WORKFLOW w"), 1, api.ErrForm)
	checkFault(t, lines("WORKFLOW w", "WORKFLOW w"), 2, api.ErrTwice)
	checkFault(t, lines("WORKFLOW w", "JOB a", "WORKFLOW v", "JOB a"), 3, api.ErrTwice)
}

func TestParseWithoutWorkflow(t *testing.T) {
	for _, s := range []string{"", "\n", "\n\n\n", " ", "\t\n", "#", "# WORKFLOW w", "  # x\n\n#\n"} {
		checkFault(t, s, 0, api.ErrWord)
	}
}

// The errors of the whole text come first, and have no line.
func TestParseOfTextsThatAreNone(t *testing.T) {
	for _, s := range []string{"\xff", "WORKFLOW w\n\xc3", "WORKFLOW w\n# \x80\n", "WHAT\n\xff", "\x00\xff", "\xed\xa0\x80"} {
		checkFault(t, s, 0, api.ErrForm)
	}
	long := strings.Repeat("#", api.MaxText)
	checkFault(t, long, 0, api.ErrWord)
	checkFault(t, long+"#", 0, api.ErrLong)
	checkFault(t, long+"\n", 0, api.ErrLong)
	checkFault(t, long+"\xff", 0, api.ErrLong)
	checkFault(t, "WHAT\n\xff"+long, 0, api.ErrLong)
	checkFault(t, long[:api.MaxText-1]+"\xff", 0, api.ErrForm)
	most := exampleText + "#" + long[len(exampleText)+1:]
	checkText(t, most, example())
	checkText(t, most[:api.MaxText-1]+"\n", example())
	checkFault(t, most+"\n", 0, api.ErrLong)
	checkText(t, strings.Repeat("\n", api.MaxText-len(exampleText))+exampleText, example())
	checkFault(t, strings.Repeat("\n", api.MaxText-5)+"WHAT\n", api.MaxText-4, api.ErrWord)
}

// A name is known from the line behind its JOB on.
func TestParseOfLaterNames(t *testing.T) {
	for _, line := range []string{"NODES b 2", "WALLTIME b 2", "RETRY b 2", "DONE b", "PARENT a CHILD b", "PARENT b CHILD a", "PARENT a b CHILD a"} {
		checkFault(t, lines("WORKFLOW w", "JOB a", line, "JOB b"), 3, api.ErrName)
		checkFault(t, lines("WORKFLOW b", "JOB a", line), 3, api.ErrName)
	}
	for _, line := range []string{"NODES b 2", "WALLTIME b 2", "RETRY b 2", "DONE b", "PARENT a CHILD b", "PARENT b CHILD a"} {
		parsed(t, lines("WORKFLOW w", "JOB a", "JOB b", line))
	}
}

// A keyword comes once for each task, not once in all.
func TestParseOfKeywordsTwice(t *testing.T) {
	for _, keyword := range []string{"NODES", "WALLTIME", "RETRY", "DONE"} {
		tell := func(name string) string {
			if keyword == "DONE" {
				return keyword + " " + name
			}
			return keyword + " " + name + " 1"
		}
		parsed(t, lines("WORKFLOW w", "JOB a", tell("a"), "JOB b", tell("b"), "JOB c"))
		checkFault(t, lines("WORKFLOW w", "JOB a", tell("a"), "JOB b", tell("b"), tell("a")), 6, api.ErrTwice)
		checkFault(t, lines("WORKFLOW w", "JOB a", "JOB b", tell("b"), strings.ToLower(keyword)+tell("b")[len(keyword):]), 5, api.ErrTwice)
	}
	for _, keyword := range []string{"DEADLINE", "PRIORITY"} {
		checkFault(t, lines("WORKFLOW w", keyword+" 0", keyword+" 0"), 3, api.ErrTwice)
		checkFault(t, lines("WORKFLOW w", keyword+" 1", "JOB a", strings.ToLower(keyword)+" 2"), 4, api.ErrTwice)
	}
	parsed(t, lines("WORKFLOW w", "DEADLINE 3", "PRIORITY 3"))
	parsed(t, lines("WORKFLOW w", "JOB a", "NODES a 3", "WALLTIME a 3", "RETRY a 3", "DONE a"))
}

// What Check finds in the end has no line.
func TestParseOfCycles(t *testing.T) {
	for _, l := range [][]string{
		{"PARENT a CHILD a"},
		{"PARENT a b CHILD b"},
		{"PARENT a CHILD b", "PARENT b CHILD a"},
		{"PARENT a CHILD b", "PARENT b CHILD c", "PARENT c CHILD a"},
		{"PARENT a b c CHILD a b c"},
		{"DONE a", "PARENT a CHILD a"},
	} {
		s := lines(append([]string{"WORKFLOW w", "JOB a", "JOB b", "JOB c"}, l...)...)
		checkFault(t, s, 0, api.ErrCycle)
		checkFault(t, s+"DONE z\n", 5+len(l), api.ErrName)
	}
}

func TestParseOfMostTasks(t *testing.T) {
	jobs := func(n int) string {
		s := "WORKFLOW w\n"
		for _, t := range named(n) {
			s += "JOB " + t.Name + "\n"
		}
		return s
	}
	if f := parsed(t, jobs(api.MaxTasks)); !wantSame(f, flowOf(named(api.MaxTasks)...)) {
		t.Error("not all tasks are there")
	}
	for s, want := range map[string]struct {
		line int
		e    api.Errno
	}{
		"":                       {0, api.ErrLong},
		"PARENT n0 CHILD n0\n":   {0, api.ErrLong},
		"JOB x\nJOB y\n":         {0, api.ErrLong},
		"WHAT":                   {api.MaxTasks + 3, api.ErrWord},
		"JOB n4096":              {api.MaxTasks + 3, api.ErrTwice},
		"NODES n4096 1\nJOB n0":  {api.MaxTasks + 4, api.ErrTwice},
		"PARENT n0 CHILD n4097 ": {api.MaxTasks + 3, api.ErrName},
	} {
		f, line, e := Parse(jobs(api.MaxTasks+1) + s)
		if line != want.line || e != want.e || !wantSame(f, api.Flow{}) {
			t.Errorf("%q behind: line %d, error %d; asked for: %d, %d", s, line, e, want.line, want.e)
		}
	}
}
