package flow

import (
	"fmt"
	"math/big"
	"reflect"
	"regexp"
	"slices"
	"strings"
	"testing"
	"unicode/utf8"

	"timekeeper/api"
	"timekeeper/text"
)

// The answers of this package, found by other ways: by going through all lines, tasks and pairs again and again, by patterns, and without tables or maps.

var nameForm = regexp.MustCompile(`^\p{L}[\p{L}\p{Nd}_.\-]{0,39}$`)

var numberForm = regexp.MustCompile(`^(0|[1-9][0-9]*)$`)

var childForm = regexp.MustCompile(`^[cC][hH][iI][lL][dD]$`)

func wantSame(a, b api.Flow) bool {
	plain := func(f api.Flow) api.Flow {
		f = copied(f)
		for v := range f.Tasks {
			f.Tasks[v].After = append([]int{}, f.Tasks[v].After...)
		}
		f.Tasks = append([]api.Task{}, f.Tasks...)
		return f
	}
	return reflect.DeepEqual(plain(a), plain(b))
}

// hasCycle takes off, again and again, the tasks that wait for none that is left.
func hasCycle(f api.Flow) bool {
	left := make([]bool, len(f.Tasks))
	for v := range left {
		left[v] = true
	}
	for range f.Tasks {
		for v, t := range f.Tasks {
			if !slices.ContainsFunc(t.After, func(w int) bool { return left[w] }) {
				left[v] = false
			}
		}
	}
	return slices.Contains(left, true)
}

func wantCheck(f api.Flow) api.Errno {
	outside := func(n, least, most int) bool { return n < least || n > most }
	names := []string{}
	for _, t := range f.Tasks {
		names = append(names, t.Name)
	}
	switch {
	case !nameForm.MatchString(f.Name), slices.ContainsFunc(names, func(s string) bool { return !nameForm.MatchString(s) || childForm.MatchString(s) }):
		return api.ErrForm
	case outside(f.Deadline, 0, 1<<40-1), outside(f.Priority, 0, 1000), slices.ContainsFunc(f.Tasks, func(t api.Task) bool {
		return outside(t.Nodes, 1, 10000) || outside(t.Wall, 1, 1<<40-1) || outside(t.Retry, 0, 20)
	}):
		return api.ErrArg
	}
	slices.Sort(names)
	if len(slices.Compact(names)) < len(f.Tasks) {
		return api.ErrTwice
	}
	if len(f.Tasks) > 4096 {
		return api.ErrLong
	}
	for _, t := range f.Tasks {
		rising := slices.Compact(slices.Sorted(slices.Values(t.After)))
		if !slices.Equal(rising, t.After) || slices.ContainsFunc(t.After, func(v int) bool { return outside(v, 0, len(f.Tasks)-1) }) {
			return api.ErrArg
		}
	}
	if hasCycle(f) {
		return api.ErrCycle
	}
	return api.OK
}

// capitals changes a to z alone.
func capitals(s string) string {
	b := []byte(s)
	for i, c := range b {
		if c >= 'a' && c <= 'z' {
			b[i] = c - 32
		}
	}
	return string(b)
}

func wantLine(l []string) (string, []string, api.Errno) {
	if len(l) == 0 {
		return "", nil, api.OK
	}
	keyword, words := capitals(l[0]), append([]string(nil), l[1:]...)
	fits := false
	switch keyword {
	case "WORKFLOW", "DEADLINE", "PRIORITY", "JOB", "DONE":
		fits = len(words) == 1
	case "NODES", "WALLTIME", "RETRY":
		fits = len(words) == 2
	case "PARENT":
		var at []int
		for i, w := range words {
			if childForm.MatchString(w) {
				at = append(at, i)
				words[i] = "CHILD"
			}
		}
		fits = len(at) == 1 && at[0] > 0 && at[0] < len(words)-1
	}
	if !fits {
		return "", nil, api.ErrWord
	}
	return keyword, words, api.OK
}

// said is a line that has been accepted.
type said struct {
	keyword string
	words   []string
}

// is reports whether the line begins with these words.
func (x said) is(keyword string, words ...string) bool {
	return x.keyword == keyword && len(words) <= len(x.words) && slices.Equal(x.words[:len(words)], words)
}

// says reports whether one of the lines begins with these words.
func says(lines []said, keyword string, words ...string) bool {
	return slices.ContainsFunc(lines, func(x said) bool { return x.is(keyword, words...) })
}

// wantNumber reads a number without a limit first.
func wantNumber(word string, least, most int64) api.Errno {
	if !numberForm.MatchString(word) {
		return api.ErrForm
	}
	n, _ := new(big.Int).SetString(word, 10)
	switch {
	case n.Cmp(big.NewInt(1<<40-1)) > 0:
		return api.ErrOver
	case n.Cmp(big.NewInt(least)) < 0, n.Cmp(big.NewInt(most)) > 0:
		return api.ErrArg
	}
	return api.OK
}

// wantNext is what is wrong with a line behind those that were accepted: the rules of the chapter, one after the other.
func wantNext(lines []said, x said) api.Errno {
	name := x.words[0]
	ofTask := slices.Contains([]string{"NODES", "WALLTIME", "RETRY", "DONE"}, x.keyword)
	whole := x.keyword == "DEADLINE" || x.keyword == "PRIORITY"
	begun := says(lines, "WORKFLOW")
	if x.is("WORKFLOW") && begun {
		return api.ErrTwice
	}
	if !x.is("WORKFLOW") && !begun {
		return api.ErrWord
	}
	if (x.is("WORKFLOW") || x.is("JOB")) && !nameForm.MatchString(name) || x.is("JOB") && childForm.MatchString(name) {
		return api.ErrForm
	}
	if whole && says(lines, x.keyword) || x.is("JOB") && says(lines, "JOB", name) {
		return api.ErrTwice
	}
	if ofTask && !says(lines, "JOB", name) {
		return api.ErrName
	}
	if x.is("PARENT") {
		for _, w := range x.words {
			if w != "CHILD" && !says(lines, "JOB", w) {
				return api.ErrName
			}
		}
	}
	if ofTask && says(lines, x.keyword, name) {
		return api.ErrTwice
	}
	last := x.words[len(x.words)-1]
	switch x.keyword {
	case "DEADLINE":
		return wantNumber(last, 0, 1<<40-1)
	case "PRIORITY":
		return wantNumber(last, 0, 1000)
	case "NODES":
		return wantNumber(last, 1, 10000)
	case "WALLTIME":
		return wantNumber(last, 1, 1<<40-1)
	case "RETRY":
		return wantNumber(last, 0, 20)
	}
	return api.OK
}

// told is the number that a line tells, or another one if there is no such line.
func told(lines []said, other int, keyword string, words ...string) int {
	for _, x := range lines {
		if x.is(keyword, words...) {
			fmt.Sscan(x.words[len(words)], &other)
		}
	}
	return other
}

// wantFlow is the workflow of lines that were all accepted.
func wantFlow(lines []said) api.Flow {
	var f api.Flow
	for _, x := range lines {
		if x.is("WORKFLOW") {
			f.Name = x.words[0]
		}
		if x.is("JOB") {
			f.Tasks = append(f.Tasks, api.Task{Name: x.words[0]})
		}
	}
	f.Deadline, f.Priority = told(lines, 0, "DEADLINE"), told(lines, 0, "PRIORITY")
	for i := range f.Tasks {
		t := &f.Tasks[i]
		t.Nodes, t.Wall, t.Retry = told(lines, 1, "NODES", t.Name), told(lines, 1, "WALLTIME", t.Name), told(lines, 0, "RETRY", t.Name)
		t.Done = says(lines, "DONE", t.Name)
		for v, p := range f.Tasks {
			if slices.ContainsFunc(lines, func(x said) bool {
				at := slices.Index(x.words, "CHILD")
				return x.is("PARENT") && slices.Contains(x.words[:at], p.Name) && slices.Contains(x.words[at+1:], t.Name)
			}) {
				t.After = append(t.After, v)
			}
		}
	}
	return f
}

func wantParse(s string) (api.Flow, int, api.Errno) {
	if len(s) > 60000 {
		return api.Flow{}, 0, api.ErrLong
	}
	if !utf8.ValidString(s) {
		return api.Flow{}, 0, api.ErrForm
	}
	var lines []said
	for i, line := range strings.Split(s, "\n") {
		words, e := text.Words(line)
		if e != api.OK {
			return api.Flow{}, i + 1, e
		}
		keyword, words, e := wantLine(words)
		if e == api.OK && keyword != "" {
			e = wantNext(lines, said{keyword, words})
		}
		if e != api.OK {
			return api.Flow{}, i + 1, e
		}
		if keyword != "" {
			lines = append(lines, said{keyword, words})
		}
	}
	if !says(lines, "WORKFLOW") {
		return api.Flow{}, 0, api.ErrWord
	}
	f := wantFlow(lines)
	if e := wantCheck(f); e != api.OK {
		return api.Flow{}, 0, e
	}
	return f, 0, api.OK
}

func wantPrint(f api.Flow) (string, api.Errno) {
	if e := wantCheck(f); e != api.OK {
		return "", e
	}
	s := fmt.Sprintf("WORKFLOW %s\nDEADLINE %d\nPRIORITY %d\n", f.Name, f.Deadline, f.Priority)
	s = strings.ReplaceAll(s, "DEADLINE 0\n", "")
	s = strings.ReplaceAll(s, "PRIORITY 0\n", "")
	links := ""
	for _, t := range f.Tasks {
		s += "JOB " + t.Name + "\n"
		if t.Nodes > 1 {
			s += fmt.Sprintf("NODES %s %d\n", t.Name, t.Nodes)
		}
		if t.Wall > 1 {
			s += fmt.Sprintf("WALLTIME %s %d\n", t.Name, t.Wall)
		}
		if t.Retry > 0 {
			s += fmt.Sprintf("RETRY %s %d\n", t.Name, t.Retry)
		}
		if t.Done {
			s += "DONE " + t.Name + "\n"
		}
		if len(t.After) > 0 {
			links += "PARENT"
			for _, v := range t.After {
				links += " " + f.Tasks[v].Name
			}
			links += " CHILD " + t.Name + "\n"
		}
	}
	return s + links, api.OK
}

// checkParse holds Parse of s against the other way, and what it accepts against its printed text.
func checkParse(t *testing.T, s string) {
	t.Helper()
	f, line, e := Parse(s)
	wf, wl, we := wantParse(s)
	if e != we || line != wl || !wantSame(f, wf) {
		t.Errorf("Parse(%s) = %s, %d, %d; asked for: %s, %d, %d", short(s), short(f), line, e, short(wf), wl, we)
	}
	if e == api.OK {
		checkPrint(t, f)
	}
}

// checkPrint holds Print of f against the other way, and reads its text again.
func checkPrint(t *testing.T, f api.Flow) {
	t.Helper()
	s, e := Print(f)
	ws, we := wantPrint(f)
	if s != ws || e != we || Check(f) != we {
		t.Errorf("Print(%s) = %s, %d, and Check is %d; asked for: %s, %d", short(f), short(s), e, Check(f), short(ws), we)
	}
	if e != api.OK {
		return
	}
	g, line, e := Parse(s)
	if len(s) > api.MaxText {
		if e != api.ErrLong || line != 0 || !wantSame(g, api.Flow{}) {
			t.Errorf("Parse of %d bytes: %s, %d, %d", len(s), short(g), line, e)
		}
		return
	}
	if e != api.OK || line != 0 || !wantSame(f, g) || !Same(f, g) {
		t.Errorf("Parse(Print(%s)) = %s, %d, %d", short(f), short(g), line, e)
	}
	if again, e := Print(g); again != s || e != api.OK {
		t.Errorf("printed again, %s is %s, %d", short(s), short(again), e)
	}
}

// draws returns numbers below n, always the same ones for the same seed.
func draws(seed uint32) func(int) int {
	return func(n int) int {
		seed = seed*1664525 + 1013904223
		return int(seed>>8) % n
	}
}

// pick draws one of the list.
func pick[T any](next func(int) int, l ...T) T {
	return l[next(len(l))]
}

// drawnFlow is a workflow of n tasks that Check accepts.
func drawnFlow(next func(int) int, n int) api.Flow {
	f := api.Flow{
		Name:     pick(next, "w", "é1", "child", "Parent", longName('x')),
		Deadline: pick(next, 0, 0, 1, 99, api.MaxTime),
		Priority: pick(next, 0, 0, 1, 999, 1000),
	}
	rank := make([]int, n)
	for v := range n {
		k := next(v + 1)
		rank[v], rank[k] = rank[k], v
	}
	all := 1 + next(5)
	for v := range n {
		t := api.Task{
			Name:  pick(next, "a", "é", "Job", "𝔸-", "child_", "x.") + fmt.Sprint(v),
			Nodes: pick(next, 1, 1, 2, 9, api.MaxNodes),
			Wall:  pick(next, 1, 1, 2, 1<<33, api.MaxTime),
			Retry: pick(next, 0, 0, 1, api.MaxRetry),
			Done:  next(3) == 0,
		}
		for u := range n {
			if rank[u] < rank[v] && next(all) == 0 {
				t.After = append(t.After, u)
			}
		}
		f.Tasks = append(f.Tasks, t)
	}
	return f
}

func TestDrawnFlows(t *testing.T) {
	next := draws(6)
	for n := range 25 {
		for range 60 {
			f := drawnFlow(next, n)
			checkPrint(t, f)
			if e := Check(f); e != api.OK {
				t.Errorf("Check(%s) = %d", short(f), e)
			}
			if got := After(f); len(got) != n || slices.ContainsFunc(got, func(l []int) bool { return !slices.IsSorted(l) }) {
				t.Errorf("After(%s) = %v", short(f), got)
			}
			for v, task := range f.Tasks {
				if w, ok := Find(f, task.Name); w != v || !ok {
					t.Errorf("Find(%s, %q) = %d, %v", short(f), task.Name, w, ok)
				}
			}
		}
	}
}

// Workflows with one to three flaws, anywhere.
func TestDrawnFlaws(t *testing.T) {
	next := draws(66)
	bad := func(f *api.Flow) {
		v := next(len(f.Tasks))
		t := &f.Tasks[v]
		switch next(9) {
		case 0:
			t.Name = pick(next, append(notNames(), childs()...)...)
		case 1:
			f.Name = pick(next, append(notNames(), childs()...)...)
		case 2:
			t.Nodes = pick(next, beyond(1, api.MaxNodes)...)
		case 3:
			t.Wall = pick(next, beyond(1, api.MaxTime)...)
		case 4:
			t.Retry = pick(next, beyond(0, api.MaxRetry)...)
		case 5:
			f.Deadline = pick(next, beyond(0, api.MaxTime)...)
		case 6:
			f.Priority = pick(next, beyond(0, 1000)...)
		case 7:
			t.Name = f.Tasks[next(len(f.Tasks))].Name
		case 8:
			t.After = append(t.After, next(len(f.Tasks)+2)-1)
		}
	}
	for n := 1; n < 8; n++ {
		for range 2000 {
			f := drawnFlow(next, n)
			for range 1 + next(3) {
				bad(&f)
			}
			checkPrint(t, f)
		}
	}
}

// drawnText is lines of few words, most of which are right where they stand.
func drawnText(next func(int) int, lines int, wrong int) string {
	right := func(good string, bad ...string) string {
		if next(wrong) == 0 {
			return pick(next, bad...)
		}
		return good
	}
	names := []string{}
	anyName := func() string {
		if len(names) == 0 {
			return "z"
		}
		return right(pick(next, names...), "zz", "Child", "child", "A", "0")
	}
	number := func(l ...string) string {
		return right(pick(next, l...), "007", "-1", "", "1001", "10001", "21", "0", "1099511627776", "99999999999999999999", "1x", "٣", "0.5")
	}
	var b strings.Builder
	line := func(words ...string) {
		words[0] = pick(next, cases(words[0])...)
		if next(wrong) == 0 {
			words = append(words, pick(next, "more", "", "CHILD", "# note"))
		}
		if next(wrong) == 0 {
			words = words[:len(words)-1]
		}
		if next(4*wrong) == 0 {
			words = append(words, "\x01")
		}
		b.WriteString(pick(next, "", " ", "\t "))
		b.WriteString(strings.Join(words, pick(next, " ", "  ", "\t", " \t ")))
		b.WriteString(pick(next, "", "", " ", " # note", "\t#CHILD") + "\n")
	}
	if next(wrong) > 0 {
		line("WORKFLOW", right("w", "1", "child", "w w", longName('w')+"w"))
	}
	for range lines {
		switch next(12) {
		case 0:
			b.WriteString(pick(next, "\n", "  \n", "#\n", "\t# JOB x\n", "\t\n"))
		case 1:
			line("DEADLINE", number("0", "5", "1099511627775"))
		case 2:
			line("PRIORITY", number("0", "1", "1000"))
		case 3, 4, 5:
			name := right(pick(next, "a", "b", "é", "job", "PARENT")+fmt.Sprint(len(names)), "a0", "child", "CHILD", "1", "a#", "#")
			line("JOB", name)
			names = append(names, name)
		case 6:
			line("NODES", anyName(), number("1", "2", "10000"))
		case 7:
			line("WALLTIME", anyName(), number("1", "2", "1099511627775"))
		case 8:
			line("RETRY", anyName(), number("0", "1", "20"))
		case 9:
			line("DONE", anyName())
		case 10, 11:
			if len(names) < 2 {
				continue
			}
			k := 1 + next(len(names)-1)
			words := []string{"PARENT"}
			for range 1 + next(3) {
				words = append(words, right(pick(next, names[:k]...), anyName(), anyName(), "CHILD"))
			}
			words = append(words, right(pick(next, cases("CHILD")...), "CHILDREN", anyName()))
			for range 1 + next(3) {
				words = append(words, right(pick(next, names[k:]...), anyName(), anyName(), "Child"))
			}
			line(words...)
		}
	}
	if next(5*wrong) == 0 {
		b.WriteString("WORKFLOW w\n")
	}
	s := b.String()
	if next(3) == 0 {
		s = strings.TrimSuffix(s, "\n")
	}
	return s
}

func TestDrawnTexts(t *testing.T) {
	next := draws(666)
	accepted := 0
	errors := map[api.Errno]int{}
	for i := range 30000 {
		s := drawnText(next, next(25), pick(next, 10, 50, 1000))
		checkParse(t, s)
		_, _, e := Parse(s)
		errors[e]++
		if e == api.OK {
			accepted++
		}
		if i%3 == 0 {
			checkParse(t, s[next(len(s)+1):])
			checkParse(t, s[:next(len(s)+1)])
		}
	}
	if accepted < 3000 {
		t.Errorf("%d texts were accepted", accepted)
	}
	for _, e := range []api.Errno{api.ErrArg, api.ErrForm, api.ErrOver, api.ErrCycle, api.ErrWord, api.ErrTwice, api.ErrName} {
		if errors[e] < 10 {
			t.Errorf("error %d came %d times", e, errors[e])
		}
	}
}

// Texts of lines that are each right by themselves, in any order.
func TestAllShortTexts(t *testing.T) {
	lines := []string{"workflow w", "Deadline 3", "JOB a", "job b", "Nodes a 2", "done a", "PARENT a child b", "parent b a CHILD a", ""}
	var grow func(l []string)
	grow = func(l []string) {
		checkParse(t, strings.Join(l, "\n"))
		if len(l) < 5 {
			for _, line := range lines {
				grow(append(slices.Clip(l), line))
			}
		}
	}
	grow(nil)
}

func FuzzParse(f *testing.F) {
	for _, s := range []string{"", exampleText, "workflow w\n# x\njob a\n  nodes\ta 3 # y\nDONE a\n", "WORKFLOW w\nJOB a\nPARENT a CHILD a", "JOB a\xff"} {
		f.Add(s)
	}
	for _, x := range allowed() {
		s, _ := wantPrint(x)
		f.Add(s)
	}
	next := draws(1)
	for range 50 {
		f.Add(drawnText(next, 12, 30))
	}
	f.Fuzz(func(t *testing.T, s string) {
		checkParse(t, s)
		checkParse(t, "WORKFLOW w\nJOB a\nJOB b\n"+s)
		words := strings.Fields(s)
		k, w, e := wantLine(words)
		checkLine(t, words, k, w, e)
	})
}
