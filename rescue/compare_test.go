package rescue

import (
	"fmt"
	"math/big"
	"reflect"
	"regexp"
	"slices"
	"strings"
	"testing"
	"unicode/utf8"

	"timekeeper/api"
	"timekeeper/flow"
	"timekeeper/life"
)

// The answers of this package, found by another way: task by task, and by patterns.

// names are those of the states, in the order of their numbers.
const names = "waiting running succeeded failed dead cancelled"

// inState are the tasks in one of the states with these letters.
func inState(x api.Life, these string) []int {
	var l []int
	for v := range x.State {
		if strings.Contains(these, string(letters[x.State[v]])) {
			l = append(l, v)
		}
	}
	return l
}

// wantFlow is put together field by field.
func wantFlow(f api.Flow, x api.Life) api.Flow {
	g := api.Flow{Name: f.Name, Deadline: f.Deadline, Priority: f.Priority, Tasks: []api.Task{}}
	for _, t := range f.Tasks {
		g.Tasks = append(g.Tasks, api.Task{Name: t.Name, Nodes: t.Nodes, Wall: t.Wall, Retry: t.Retry, After: append([]int{}, t.After...)})
	}
	for _, v := range inState(x, "S") {
		g.Tasks[v].Done = true
	}
	return g
}

// wantText is that of f without done tasks, and a line behind those of each one that has succeeded.
func wantText(f api.Flow, x api.Life) string {
	var tasks, links strings.Builder
	fmt.Fprintf(&tasks, "WORKFLOW %s\nDEADLINE %d\nPRIORITY %d\n", f.Name, f.Deadline, f.Priority)
	for v, t := range f.Tasks {
		fmt.Fprintf(&tasks, "JOB %s\nNODES %s %d\nWALLTIME %s %d\nRETRY %s %d\n", t.Name, t.Name, t.Nodes, t.Name, t.Wall, t.Name, t.Retry)
		if x.State[v] == 2 {
			fmt.Fprintf(&tasks, "DONE %s\n", t.Name)
		}
		if len(t.After) > 0 {
			links.WriteString("PARENT")
			for _, u := range t.After {
				links.WriteString(" " + f.Tasks[u].Name)
			}
			fmt.Fprintf(&links, " CHILD %s\n", t.Name)
		}
	}
	// What would be so without a line has none.
	plain := regexp.MustCompile(`(?m)^(DEADLINE 0|PRIORITY 0|(NODES|WALLTIME) \S+ 1|RETRY \S+ 0)\n`)
	return plain.ReplaceAllString(tasks.String(), "") + links.String()
}

func wantStatus(f api.Flow, x api.Life) string {
	var s strings.Builder
	for v, t := range f.Tasks {
		fmt.Fprintf(&s, "%s %s %d\n", t.Name, strings.Fields(names)[x.State[v]], x.Fails[v])
	}
	return s.String()
}

func wantCounts(x api.Life) []int {
	var l []int
	for _, letter := range letters {
		l = append(l, len(inState(x, string(letter))))
	}
	return l
}

// checkLife holds all answers for a life against the other way, and reads its texts again.
func checkLife(t *testing.T, f api.Flow, x api.Life) {
	t.Helper()
	g, e := Flow(f, x)
	if want := wantFlow(f, x); e != api.OK || !flow.Same(g, want) || !reflect.DeepEqual(wantFlow(g, x), want) {
		t.Errorf("Flow of %s of %s is %s, error %d; asked for: %s", short(x), short(f), short(g), e, short(want))
	}
	checkRemaining(t, f, x, g)
	if s, e := Text(f, x); e != api.OK || s != wantText(f, x) {
		t.Errorf("Text of %s of %s is %s, error %d; asked for: %s", short(x), short(f), short(s), e, short(wantText(f, x)))
	} else if h, at, e := flow.Parse(s); len(s) <= api.MaxText && (e != api.OK || at != 0 || !flow.Same(g, h)) {
		t.Errorf("Parse of %s is %s, %d, error %d; asked for: %s", short(s), short(h), at, e, short(g))
	}
	if l, e := Counts(f, x); e != api.OK || !slices.Equal(l, wantCounts(x)) {
		t.Errorf("Counts of %s of %s is %v, error %d; asked for: %v", short(x), short(f), l, e, wantCounts(x))
	}
	if l, e := Lost(f, x); e != api.OK || !slices.Equal(l, inState(x, "FDC")) {
		t.Errorf("Lost of %s of %s is %s, error %d; asked for: %s", short(x), short(f), short(l), e, short(inState(x, "FDC")))
	}
	isOver := len(inState(x, "WR")) == 0 && len(inState(x, "S")) != len(f.Tasks)
	if is, e := Needed(f, x); e != api.OK || is != isOver {
		t.Errorf("Needed of %s of %s is %v, error %d; asked for: %v", short(x), short(f), is, e, isOver)
	}
	s, e := Status(f, x)
	if e != api.OK || s != wantStatus(f, x) {
		t.Errorf("Status of %s of %s is %s, error %d; asked for: %s", short(x), short(f), short(s), e, short(wantStatus(f, x)))
	}
	y, at, e := Read(f, s)
	if len(s) > api.MaxText {
		x = api.Life{}
	}
	if at != 0 || (e == api.ErrLong) != (len(s) > api.MaxText) || e != api.OK && e != api.ErrLong || !life.Same(x, y) {
		t.Errorf("Read of %s of %s is %s, %d, error %d; asked for: %s", short(s), short(f), short(y), at, e, short(x))
	}
}

// checkRemaining asks whether g, which remains of x of f, waits for just what has not succeeded if it is started anew, and whether no more remains of it then.
func checkRemaining(t *testing.T, f api.Flow, x api.Life, g api.Flow) {
	t.Helper()
	anew, e := life.Begin(g)
	if e != api.OK {
		t.Errorf("Begin of %s: error %d", short(g), e)
		return
	}
	var ready []int
	for v, task := range f.Tasks {
		isOpen := x.State[v] != api.Succeeded
		if (anew.State[v] == api.Waiting) != isOpen || (anew.State[v] == api.Succeeded) == isOpen || anew.Fails[v] != 0 {
			t.Errorf("%s of %s, started anew: %s", short(x), short(f), short(anew))
		}
		if isOpen && !slices.ContainsFunc(task.After, func(u int) bool { return x.State[u] != api.Succeeded }) {
			ready = append(ready, v)
		}
	}
	if l, e := life.Ready(g, anew); e != api.OK || !slices.Equal(l, ready) {
		t.Errorf("%s of %s, started anew: %s are ready, error %d; asked for: %s", short(x), short(f), short(l), e, short(ready))
	}
	if h, e := Flow(g, anew); e != api.OK || !flow.Same(g, h) {
		t.Errorf("%s of %s, started anew: %s remains, error %d; asked for: %s", short(x), short(f), short(h), e, short(g))
	}
}

// checkRefused asks for an error of all calls but Read, and for nothing beside it.
func checkRefused(t *testing.T, f api.Flow, x api.Life, want api.Errno) {
	t.Helper()
	g, e1 := Flow(f, x)
	s, e2 := Text(f, x)
	is, e3 := Needed(f, x)
	counts, e4 := Counts(f, x)
	status, e5 := Status(f, x)
	lost, e6 := Lost(f, x)
	if e := [...]api.Errno{e1, e2, e3, e4, e5, e6}; e != [...]api.Errno{want, want, want, want, want, want} {
		t.Errorf("%s of %s: errors %v; asked for: %d", short(x), short(f), e, want)
	}
	if g.Name != "" || g.Deadline != 0 || g.Priority != 0 || len(g.Tasks) > 0 || s != "" || is || len(counts) > 0 || status != "" || len(lost) > 0 {
		t.Errorf("%s of %s: error %d, and beside it %s, %s, %v, %v, %s, %s", short(x), short(f), want, short(g), short(s), is, counts, short(status), short(lost))
	}
}

var (
	controls   = regexp.MustCompile(`[\x00-\x08\x0a-\x1f\x7f]`)
	note       = regexp.MustCompile(`(^|[ \t])#.*$`)
	word       = regexp.MustCompile(`[^ \t]+`)
	numberForm = regexp.MustCompile(`^(0|[1-9][0-9]*)$`)
)

// wantRow is what is wrong with the words of line v of those that have words.
func wantRow(f api.Flow, v int, row []string) api.Errno {
	if len(row) != 3 || v >= len(f.Tasks) || f.Tasks[v].Name != row[0] || !slices.Contains(strings.Fields(names), row[1]) {
		return api.ErrWord
	}
	if !numberForm.MatchString(row[2]) {
		return api.ErrForm
	}
	if n, _ := new(big.Int).SetString(row[2], 10); n.Cmp(big.NewInt(1<<40-1)) > 0 {
		return api.ErrOver
	}
	return api.OK
}

// wantRead takes the text apart by patterns, and looks for the life only when all lines are there.
func wantRead(f api.Flow, s string) (api.Life, int, api.Errno) {
	if e := flow.Check(f); e != api.OK {
		return api.Life{}, 0, e
	}
	if len(s) > 60000 {
		return api.Life{}, 0, api.ErrLong
	}
	if !utf8.ValidString(s) {
		return api.Life{}, 0, api.ErrForm
	}
	var rows [][]string
	for i, line := range strings.Split(s, "\n") {
		if controls.MatchString(line) {
			return api.Life{}, i + 1, api.ErrForm
		}
		row := word.FindAllString(note.ReplaceAllString(line, ""), -1)
		if len(row) == 0 {
			continue
		}
		if e := wantRow(f, len(rows), row); e != api.OK {
			return api.Life{}, i + 1, e
		}
		rows = append(rows, row)
	}
	if len(rows) != len(f.Tasks) {
		return api.Life{}, 0, api.ErrWord
	}
	var x api.Life
	for _, row := range rows {
		n := 0
		fmt.Sscan(row[2], &n)
		x.State = append(x.State, slices.Index(strings.Fields(names), row[1]))
		x.Fails = append(x.Fails, n)
	}
	if e := life.Check(f, x); e != api.OK {
		return api.Life{}, 0, e
	}
	return x, 0, api.OK
}

// checkRead holds Read of s against the other way, and what it accepts against its status. It returns the error.
func checkRead(t *testing.T, f api.Flow, s string) api.Errno {
	t.Helper()
	x, at, e := Read(f, s)
	wx, wat, we := wantRead(f, s)
	if e != we || at != wat || !slices.Equal(x.State, wx.State) || !slices.Equal(x.Fails, wx.Fails) {
		t.Errorf("Read(%s, %q) = %s, %d, error %d; asked for: %s, %d, error %d", short(f), short(s), short(x), at, e, short(wx), wat, we)
	}
	if e == api.OK {
		checkLife(t, f, x)
	}
	return e
}

// small are all workflows of n tasks of these kinds, each with all ways to wait for others that make no cycle.
func small(n int, kinds ...api.Task) []api.Flow {
	all := []api.Flow{flowOf()}
	for v := range n {
		var longer []api.Flow
		for _, f := range all {
			for _, t := range kinds {
				for links := range 1 << n {
					g := flow.Copy(f)
					t := t
					t.Name, t.After = fmt.Sprint("t", v), nil
					for u := range n {
						if links>>u&1 == 1 {
							t.After = append(t.After, u)
						}
					}
					g.Tasks = append(g.Tasks, t)
					longer = append(longer, g)
				}
			}
		}
		all = longer
	}
	return slices.DeleteFunc(all, func(f api.Flow) bool { return flow.Check(f) != api.OK })
}

// eachLife calls yield with all lists of n states, also some that are none, and n fails.
func eachLife(n int, leastState, mostState, leastFails, mostFails int, yield func(x api.Life)) {
	x := api.Life{State: make([]int, n), Fails: make([]int, n)}
	var set func(v int)
	set = func(v int) {
		if v == n {
			yield(x)
			return
		}
		for x.State[v] = leastState; x.State[v] <= mostState; x.State[v]++ {
			for x.Fails[v] = leastFails; x.Fails[v] <= mostFails; x.Fails[v]++ {
				set(v + 1)
			}
		}
	}
	set(0)
}

// checkAllLives makes all calls for each of these lists, and reads the text that it would have. Each life has a text of its own.
func checkAllLives(t *testing.T, f api.Flow, leastState, mostState, leastFails, mostFails int) {
	t.Helper()
	texts := map[string]int{}
	lives := 0
	eachLife(len(f.Tasks), leastState, mostState, leastFails, mostFails, func(x api.Life) {
		if e := life.Check(f, x); e != api.OK {
			checkRefused(t, f, x, e)
			if slices.Min(append(x.Fails, 0)) == 0 && slices.Min(append(x.State, 0)) == 0 && slices.Max(append(x.State, 0)) < len(letters) {
				if _, at, got := Read(f, wantStatus(f, x)); at != 0 || got != e {
					t.Errorf("Read of %q of %v: %d, error %d; asked for: error %d", wantStatus(f, x), f, at, got, e)
				}
			}
			return
		}
		checkLife(t, f, x)
		s, _ := Status(f, x)
		texts[s]++
		lives++
	})
	if len(texts) != lives {
		t.Errorf("%d lives of %v have %d texts", lives, f, len(texts))
	}
}

func TestAllLives(t *testing.T) {
	kinds := []api.Task{task("", 0), task("", 1), done(task("", 0)), done(task("", 1))}
	for n := range 3 {
		for _, f := range small(n, kinds...) {
			checkAllLives(t, f, -1, 6, -1, 3)
		}
	}
	for _, f := range small(3, kinds[0], kinds[2]) {
		checkAllLives(t, f, 0, 5, 0, 1)
	}
}

// Four tasks that have been tried as often as they may be if they have failed, and not before.
func TestAllStatesOfFour(t *testing.T) {
	for i, f := range small(4, task("", 0)) {
		if i%3 > 0 {
			continue
		}
		eachLife(4, 0, 5, 0, 0, func(x api.Life) {
			for v, s := range x.State {
				if s == api.Failed {
					x.Fails[v] = 1
				}
			}
			if life.Check(f, x) == api.OK {
				checkLife(t, f, x)
			}
			clear(x.Fails)
		})
	}
}

// Texts of lines that are each right by themselves, in any order.
func TestAllShortTexts(t *testing.T) {
	few := []string{"a waiting 0", "a succeeded 1", "a failed 2", "b waiting 0", "b running 0", "b dead 0", "b\tcancelled  0 # x", "", "# a waiting 0", "c waiting 0"}
	accepted := 0
	for _, f := range []api.Flow{flowOf(), flowOf(task("a", 1)), flowOf(task("a", 1), task("b", 0, 0)), flowOf(task("a", 1), task("b", 0, 0), done(task("c", 0)))} {
		var grow func(l []string)
		grow = func(l []string) {
			if checkRead(t, f, strings.Join(l, "\n")) == api.OK {
				accepted++
			}
			if len(l) < 4 {
				for _, line := range few {
					grow(append(slices.Clip(l), line))
				}
			}
		}
		grow(nil)
	}
	if accepted < 100 {
		t.Errorf("%d texts were accepted", accepted)
	}
}

// dice returns numbers below n, always the same ones for the same seed.
func dice(seed uint64) func(n int) int {
	return func(n int) int {
		seed = seed*6364136223846793005 + 1442695040888963407
		return int(seed>>33) % n
	}
}

// pick draws one of the list.
func pick[T any](roll func(n int) int, l ...T) T {
	return l[roll(len(l))]
}

// drawnFlow has n tasks, each pair of which waits for one another in one case of many, in a direction that the indexes do not tell.
func drawnFlow(roll func(n int) int, n, many int) api.Flow {
	index := make([]int, n)
	for i := range index {
		k := roll(i + 1)
		index[i], index[k] = index[k], i
	}
	f := api.Flow{Name: pick(roll, "w", "é", "child"), Deadline: pick(roll, 0, 1, api.MaxTime), Priority: pick(roll, 0, 1, 1000), Tasks: make([]api.Task, n)}
	for i, v := range index {
		t := api.Task{
			Name:  pick(roll, "a", "é", "dead", "𝔸-", "x.") + fmt.Sprint(v),
			Nodes: pick(roll, 1, 2, api.MaxNodes), Wall: pick(roll, 1, 2, api.MaxTime), Retry: pick(roll, 0, 0, 1, 2, api.MaxRetry), Done: roll(5) == 0,
		}
		for k := range i {
			if roll(many) == 0 {
				t.After = append(t.After, index[k])
			}
		}
		slices.Sort(t.After)
		f.Tasks[v] = t
	}
	return f
}

// drawnChange makes one of all changes that are allowed, seldom Cancel, and reports whether there was one.
func drawnChange(t *testing.T, roll func(n int) int, f api.Flow, x api.Life) (api.Life, bool) {
	t.Helper()
	var changes []string
	for _, v := range inState(x, "R") {
		changes = append(changes, fmt.Sprint("succeed ", v), fmt.Sprint("succeed ", v), fmt.Sprint("fail ", v), fmt.Sprint("fail ", v), fmt.Sprint("again ", v))
	}
	ready, e := life.Ready(f, x)
	if e != api.OK {
		t.Fatalf("Ready of %v of %v: error %d", x, f, e)
	}
	for _, v := range ready {
		changes = append(changes, fmt.Sprint("start ", v))
	}
	if len(changes) == 0 {
		return x, false
	}
	if roll(40) == 0 {
		changes = []string{"cancel"}
	}
	return do(t, f, x, pick(roll, changes...)), true
}

func TestDrawnLives(t *testing.T) {
	roll := dice(14)
	for range 150 {
		f := drawnFlow(roll, 1+roll(12), 1+roll(5))
		x := do(t, f, api.Life{}, "begin")
		for isOn := true; isOn && !t.Failed(); {
			checkLife(t, f, x)
			x, isOn = drawnChange(t, roll, f, x)
		}
	}
}

// changedByte is s with a byte more, one fewer, or another one.
func changedByte(roll func(n int) int, s string) string {
	c := pick(roll, " ", "\t", "\n", "#", "0", "9", "a", "d", "w", "\x00", "\x7f", "\r", "\xff", "\xc3\xa9", "_", "-", string(rune(' '+roll(95))))
	i := roll(len(s) + 1)
	switch k := min(i+1, len(s)); roll(3) {
	case 0:
		return s[:i] + c + s[i:]
	case 1:
		return s[:i] + s[k:]
	default:
		return s[:i] + c + s[k:]
	}
}

// changedLine is s with a line more, one fewer, another one, or two of them in the other order.
func changedLine(roll func(n int) int, s string) string {
	l := strings.Split(strings.TrimSuffix(s, "\n"), "\n")
	i, k := roll(len(l)), roll(len(l))
	words := append(strings.Fields(l[i]), "x", "x", "x")[:3]
	switch roll(9) {
	case 0:
		l = slices.Delete(l, i, i+1)
	case 1:
		l = slices.Insert(l, i, l[k])
	case 2:
		l[i], l[k] = l[k], l[i]
	case 3:
		l = slices.Insert(l, i, pick(roll, "", " ", "\t", "#", "# a waiting 0", "  # dead"))
	case 4:
		words[1] = pick(roll, append(strings.Fields(names), "Dead", "done", "2", "lost")...)
		l[i] = strings.Join(words, " ")
	case 5:
		words[2] = pick(roll, "0", "1", "2", "21", "22", "00", "01", "-1", "x", "1099511627775", "1099511627776", "99999999999999999999", "٣")
		l[i] = strings.Join(words, " ")
	case 6:
		l[i] = pick(roll, "", " ", "\t") + strings.Join(words, pick(roll, " ", "  ", "\t", " \t ")) + pick(roll, "", " ", "\t", " # x", "#")
	case 7:
		l[i] = strings.Join(words[:roll(3)], " ")
	case 8:
		l[i] = strings.Join(append(words, pick(roll, "0", "x", "#", "# x")), " ")
	}
	return strings.Join(l, "\n") + pick(roll, "", "\n")
}

// Texts of lives, changed by a byte or a line, once or more often.
func TestDrawnTexts(t *testing.T) {
	roll := dice(1414)
	errors := map[api.Errno]int{}
	for range 4000 {
		f := drawnFlow(roll, roll(7), 1+roll(5))
		x := do(t, f, api.Life{}, "begin")
		for range roll(12) {
			x, _ = drawnChange(t, roll, f, x)
		}
		s, _ := Status(f, x)
		for range 6 {
			changed := s
			for range 1 + roll(3) {
				changed = pick(roll, changedByte, changedLine)(roll, changed)
			}
			errors[checkRead(t, f, changed)]++
		}
	}
	for _, e := range []api.Errno{api.OK, api.ErrArg, api.ErrForm, api.ErrOver, api.ErrWord} {
		if errors[e] < 100 {
			t.Errorf("error %d came %d times", e, errors[e])
		}
	}
}

// Whatever the texts, all calls answer what the rules tell.
func FuzzRead(f *testing.F) {
	f.Add("WORKFLOW w\nJOB a\nJOB b\nPARENT a CHILD b\n", "a failed 1\nb dead 0\n")
	f.Add("WORKFLOW w\nJOB a\nRETRY a 20\nJOB b\nDONE b", "\n a\trunning 20 # x\n#\nb succeeded 0")
	f.Add("WORKFLOW w\nJOB a", "a cancelled 01")
	f.Add("WORKFLOW w", "")
	f.Fuzz(func(t *testing.T, described string, s string) {
		w, _, e := flow.Parse(described)
		if e != api.OK {
			w = flowOf(task(described, 0), task("b", 1, 0))
		}
		checkRead(t, w, s)
		n := len(w.Tasks)
		x := api.Life{State: make([]int, min(n, len(s))), Fails: make([]int, min(n, len(s)))}
		for v := range x.State {
			x.State[v], x.Fails[v] = int(s[v]%8)-1, int(s[v]/8%4)
		}
		if e := life.Check(w, x); e != api.OK {
			checkRefused(t, w, x, e)
			return
		}
		checkLife(t, w, x)
	})
}
