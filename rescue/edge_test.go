package rescue

import (
	"fmt"
	"slices"
	"strings"
	"testing"

	"timekeeper/api"
	"timekeeper/life"
)

// checkText asks for the life of a text, and holds it against the other way too.
func checkText(t *testing.T, f api.Flow, s string, want string) {
	t.Helper()
	if x, at, e := Read(f, s); e != api.OK || at != 0 || !life.Same(x, lifeOf(want)) {
		t.Errorf("Read of %q of %s is %s, %d, error %d; asked for: %s", short(s), short(f), short(x), at, e, want)
	}
	checkRead(t, f, s)
}

// checkFault asks for the error of a text, and for the number of its line.
func checkFault(t *testing.T, f api.Flow, s string, line int, want api.Errno) {
	t.Helper()
	if x, at, e := Read(f, s); e != want || at != line || len(x.State) > 0 || len(x.Fails) > 0 {
		t.Errorf("Read of %q of %s is %s, %d, error %d; asked for: line %d, error %d", short(s), short(f), short(x), at, e, line, want)
	}
	checkRead(t, f, s)
}

// Each state by itself: how many stand so, what it is called, and what comes of it.
func TestEachState(t *testing.T) {
	one := flowOf(task("a", 1))
	for _, x := range []struct {
		f      api.Flow
		life   string
		want   string
		counts []int
		lost   []int
		needed bool
	}{
		{one, "W", "a waiting 0\n", []int{1, 0, 0, 0, 0, 0}, nil, false},
		{one, "W1", "a waiting 1\n", []int{1, 0, 0, 0, 0, 0}, nil, false},
		{one, "R", "a running 0\n", []int{0, 1, 0, 0, 0, 0}, nil, false},
		{one, "R1", "a running 1\n", []int{0, 1, 0, 0, 0, 0}, nil, false},
		{one, "S", "a succeeded 0\n", []int{0, 0, 1, 0, 0, 0}, nil, false},
		{one, "S1", "a succeeded 1\n", []int{0, 0, 1, 0, 0, 0}, nil, false},
		{one, "F2", "a failed 2\n", []int{0, 0, 0, 1, 0, 0}, []int{0}, true},
		{one, "C", "a cancelled 0\n", []int{0, 0, 0, 0, 0, 1}, []int{0}, true},
		{one, "C1", "a cancelled 1\n", []int{0, 0, 0, 0, 0, 1}, []int{0}, true},
		{example(), "F1 D", "a failed 1\nb dead 0\n", []int{0, 0, 0, 1, 1, 0}, []int{0, 1}, true},
	} {
		s, e1 := Status(x.f, lifeOf(x.life))
		counts, e2 := Counts(x.f, lifeOf(x.life))
		lost, e3 := Lost(x.f, lifeOf(x.life))
		needed, e4 := Needed(x.f, lifeOf(x.life))
		if s != x.want || !slices.Equal(counts, x.counts) || !slices.Equal(lost, x.lost) || needed != x.needed || e1 != api.OK || e2 != api.OK || e3 != api.OK || e4 != api.OK {
			t.Errorf("%s: %q, %v, %v, %v, errors %d %d %d %d", x.life, s, counts, lost, needed, e1, e2, e3, e4)
		}
		checkText(t, x.f, x.want, x.life)
		checkLife(t, x.f, lifeOf(x.life))
	}
}

// All tasks have succeeded but one, at any place, and in any of the other states.
func TestAllHaveSucceededButOne(t *testing.T) {
	const n = 5
	f := flowOf()
	for v := range n {
		f.Tasks = append(f.Tasks, task(fmt.Sprint("t", v), 0))
	}
	all := strings.Fields("S S S S S")
	checkNeeded := func(words []string, want bool) {
		t.Helper()
		x := lifeOf(strings.Join(words, " "))
		if is, e := Needed(f, x); is != want || e != api.OK {
			t.Errorf("Needed of %v is %v, error %d; asked for: %v", words, is, e, want)
		}
		checkLife(t, f, x)
	}
	checkNeeded(all, false)
	for v := range n {
		for _, word := range []string{"W", "R", "F1", "C"} {
			words := slices.Clone(all)
			words[v] = word
			checkNeeded(words, word == "F1" || word == "C")
			// As long as another one runs, it is not needed either.
			words[(v+1)%n] = "R"
			if word != "C" {
				checkNeeded(words, false)
			}
		}
	}
	for v := range n - 1 {
		f.Tasks[v+1].After = []int{v}
	}
	checkNeeded(all, false)
	checkNeeded(strings.Fields("S S S S F1"), true)
	checkNeeded(strings.Fields("S S S S C"), true)
	checkNeeded(strings.Fields("S S S F1 D"), true)
	checkNeeded(strings.Fields("S S S S W"), false)
}

// Fails of 0, the greatest that a task of that Retry may have in each state, and one more.
func TestFails(t *testing.T) {
	for _, retry := range []int{0, 1, 9, 10, api.MaxRetry} {
		f := flowOf(task("a", retry), task("b", 0))
		for _, x := range []struct {
			name        string
			letter      string
			least, most int
		}{
			{"waiting", "W", 0, retry}, {"running", "R", 0, retry}, {"succeeded", "S", 0, retry}, {"failed", "F", retry + 1, retry + 1}, {"cancelled", "C", 0, retry},
		} {
			for fails := range api.MaxRetry + 5 {
				s := lines(fmt.Sprint("a ", x.name, " ", fails), "b succeeded 0")
				if fails < x.least || fails > x.most {
					checkFault(t, f, s, 0, api.ErrArg)
					continue
				}
				checkText(t, f, s, fmt.Sprint(x.letter, fails, " S"))
			}
		}
		// A dead task may have been tried, but not as often as it may be.
		f = flowOf(task("a", 0), task("b", retry, 0))
		for fails := range retry + 1 {
			checkText(t, f, lines("a failed 1", fmt.Sprint("b dead ", fails)), fmt.Sprint("F1 D", fails))
		}
		checkFault(t, f, lines("a failed 1", fmt.Sprint("b dead ", retry+1)), 0, api.ErrArg)
	}
}

func TestReadOfBlanksAndNotes(t *testing.T) {
	f := flowOf(task("a", 1), task("b", 0), task("c", 0, 1))
	for _, s := range []string{
		"a running 1\nb failed 1\nc dead 0\n",
		"a running 1\nb failed 1\nc dead 0",
		"a  running   1\nb failed      1\nc    dead 0\n",
		"a\trunning\t1\nb\t\tfailed\t1\n\tc \t dead\t 0\t\n",
		"   a running 1   \n b failed 1 \nc dead 0 ",
		"# x\na running 1\nb failed 1\nc dead 0\n",
		"a running 1\n# x\n#b waiting 0\n\nb failed 1\n \t \nc dead 0\n",
		"a running 1\nb failed 1\nc dead 0\n# x\n\n\n#",
		"\n\n\na running 1\nb failed 1\nc dead 0\n\n\n",
		"a running 1 # x\nb failed 1 #x y z\nc dead 0 #",
		"a running 1\t# \u00e9\u2028\nb failed 1 # # #\nc dead 0 ##\n",
		" \n\t\n#\n # x\n\t#\na running 1\n \n#\nb failed 1\n\t\n # \nc dead 0\n\t# x\n ",
	} {
		checkText(t, f, s, "R1 F1 D")
	}
	// A note that begins within a word is none, and other white space separates nothing.
	checkFault(t, f, "a# running 1\nb failed 1\nc dead 0\n", 1, api.ErrWord)
	checkFault(t, f, "a running# 1\nb failed 1\nc dead 0\n", 1, api.ErrWord)
	checkFault(t, f, "a running 1\nb failed 1#\nc dead 0\n", 2, api.ErrForm)
	checkFault(t, f, "a running 1\nb failed #1\nc dead 0\n", 2, api.ErrWord)
	checkFault(t, f, "a running 1\nb #failed 1\nc dead 0\n", 2, api.ErrWord)
	checkFault(t, f, "a running 1\n#b failed 1\nc dead 0\n", 3, api.ErrWord)
	checkFault(t, f, "a\u00a0running 1\nb failed 1\nc dead 0\n", 1, api.ErrWord)
	checkFault(t, f, "a running 1\u3000\nb failed 1\nc dead 0\n", 1, api.ErrForm)
	checkFault(t, f, "a running 1\nb\rfailed 1\nc dead 0\n", 2, api.ErrForm)
	checkFault(t, f, "a running 1\r\nb failed 1\r\nc dead 0\r\n", 1, api.ErrForm)
	checkFault(t, f, "a running 1\n# \x00\nb failed 1\nc dead 0\n", 2, api.ErrForm)
	checkFault(t, f, "a running 1\vb failed 1\nc dead 0\n", 1, api.ErrForm)
}

// Without tasks there is nothing to tell.
func TestReadOfNoTask(t *testing.T) {
	for _, s := range []string{"", "\n", "\n\n\n", " ", "\t\n", "#", "# a waiting 0", "  # x\n\n#\n"} {
		checkText(t, flowOf(), s, "")
		checkFault(t, flowOf(task("a", 0)), s, 0, api.ErrWord)
		checkFault(t, flowOf(task("a", 0)), s+"\na\n", strings.Count(s, "\n")+2, api.ErrWord)
	}
	checkFault(t, flowOf(), "a waiting 0", 1, api.ErrWord)
	checkFault(t, flowOf(), "\n#\n x", 3, api.ErrWord)
	checkFault(t, flowOf(), "\n\x01", 2, api.ErrForm)
}

// One line fewer than tasks, and one more, wherever it is.
func TestReadOfOtherNumbersOfLines(t *testing.T) {
	f := flowOf(task("a", 0), task("b", 0), task("c", 0))
	all := []string{"a waiting 0", "b running 0", "c succeeded 0"}
	checkText(t, f, lines(all...), "W R S")
	checkFault(t, f, lines(all[:2]...), 0, api.ErrWord)
	checkFault(t, f, lines(append(all[:2:2], "", "# c succeeded 0", "")...), 0, api.ErrWord)
	checkFault(t, f, lines(all[:1]...), 0, api.ErrWord)
	checkFault(t, f, "", 0, api.ErrWord)
	checkFault(t, f, lines(all[1:]...), 1, api.ErrWord)
	checkFault(t, f, lines(all[0], all[2]), 2, api.ErrWord)
	for _, more := range append(all, "d waiting 0", "waiting", "c succeeded 0 0", "c done 0", "c succeeded 00", "x") {
		checkFault(t, f, lines(append(slices.Clip(all), more)...), 4, api.ErrWord)
		checkFault(t, f, lines(append(slices.Clip(all), "", "#", more, "", "\x01")...), 6, api.ErrWord)
		// It is the first of them that is told.
		checkFault(t, f, lines(append(slices.Clip(all), more, "c")...), 4, api.ErrWord)
	}
	checkFault(t, f, lines(append(slices.Clip(all), "d waiting 0\x7f")...), 4, api.ErrForm)
	checkText(t, f, lines(append(slices.Clip(all), "", "# d waiting 0")...), "W R S")
}

// Each task occurs once, in the order of the workflow.
func TestReadOfOtherOrders(t *testing.T) {
	f := flowOf(task("a", 0), task("b", 0), task("c", 0), task("d", 0))
	told := func(order string) string {
		var l []string
		for _, name := range order {
			l = append(l, string(name)+" waiting 0")
		}
		return lines(l...)
	}
	checkText(t, f, told("abcd"), "W W W W")
	for order, line := range map[string]int{
		"bacd": 1, "acbd": 2, "abdc": 3, "dbca": 1, "dcba": 1, "bcda": 1, "dabc": 1,
		"aabcd": 2, "abbcd": 3, "abccd": 4, "abcdd": 5, "abcda": 5, "abcdabcd": 5, "aacd": 2, "abad": 3, "abca": 4, "aaaa": 2, "abcc": 4,
		"abc": 0, "abce": 4, "ebcd": 1, "abde": 3, "Abcd": 1, "abCd": 3,
	} {
		checkFault(t, f, told(order), line, api.ErrWord)
	}
}

// Names are held against one another as they are, whatever they look like.
func TestReadOfNames(t *testing.T) {
	long := strings.Repeat("𝔸", api.MaxWord)
	f := flowOf(task("waiting", 0), task("Dead", 0), task("dead", 0), task("é1", 0), task(long, 0), task("a.b-c_1", 0), task("WORKFLOW", 0), task("failed.0", 0))
	checkText(t, f, lines("waiting waiting 0", "Dead running 0", "dead succeeded 0", "é1 failed 1", long+" waiting 0", "a.b-c_1 waiting 0", "WORKFLOW waiting 0", "failed.0 failed 1"), "W R S F1 W W W F1")
	checkLife(t, f, lifeOf("W R S F1 W W W F1"))
	one := flowOf(task("é", 0))
	checkText(t, one, "é waiting 0", "W")
	checkFault(t, one, "e\u0301 waiting 0", 1, api.ErrWord)
	checkFault(t, one, "É waiting 0", 1, api.ErrWord)
	checkFault(t, one, "é1 waiting 0", 1, api.ErrWord)
	checkFault(t, one, "0 waiting é", 1, api.ErrWord)
}

// The names of the states are just these words.
func TestReadOfStates(t *testing.T) {
	f := flowOf(task("a", 0))
	for _, name := range []string{
		"Waiting", "WAITING", "waitin", "waitings", "wait", "runs", "run", "Running", "done", "success", "succeed", "Succeeded", "fail", "Failed", "died", "Dead", "deaD", "cancel", "canceled", "Cancelled",
		"0", "1", "2", "3", "4", "5", "6", "-1", "waiting,", "_", "W", "é", "a", "w\u0430iting",
	} {
		checkFault(t, f, "a "+name+" 0\n", 1, api.ErrWord)
	}
}

// What is no time is told with its line, and what is too great for the task without one.
func TestReadOfNumbers(t *testing.T) {
	f := flowOf(task("a", api.MaxRetry), task("b", api.MaxRetry))
	for s, e := range map[string]api.Errno{
		"00": api.ErrForm, "01": api.ErrForm, "007": api.ErrForm, "-1": api.ErrForm, "+1": api.ErrForm, "1.": api.ErrForm, "1e1": api.ErrForm, "x": api.ErrForm, "0x1": api.ErrForm, "1_0": api.ErrForm, "٣": api.ErrForm, "²": api.ErrForm,
		"1099511627776": api.ErrOver, "9223372036854775808": api.ErrOver, "18446744073709551616": api.ErrOver, "99999999999999999999999999": api.ErrOver, "01099511627776": api.ErrForm,
	} {
		checkFault(t, f, lines("a waiting "+s, "b waiting 0"), 1, e)
		checkFault(t, f, lines("a waiting 0", "b waiting "+s), 2, e)
		checkFault(t, f, lines("a waiting 20", "", "b waiting "+s+" # x"), 3, e)
	}
	for _, s := range []string{"21", "22", "1000", "4294967296", "1099511627775"} {
		checkFault(t, f, lines("a waiting "+s, "b waiting 0"), 0, api.ErrArg)
		checkFault(t, f, lines("a waiting 0", "b waiting "+s), 0, api.ErrArg)
	}
	checkText(t, f, lines("a waiting 20", "b failed 21"), "W20 F21")
}

// Two words in a line, and four.
func TestReadOfOtherNumbersOfWords(t *testing.T) {
	f := flowOf(task("a", 0), task("b", 0))
	for _, line := range []string{"a", "a waiting", "waiting 0", "a 0", "a waiting 0 0", "a waiting 0 x", "a a waiting 0", "a waiting waiting 0", "a waiting # 0", "a # waiting 0", "a waiting 0 0 # x", "a waiting 0 b waiting 0", "x"} {
		checkFault(t, f, lines(line, "b waiting 0"), 1, api.ErrWord)
		checkFault(t, f, lines("# x", line, "b waiting 0"), 2, api.ErrWord)
		checkFault(t, f, lines("a waiting 0", strings.ReplaceAll(line, "a", "b")), 2, api.ErrWord)
	}
}
