package flow

import (
	"fmt"
	"slices"
	"strings"
	"testing"

	"timekeeper/api"
)

// keywords are all first words of a line.
func keywords() []string {
	return []string{"WORKFLOW", "DEADLINE", "PRIORITY", "JOB", "NODES", "WALLTIME", "RETRY", "DONE", "PARENT"}
}

// cases returns the word in capitals, in small letters, and mixed.
func cases(word string) []string {
	low := strings.ToLower(word)
	mixed := []byte(word)
	other := []byte(low)
	for i := range mixed {
		if i%2 == 1 {
			mixed[i], other[i] = other[i], mixed[i]
		}
	}
	return []string{word, low, word[:1] + low[1:], string(mixed), string(other), low[:len(low)-1] + word[len(low)-1:]}
}

func checkLine(t *testing.T, l []string, keyword string, words []string, e api.Errno) {
	t.Helper()
	k, w, err := Line(l...)
	if k != keyword || !slices.Equal(w, words) || err != e {
		t.Errorf("Line(%.100q) = %q, %.100q, %d; asked for: %q, %.100q, %d", l, k, w, err, keyword, words, e)
	}
}

// refuseLine is checkLine for what is no line.
func refuseLine(t *testing.T, l ...string) {
	t.Helper()
	checkLine(t, l, "", nil, api.ErrWord)
}

func TestLineWithoutWords(t *testing.T) {
	checkLine(t, nil, "", nil, api.OK)
	checkLine(t, []string{}, "", nil, api.OK)
}

func TestLineOfEachKeyword(t *testing.T) {
	for _, keyword := range keywords() {
		for _, word := range cases(keyword) {
			for n := range 5 {
				l := []string{"x", "7", "y", "z"}[:n]
				want, ok := map[string]int{"NODES": 2, "WALLTIME": 2, "RETRY": 2, "PARENT": -1}[keyword]
				if !ok {
					want = 1
				}
				if n == want {
					checkLine(t, append([]string{word}, l...), keyword, l, api.OK)
				} else {
					refuseLine(t, append([]string{word}, l...)...)
				}
			}
		}
	}
}

// Line takes any words: what they mean is not its business.
func TestLineOfAnyWords(t *testing.T) {
	for _, word := range []string{"", " ", "a b", "\xff", "\n", "#", "007", "-1", "1", "CHILD", "PARENT", "JOB", strings.Repeat("x", api.MaxText)} {
		checkLine(t, []string{"job", word}, "JOB", []string{word}, api.OK)
		checkLine(t, []string{"workflow", word}, "WORKFLOW", []string{word}, api.OK)
		checkLine(t, []string{"nodes", word, word}, "NODES", []string{word, word}, api.OK)
		if word != "CHILD" {
			checkLine(t, []string{"parent", word, "child", word}, "PARENT", []string{word, "CHILD", word}, api.OK)
		}
		if word != "JOB" {
			refuseLine(t, word)
			refuseLine(t, word, "a")
			refuseLine(t, word, "a", "b")
		}
	}
}

func TestLineOfOtherKeywords(t *testing.T) {
	for _, keyword := range keywords() {
		for _, word := range []string{
			keyword[1:], keyword[:len(keyword)-1], keyword + "S", " " + keyword, keyword + " ", keyword + "\x00", "\xff" + keyword,
			"#" + keyword, keyword + ":", strings.Replace(keyword, "O", "0", 1) + "0", strings.ToLower(keyword) + "é", keyword + keyword,
		} {
			refuseLine(t, word)
			refuseLine(t, word, "a")
			refuseLine(t, word, "a", "1")
			refuseLine(t, word, "a", "CHILD", "b")
		}
	}
	for _, word := range []string{"CHILD", "child", "OUTAGE", "SUBMIT", "END", "w", "JOBS", "J", ""} {
		refuseLine(t, word)
		refuseLine(t, word, "a")
		refuseLine(t, word, "a", "1")
	}
}

// Letters that Unicode folds to an ASCII letter are others here, and so are the bytes 20 (hexadecimal) away that are no letters.
func TestLineFoldsASCIILettersAlone(t *testing.T) {
	refuseLine(t, "WOR\u212aFLOW", "w")
	refuseLine(t, "wor\u212aflow", "w")
	refuseLine(t, "NODE\u017f", "a", "1")
	refuseLine(t, "DEADL\u0131NE", "1")
	refuseLine(t, "DEADL\u0130NE", "1")
	refuseLine(t, "\uff2aOB", "a")
	refuseLine(t, "PARENT", "a", "CH\u0131LD", "b")
	refuseLine(t, "PARENT", "a", "CHİLD", "b")
	checkLine(t, []string{"PARENT", "chıld", "child", "b"}, "PARENT", []string{"chıld", "CHILD", "b"}, api.OK)
	for _, keyword := range keywords() {
		for i := range keyword {
			for _, d := range []byte{0x40, 0x60, 0x80, 0x01} {
				b := []byte(keyword)
				b[i] ^= d
				refuseLine(t, string(b), "a")
				refuseLine(t, string(b), "a", "1")
				refuseLine(t, string(b), "a", "CHILD", "b")
			}
		}
	}
}

func TestLineOfParents(t *testing.T) {
	for _, parent := range cases("PARENT") {
		for _, child := range append(cases("CHILD"), childs()...) {
			for before := range 4 {
				for behind := range 4 {
					a, b := []string{"a", "parent", "c"}[:before], []string{"x", "JOB", "a"}[:behind]
					l := slices.Concat([]string{parent}, a, []string{child}, b)
					if before == 0 || behind == 0 {
						refuseLine(t, l...)
						continue
					}
					checkLine(t, l, "PARENT", slices.Concat(a, []string{"CHILD"}, b), api.OK)
					for i := 1; i <= len(l); i++ {
						refuseLine(t, slices.Insert(slices.Clone(l), i, "Child")...)
					}
				}
			}
			refuseLine(t, parent, child)
			refuseLine(t, parent, child, child)
			refuseLine(t, parent, child, child, child)
			refuseLine(t, parent, "a", child, "b", child, "c")
			refuseLine(t, parent, "a"+child, "b")
			refuseLine(t, child, "a", parent, "b")
		}
		refuseLine(t, parent)
		refuseLine(t, parent, "a", "b", "c")
	}
}

func TestLineOfVeryManyWords(t *testing.T) {
	const n = 1 << 20
	words := make([]string, n)
	for i := range words {
		words[i] = fmt.Sprint("n", i%1000)
	}
	refuseLine(t, words...)
	words[0] = "Job"
	refuseLine(t, words...)
	words[0] = "Parent"
	refuseLine(t, words...)
	words[n/2] = "child"
	want := slices.Clone(words[1:])
	want[n/2-1] = "CHILD"
	checkLine(t, words, "PARENT", want, api.OK)
	words[n-1] = "child"
	refuseLine(t, words...)
	words[n/2] = "a"
	refuseLine(t, words...)
}

// All lines of up to five of these words.
func TestAllShortLines(t *testing.T) {
	pieces := []string{"Job", "nodes", "PARENT", "Child", "a", ""}
	var grow func(l []string)
	grow = func(l []string) {
		k, w, e := wantLine(l)
		checkLine(t, l, k, w, e)
		if len(l) < 5 {
			for _, p := range pieces {
				grow(append(slices.Clip(l), p))
			}
		}
	}
	grow(nil)
}
