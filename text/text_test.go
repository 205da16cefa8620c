package text

import (
	"slices"
	"strings"
	"testing"
	"unicode"
	"unicode/utf8"

	"timekeeper/api"
)

// broken holds bytes that are no valid UTF-8, each of them in another way.
func broken() []string {
	return []string{
		"\x80", "\xbf", "\xff", "\xfe", "\xc3", "\xe2\x82", "\xf0\x9f\x98", // alone, or cut off
		"\xc0\x80", "\xc0\xa3", "\xc1\xbf", "\xe0\x80\x80", "\xf0\x80\x80\x80", // more bytes than needed
		"\xed\xa0\x80", "\xed\xbf\xbf", // halves of a pair of UTF-16
		"\xf4\x90\x80\x80", "\xf5\x80\x80\x80", "\xf8\x88\x80\x80\x80", // beyond U+10FFFF
	}
}

// placed puts x at the begin, in the middle and at the end of a text, and alone.
func placed(x string) []string {
	return []string{x, x + "ab c", "ab" + x + " c", "ab " + x + " c", "ab c" + x}
}

// forms calls f with all texts of up to n of the given pieces.
func forms(n int, pieces []string, f func(s string)) {
	f("")
	if n == 0 {
		return
	}
	var grow func(s string, left int)
	grow = func(s string, left int) {
		for _, p := range pieces {
			f(s + p)
			if left > 1 {
				grow(s+p, left-1)
			}
		}
	}
	grow("", n)
}

func wantLines(s string) ([]string, api.Errno) {
	switch {
	case len(s) > api.MaxText:
		return nil, api.ErrLong
	case !utf8.ValidString(s):
		return nil, api.ErrForm
	}
	l := strings.Split(s, "\n")
	if l[len(l)-1] == "" {
		l = l[:len(l)-1]
	}
	return l, api.OK
}

func wantWords(s string) ([]string, api.Errno) {
	if !utf8.ValidString(s) {
		return nil, api.ErrForm
	}
	for c := byte(0); c < 0x80; c++ {
		if (c < 0x20 || c == 0x7f) && c != 9 && strings.IndexByte(s, c) >= 0 {
			return nil, api.ErrForm
		}
	}
	var l []string
	for _, w := range strings.Split(strings.ReplaceAll(s, "\t", " "), " ") {
		if strings.HasPrefix(w, "#") {
			break
		}
		if w != "" {
			l = append(l, w)
		}
	}
	return l, api.OK
}

func wantName(s string) bool {
	if !utf8.ValidString(s) {
		return false
	}
	runes := []rune(s)
	if len(runes) < 1 || len(runes) > api.MaxWord {
		return false
	}
	for i, r := range runes {
		letter := unicode.Is(unicode.L, r)
		other := unicode.Is(unicode.Nd, r) || strings.ContainsRune("_-.", r)
		if !letter && (i == 0 || !other) {
			return false
		}
	}
	return true
}

func wantSame(a, b string) bool {
	const capitals, small = "ABCDEFGHIJKLMNOPQRSTUVWXYZ", "abcdefghijklmnopqrstuvwxyz"
	for i := range capitals {
		a = strings.ReplaceAll(a, capitals[i:i+1], small[i:i+1])
		b = strings.ReplaceAll(b, capitals[i:i+1], small[i:i+1])
	}
	return a == b
}

func checkLines(t *testing.T, s string) {
	t.Helper()
	l, e := Lines(s)
	if wl, we := wantLines(s); e != we || !slices.Equal(l, wl) {
		t.Errorf("Lines(%.60q) = %.60q, %d", s, l, e)
	}
}

// checkWords also joins the words, and splits them again.
func checkWords(t *testing.T, s string) {
	t.Helper()
	l, e := Words(s)
	if wl, we := wantWords(s); e != we || !slices.Equal(l, wl) {
		t.Errorf("Words(%.60q) = %.60q, %d", s, l, e)
	}
	if again, e := Words(Join(l...)); e != api.OK || !slices.Equal(again, l) {
		t.Errorf("the joined words of %.60q are %.60q, %d", s, again, e)
	}
}

func checkName(t *testing.T, s string) {
	t.Helper()
	if got := Name(s); got != wantName(s) {
		t.Errorf("Name(%.90q) = %v", s, got)
	}
}

func checkRunes(t *testing.T, s string) {
	t.Helper()
	if got, want := Runes(s), len([]rune(s)); got != want {
		t.Errorf("Runes(%.60q) = %d", s, got)
	}
}

func checkSame(t *testing.T, a, b string) {
	t.Helper()
	if got := Same(a, b); got != wantSame(a, b) {
		t.Errorf("Same(%q, %q) = %v", a, b, got)
	}
	if Same(a, b) != Same(b, a) {
		t.Errorf("Same(%q, %q) depends on the order", a, b)
	}
}

func TestLines(t *testing.T) {
	for _, x := range []struct {
		s string
		l []string
	}{
		{"", nil},
		{"\n", []string{""}},
		{"\n\n", []string{"", ""}},
		{"a", []string{"a"}},
		{"a\n", []string{"a"}},
		{"a\nb", []string{"a", "b"}},
		{"a\nb\n", []string{"a", "b"}},
		{"a\n\n", []string{"a", ""}},
		{"\na", []string{"", "a"}},
		{"a\n\n\nb", []string{"a", "", "", "b"}},
		{"a\n ", []string{"a", " "}},
		{" a \t\n# b\n", []string{" a \t", "# b"}},
		{"a\r\nb\r", []string{"a\r", "b\r"}},
		{"a\x00\x0b\x0c\x7f\nb", []string{"a\x00\x0b\x0c\x7f", "b"}},
		{"a\u0085b\u2028c\u2029d", []string{"a\u0085b\u2028c\u2029d"}},
		{"é\n世\n\U0001f600\ufffd", []string{"é", "世", "\U0001f600\ufffd"}},
		{"\u010a\u0a0a", []string{"\u010a\u0a0a"}}, // code points that end in 0a
	} {
		if l, e := Lines(x.s); e != api.OK || !slices.Equal(l, x.l) {
			t.Errorf("Lines(%q) = %q, %d", x.s, l, e)
		}
	}
}

func TestLinesOfAnyForm(t *testing.T) {
	forms(6, []string{"\n", "a", " ", "é", "\xff"}, func(s string) { checkLines(t, s) })
}

func TestLinesUpToMaxText(t *testing.T) {
	const m = api.MaxText
	for _, s := range []string{
		strings.Repeat("a", m), strings.Repeat("a", m-1) + "\n", strings.Repeat("\n", m),
		strings.Repeat("é", m/2), strings.Repeat("世", m/3),
	} {
		if len(s) != m {
			t.Fatalf("%.20q has %d bytes", s, len(s))
		}
		checkLines(t, s)
		if l, e := Lines(s); e != api.OK || len(l) == 0 {
			t.Errorf("Lines of %d bytes: %d lines, %d", len(s), len(l), e)
		}
		for _, more := range []string{"a", "\n", " ", "é"} {
			if l, e := Lines(s + more); e != api.ErrLong || len(l) != 0 {
				t.Errorf("Lines of %d bytes: %d lines, %d", len(s)+len(more), len(l), e)
			}
		}
	}
	if l, _ := Lines(strings.Repeat("\n", m)); len(l) != m {
		t.Errorf("%d line feeds: %d lines", m, len(l))
	}
	// Bytes count, not runes.
	if _, e := Lines(strings.Repeat("é", m/2+1)); e != api.ErrLong {
		t.Errorf("%d runes of two bytes: %d", m/2+1, e)
	}
}

func TestLinesOfBrokenText(t *testing.T) {
	for _, x := range broken() {
		for _, s := range placed(x) {
			for _, s := range []string{s, s + "\n", "\n" + s, "a\n" + s + "\nb"} {
				if l, e := Lines(s); e != api.ErrForm || len(l) != 0 {
					t.Errorf("Lines(%q) = %q, %d", s, l, e)
				}
			}
		}
		if l, e := Lines(strings.Repeat("a", api.MaxText-len(x)) + x); e != api.ErrForm || len(l) != 0 {
			t.Errorf("MaxText bytes with %q at the end: %d", x, e)
		}
	}
}

// A text that is too long is named first, even if it is broken too.
func TestLinesTellsLengthFirst(t *testing.T) {
	a := strings.Repeat("a", api.MaxText)
	for _, x := range broken() {
		for _, s := range []string{x + a, a[:100] + x + a[100:], a + x} {
			if l, e := Lines(s); e != api.ErrLong || len(l) != 0 {
				t.Errorf("%d bytes with %q: %d", len(s), x, e)
			}
		}
	}
}

func TestWords(t *testing.T) {
	for _, x := range []struct {
		s string
		l []string
	}{
		{"", nil},
		{" ", nil},
		{"\t", nil},
		{" \t \t", nil},
		{"a", []string{"a"}},
		{"JOB a  # x", []string{"JOB", "a"}},
		{"a b", []string{"a", "b"}},
		{"a\tb", []string{"a", "b"}},
		{"  a \t\t b  ", []string{"a", "b"}},
		{"\ta\t", []string{"a"}},
		{"#", nil},
		{"# a b", nil},
		{"#a b", nil},
		{"  #a", nil},
		{"\t# a", nil},
		{"##", nil},
		{"a #", []string{"a"}},
		{"a\t#b c", []string{"a"}},
		{"a # b # c", []string{"a"}},
		{"a#b c", []string{"a#b", "c"}},
		{"a# b", []string{"a#", "b"}},
		{"a b#c #d e", []string{"a", "b#c"}},
		{"é 世界\t\U0001f600", []string{"é", "世界", "\U0001f600"}},
		{"a\u00a0b\u2003c\u3000d", []string{"a\u00a0b\u2003c\u3000d"}}, // other white space
		{"a\u0080b\u0085c\u009fd", []string{"a\u0080b\u0085c\u009fd"}}, // controls beyond ASCII
		{"\ufeffa \ufffd", []string{"\ufeffa", "\ufffd"}},
		{"\uff03 a", []string{"\uff03", "a"}},                                               // another number sign
		{"\u0120\u0109\u0123 \u2020\u0909", []string{"\u0120\u0109\u0123", "\u2020\u0909"}}, // code points that end in 20, 09 and 23
		{"!~ \"$'", []string{"!~", "\"$'"}},
	} {
		if l, e := Words(x.s); e != api.OK || !slices.Equal(l, x.l) {
			t.Errorf("Words(%q) = %q, %d", x.s, l, e)
		}
		checkWords(t, x.s)
	}
}

func TestWordsOfAnyForm(t *testing.T) {
	forms(6, []string{"a", "#", " ", "\t", "é", "\n"}, func(s string) { checkWords(t, s) })
	forms(4, []string{"b", "#", " ", "\x7f", "\x00", "\x80", "\xc3", "\u0080"}, func(s string) { checkWords(t, s) })
}

// Each byte below 80, wherever it stands: a control character is refused, unless it is the tab.
func TestWordsWithControlCharacters(t *testing.T) {
	for c := range 0x80 {
		want := api.OK
		if (c < 0x20 || c == 0x7f) && c != '\t' {
			want = api.ErrForm
		}
		x := string(rune(c))
		for _, s := range append(placed(x), "# "+x, "a # b"+x+"c", " "+x, x+" ") {
			l, e := Words(s)
			if e != want || e != api.OK && len(l) != 0 {
				t.Errorf("Words(%q) = %q, %d", s, l, e)
			}
			checkWords(t, s)
		}
	}
}

func TestWordsOfBrokenText(t *testing.T) {
	for _, x := range broken() {
		for _, s := range append(placed(x), "# "+x, "a # "+x+" b", "\n"+x, x+"\x00") {
			if l, e := Words(s); e != api.ErrForm || len(l) != 0 {
				t.Errorf("Words(%q) = %q, %d", s, l, e)
			}
		}
	}
}

// A line has no greatest length of its own.
func TestWordsOfLongLine(t *testing.T) {
	const many = 3 * api.MaxText
	if l, e := Words(strings.Repeat("é ", many)); e != api.OK || len(l) != many {
		t.Errorf("%d words, %d", len(l), e)
	}
	if l, e := Words(strings.Repeat("a", many)); e != api.OK || len(l) != 1 || len(l[0]) != many {
		t.Errorf("%d words, %d", len(l), e)
	}
	if l, e := Words(strings.Repeat(" ", many) + "#"); e != api.OK || len(l) != 0 {
		t.Errorf("%d words, %d", len(l), e)
	}
}

func TestName(t *testing.T) {
	for _, s := range []string{
		"a", "Z", "a1", "A_b-c.d", "a--", "a..", "a__", "a0123456789", "CHILD",
		"é1", "é", "ß", "Ж", "世", "ª", "ʰ", "ǅ", "א", "Å", "𝒜", "a世b", // letters of all kinds
		"a٣", "a९", "a１", "a𝟘", // decimal digits
		strings.Repeat("a", api.MaxWord), strings.Repeat("é", api.MaxWord),
		strings.Repeat("𝒜", api.MaxWord), "a" + strings.Repeat("𝟘", api.MaxWord-1),
	} {
		if !Name(s) {
			t.Errorf("Name(%q) is false", s)
		}
		checkName(t, s)
	}
	for _, s := range []string{
		"", "1", "1a", "_", "_a", "-", "-a", ".", ".a", "٣", "٣a", "１a", "𝟘a", // another first rune
		" ", "a ", " a", "a b", "a\tb", "a\n", "\na", "a\x00", "a\x7f", "a\u00a0b",
		"a#", "#a", "a/b", "a:b", "a+b", "a,b", "a@b", "a[b", "a`b", "a{b", "a\\b", "a*",
		"a²", "a½", "aⅧ", "Ⅷ", "a①", "a०\u0903", "e\u0301", "\u0301", // numbers and marks that are neither
		"a‐b", "a–b", "a·b", "a…", "a\u200db", "a\U0001f600", "\ufffd", "a\ufffd", "\ufeffa",
		strings.Repeat("a", api.MaxWord+1), strings.Repeat("é", api.MaxWord+1),
		strings.Repeat("a", api.MaxWord) + " ", strings.Repeat("a", api.MaxText),
		"a" + strings.Repeat("𝟘", api.MaxWord),
	} {
		if Name(s) {
			t.Errorf("Name(%.90q) is true", s)
		}
		checkName(t, s)
	}
}

func TestNameOfBrokenText(t *testing.T) {
	for _, x := range broken() {
		for _, s := range []string{x, x + "ab", "a" + x + "b", "ab" + x, strings.Repeat("a", api.MaxWord) + x} {
			if Name(s) {
				t.Errorf("Name(%q) is true", s)
			}
		}
	}
}

// Every rune there is, alone and behind a letter.
func TestNameOfEachRune(t *testing.T) {
	for r := rune(0); r <= unicode.MaxRune; r++ {
		if utf8.ValidRune(r) {
			checkName(t, string(r))
			checkName(t, "a"+string(r))
		}
	}
}

func TestJoin(t *testing.T) {
	for _, x := range []struct {
		l []string
		s string
	}{
		{nil, ""},
		{[]string{""}, ""},
		{[]string{"a"}, "a"},
		{[]string{"a", "b"}, "a b"},
		{[]string{"JOB", "a", "é"}, "JOB a é"},
		{[]string{"", ""}, " "},
		{[]string{"", "a", ""}, " a "},
		{[]string{" ", "#", "\xff", "a b"}, "  # \xff a b"},
	} {
		if s := Join(x.l...); s != x.s {
			t.Errorf("Join(%q) = %q", x.l, s)
		}
	}
	if s := Join(); s != "" {
		t.Errorf("Join() = %q", s)
	}
}

// Lists that were not split from a line: joined and split they are the same words.
func TestJoinedWordsAreTheSameWords(t *testing.T) {
	for _, l := range [][]string{
		nil, {"a"}, {"a", "b", "a"}, {"a#", "b#c"}, {"é", "世界", "\U0001f600"}, {"PARENT", "a", "b", "CHILD", "c"},
		slices.Repeat([]string{"word"}, api.MaxText),
	} {
		if again, e := Words(Join(l...)); e != api.OK || !slices.Equal(again, l) {
			t.Errorf("%.60q became %.60q, %d", l, again, e)
		}
	}
}

func TestRunes(t *testing.T) {
	for s, want := range map[string]int{
		"": 0, "a": 1, "abc": 3, "é": 1, "é\xff": 2, "世界": 2, "\U0001f600": 1, "\U0010ffff": 1, "\ufffd": 1, "e\u0301": 2,
		"\x00": 1, "\n \t": 3, "\x80": 1, "\xff\xfe": 2, "\xc3": 1, "\xc3a": 2, "\xe2\x82": 2, "\xf0\x9f\x98": 3,
		"\xe2\x82\xe2\x82\xac": 3, "\xc0\x80": 2, "\xed\xa0\x80": 3, "\xf4\x90\x80\x80": 4, "\xf8\x88\x80\x80\x80": 5,
		strings.Repeat("世", api.MaxText): api.MaxText, strings.Repeat("\xff", api.MaxText): api.MaxText,
	} {
		if n := Runes(s); n != want {
			t.Errorf("Runes(%.60q) = %d", s, n)
		}
		checkRunes(t, s)
	}
	forms(5, []string{"a", "é", "\xc3", "\xe2", "\x82", "\xac", "\xff"}, func(s string) { checkRunes(t, s) })
}

func TestSame(t *testing.T) {
	for _, x := range [][2]string{
		{"", ""}, {"a", "a"}, {"a", "A"}, {"JOB", "job"}, {"JoB", "jOb"}, {"WallTime", "WALLTIME"},
		{"ABCDEFGHIJKLMNOPQRSTUVWXYZ", "abcdefghijklmnopqrstuvwxyz"},
		{"éA", "éa"}, {"世 X", "世 x"}, {"\xffA", "\xffa"}, {"1 \n#", "1 \n#"},
	} {
		if !Same(x[0], x[1]) {
			t.Errorf("Same(%q, %q) is false", x[0], x[1])
		}
		checkSame(t, x[0], x[1])
	}
	for _, x := range [][2]string{
		{"", "a"}, {"a", "ab"}, {"A", "AB"}, {"a", "b"}, {"a", "B"}, {"job", "job "}, {"a", "a\x00"},
		{"é", "É"}, {"ж", "Ж"}, {"ａ", "Ａ"}, {"σ", "ς"}, // capitals of others
		{"k", "\u212a"}, {"K", "\u212a"}, {"s", "\u017f"}, {"i", "\u0130"}, {"ss", "ß"}, // what folds to ASCII
		{"@", "`"}, {"[", "{"}, {"\\", "|"}, {"]", "}"}, {"^", "~"}, {"_", "\x7f"}, {"\x00", " "}, {"\t", ")"}, // 20 apart
		{"\xff", "\xfe"}, {"\xff", "\ufffd"}, {"\xc1", "\xe1"}, {"\xc3", "\xe3"}, {"é", "e\u0301"},
	} {
		if Same(x[0], x[1]) {
			t.Errorf("Same(%q, %q) is true", x[0], x[1])
		}
		checkSame(t, x[0], x[1])
	}
}

// Every byte against every other one, alone and within a text.
func TestSameOfAnyBytes(t *testing.T) {
	for a := range 0x100 {
		for b := range 0x100 {
			x, y := string([]byte{byte(a)}), string([]byte{byte(b)})
			checkSame(t, x, y)
			checkSame(t, "Q"+x+"r", "q"+y+"R")
		}
	}
}

// What a caller does to one answer is not seen in another one, and a list that is joined stays as it was.
func TestAnswersAreNewMemory(t *testing.T) {
	calls := map[string]func(string) ([]string, api.Errno){"a\nb\nc\nd\ne\n": Lines, "a b c d e": Words}
	for s, call := range calls {
		first, _ := call(s)
		second, _ := call(s)
		kept := slices.Clone(second)
		first = append(first, "x", "y", "z")
		for i := range first {
			first[i] = "changed"
		}
		third, _ := call(s)
		if !slices.Equal(second, kept) || !slices.Equal(third, kept) {
			t.Errorf("%q: %q and %q", s, second, third)
		}
	}
	words := []string{"a", "", "b c"}
	kept := slices.Clone(words)
	joined := Join(words...)
	words[0] = "changed"
	if joined != "a  b c" {
		t.Errorf("the joined words became %q", joined)
	}
	words[0] = kept[0]
	if Join(words...); !slices.Equal(words, kept) {
		t.Errorf("the words became %q", words)
	}
}

func FuzzText(f *testing.F) {
	for _, s := range append(broken(), "", "JOB a  # x", "é\xff", "é1", "a\n\nb\n", "\ta#b #c", "a\x7f") {
		f.Add(s, strings.ToUpper(s))
	}
	f.Fuzz(func(t *testing.T, a, b string) {
		checkLines(t, a)
		checkWords(t, a)
		checkName(t, a)
		checkRunes(t, a)
		checkSame(t, a, b)
	})
}
