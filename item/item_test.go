package item

import (
	"math"
	"reflect"
	"slices"
	"strings"
	"testing"

	"timekeeper/api"
)

// list makes a list without the package's own calls.
func list(l ...api.Item) api.Item { return api.Item{Kind: api.List, L: l} }

func number(n int) api.Item { return api.Item{Kind: api.Number, N: n} }

func words(s string) api.Item { return api.Item{Kind: api.Text, S: s} }

// within puts x into so many lists, one within the other.
func within(x api.Item, lists int) api.Item {
	for range lists {
		x = list(x)
	}
	return x
}

// flat is a list of n numbers.
func flat(n int) api.Item {
	return list(slices.Repeat([]api.Item{number(7)}, n)...)
}

// itself is a list that contains itself so many times.
func itself(times int) api.Item {
	l := make([]api.Item, times)
	for i := range l {
		l[i] = list(l...)
	}
	return l[0]
}

// allowed holds values that Check accepts.
func allowed() []api.Item {
	return []api.Item{
		number(0), number(1), number(-1), number(255), number(256), number(api.MaxTime), number(math.MaxInt), number(math.MinInt),
		words(""), words("a"), words("é\n\x00"), words("\xff\xfe"), words(strings.Repeat("ab", api.MaxText)),
		list(), {Kind: api.List, L: []api.Item{}}, {Kind: api.Number, N: 3, L: []api.Item{}}, {Kind: api.Text, S: "b", L: []api.Item{}},
		list(number(5)), list(words("")), list(list()), list(number(1), words("b"), list(number(2), list(), words("c"))),
		list(list(), list(list()), list(list(), list())), list(number(1), number(1), number(1)),
		within(number(9), api.MaxDeep-1), within(words("z"), api.MaxDeep-1), within(list(), api.MaxDeep-1),
		flat(api.MaxItems - 1), list(flat(9998), flat(api.MaxItems-9998-3)),
		list(within(flat(100), api.MaxDeep-3), words("behind")),
	}
}

// misshapen holds values that are none by their own fields.
func misshapen() []api.Item {
	var l []api.Item
	for _, kind := range []int{math.MinInt, -1, 0, 4, 5, 256 + api.Number, 1<<32 + api.List, math.MaxInt} {
		l = append(l, api.Item{Kind: kind}, api.Item{Kind: kind, N: 1}, api.Item{Kind: kind, S: "a"}, api.Item{Kind: kind, L: []api.Item{number(1)}})
	}
	return append(l,
		api.Item{Kind: api.Number, S: "a"}, api.Item{Kind: api.Number, N: 1, S: "\x00"},
		api.Item{Kind: api.Number, L: []api.Item{number(1)}}, api.Item{Kind: api.Number, L: []api.Item{{}}},
		api.Item{Kind: api.Text, N: 1}, api.Item{Kind: api.Text, S: "a", N: -1},
		api.Item{Kind: api.Text, L: []api.Item{words("a")}}, api.Item{Kind: api.Text, S: "a", L: []api.Item{words("a")}},
		api.Item{Kind: api.List, N: 1}, api.Item{Kind: api.List, S: "a"},
		api.Item{Kind: api.List, N: -1, L: []api.Item{number(1)}}, api.Item{Kind: api.List, S: "a", L: []api.Item{number(1)}},
	)
}

// refused holds values of all sorts that Check does not accept.
func refused() []api.Item {
	l := []api.Item{
		within(number(9), api.MaxDeep), within(words(""), api.MaxDeep), within(list(), api.MaxDeep), within(number(9), 1<<16-1),
		list(number(1), within(number(9), api.MaxDeep-1), number(2)), list(within(flat(100), api.MaxDeep-2), words("behind")),
		flat(api.MaxItems), flat(3 * api.MaxItems), list(flat(9998), flat(api.MaxItems-9998-2)), list(flat(api.MaxItems-2), words(""), list()),
		itself(1), itself(2), itself(100), list(number(1), itself(3)),
	}
	for _, x := range misshapen() {
		l = append(l, x, list(x), list(number(1), words("a"), x), list(x, number(1)), within(x, api.MaxDeep-1), list(list(list(), list(x)), list()))
	}
	return l
}

// many stands for far more values than it takes memory: each list has one and the same list ten times.
func many(lists int) api.Item {
	x := list()
	for range lists {
		x = list(slices.Repeat([]api.Item{x}, 10)...)
	}
	return x
}

// isZero reports whether x is what stands beside an error.
func isZero(x api.Item) bool {
	return x.Kind == 0 && x.N == 0 && x.S == "" && len(x.L) == 0
}

func TestNumStrLst(t *testing.T) {
	for _, n := range []int{0, 1, -1, math.MaxInt, math.MinInt} {
		if x := Num(n); !reflect.DeepEqual(x, number(n)) {
			t.Errorf("Num(%d) = %v", n, x)
		}
	}
	for _, s := range []string{"", "a", "é", "\xff\x00", strings.Repeat("a", api.MaxText+1)} {
		if x := Str(s); !reflect.DeepEqual(x, words(s)) {
			t.Errorf("Str(%.20q) = %.40v", s, x)
		}
	}
	if x := Lst(); x.Kind != api.List || x.N != 0 || x.S != "" || len(x.L) != 0 {
		t.Errorf("Lst() = %v", x)
	}
	if x := Lst(nil...); x.Kind != api.List || len(x.L) != 0 {
		t.Errorf("Lst of no list = %v", x)
	}
	if x := Lst(Num(1), Str("a"), Lst(Num(2))); !reflect.DeepEqual(x, list(number(1), words("a"), list(number(2)))) {
		t.Errorf("Lst = %v", x)
	}
}

// Nothing is checked: what Check refuses stays as it is.
func TestLstOfWhatCheckRefuses(t *testing.T) {
	for _, y := range misshapen() {
		if x := Lst(number(1), y, list(y)); !reflect.DeepEqual(x, list(number(1), y, list(y))) {
			t.Errorf("Lst with %v = %v", y, x)
		}
	}
	if x := Lst(flat(api.MaxItems).L...); !Same(x, flat(api.MaxItems)) {
		t.Errorf("Lst of MaxItems values has %d", len(x.L))
	}
	if x := Lst(within(number(9), 1000)); !Same(x, within(number(9), 1001)) {
		t.Error("Lst of a deep value")
	}
}

func TestCheck(t *testing.T) {
	for i, x := range allowed() {
		if e := Check(x); e != api.OK {
			t.Errorf("value %d is refused: %d", i, e)
		}
	}
	for i, x := range refused() {
		if e := Check(x); e != api.ErrArg {
			t.Errorf("value %d: %d", i, e)
		}
	}
}

func TestCheckUpToMaxDeep(t *testing.T) {
	for _, x := range []api.Item{number(1), words("a"), list()} {
		for deep := 1; deep <= api.MaxDeep+3; deep++ {
			want := api.OK
			if deep > api.MaxDeep {
				want = api.ErrArg
			}
			y := within(x, deep-1)
			if e := Check(y); e != want {
				t.Errorf("%v at depth %d: %d", x, deep, e)
			}
			// The deepest one counts, wherever it stands.
			if e := Check(api.Item{Kind: api.List, L: append([]api.Item{number(1), list()}, y.L...)}); deep > 1 && e != want {
				t.Errorf("%v at depth %d, behind others: %d", x, deep, e)
			}
		}
	}
}

func TestCheckUpToMaxItems(t *testing.T) {
	for first := 0; first < api.MaxItems; first += 1111 {
		rest := api.MaxItems - 3 - first // the outer list, and the two in it
		if rest < 0 {
			continue
		}
		if e := Check(list(flat(first), flat(rest))); e != api.OK {
			t.Errorf("%d and %d values: %d", first, rest, e)
		}
		if e := Check(list(flat(first), flat(rest+1))); e != api.ErrArg {
			t.Errorf("%d and %d values: %d", first, rest+1, e)
		}
		if e := Check(list(flat(first), flat(rest), list())); e != api.ErrArg {
			t.Errorf("%d and %d values and a list: %d", first, rest, e)
		}
	}
}

// A list that is there several times counts each time.
func TestCheckCountsEachPath(t *testing.T) {
	// 1 + 10 + 100 + 1000 + 10000 values
	if e := Check(many(4)); e != api.OK {
		t.Errorf("11111 values: %d", e)
	}
	for _, lists := range []int{5, 10, api.MaxDeep - 1, api.MaxDeep, 100} {
		if e := Check(many(lists)); e != api.ErrArg {
			t.Errorf("ten times ten values, %d times: %d", lists, e)
		}
	}
}

// Whatever Check refuses, the calls that begin with it refuse with its error, even if they had others to tell.
func TestCheckComesFirst(t *testing.T) {
	l := append(refused(), many(5), many(100))
	for i, x := range l {
		if v, e := Any(x); v != nil || e != api.ErrArg {
			t.Errorf("value %d: Any = %.40v, %d", i, v, e)
		}
		if b, e := Encode(x); len(b) != 0 || e != api.ErrArg {
			t.Errorf("value %d: Encode = %.40v, %d", i, b, e)
		}
		if n, e := Ints(x); len(n) != 0 || e != api.ErrArg {
			t.Errorf("value %d: Ints = %.40v, %d", i, n, e)
		}
		if s, e := Texts(x); len(s) != 0 || e != api.ErrArg {
			t.Errorf("value %d: Texts = %.40v, %d", i, s, e)
		}
		for _, path := range [][]int{nil, {0}, {1}, {-1}, {1 << 40}, {0, 0, 0, 0}} {
			if y, e := At(x, path...); !isZero(y) || e != api.ErrArg {
				t.Errorf("value %d: At(%v) = %d", i, path, e)
			}
		}
	}
}

func TestInts(t *testing.T) {
	for _, l := range [][]int{nil, {0}, {5}, {math.MinInt, -1, 0, 1, math.MaxInt}, slices.Repeat([]int{3}, api.MaxItems-1)} {
		var items []api.Item
		for _, n := range l {
			items = append(items, number(n))
		}
		if got, e := Ints(list(items...)); e != api.OK || !slices.Equal(got, l) {
			t.Errorf("Ints of %.40v: %.40v, %d", l, got, e)
		}
	}
	for _, x := range []api.Item{
		number(1), words(""), words("1"), list(words("1")), list(list()), list(list(number(1))),
		list(number(1), words("")), list(words(""), number(1)), list(number(1), list(), number(2)), list(number(1), number(2), list(number(3))),
	} {
		if l, e := Ints(x); e != api.ErrKind || len(l) != 0 {
			t.Errorf("Ints(%v) = %v, %d", x, l, e)
		}
	}
}

func TestTexts(t *testing.T) {
	for _, l := range [][]string{nil, {""}, {"a"}, {"", "é", "\xff", "", "a b"}, slices.Repeat([]string{"x"}, api.MaxItems-1)} {
		var items []api.Item
		for _, s := range l {
			items = append(items, words(s))
		}
		if got, e := Texts(list(items...)); e != api.OK || !slices.Equal(got, l) {
			t.Errorf("Texts of %.40q: %.40q, %d", l, got, e)
		}
	}
	for _, x := range []api.Item{
		number(1), words(""), words("a"), list(number(0)), list(list()), list(list(words("a"))),
		list(words("a"), number(0)), list(number(0), words("a")), list(words("a"), list(), words("b")), list(words("a"), words("b"), list(words("c"))),
	} {
		if l, e := Texts(x); e != api.ErrKind || len(l) != 0 {
			t.Errorf("Texts(%v) = %q, %d", x, l, e)
		}
	}
}

func TestAt(t *testing.T) {
	x := list(number(1), words("b"), list(number(2), list(words("c")), list()))
	for _, c := range []struct {
		path []int
		want api.Item
	}{
		{nil, x},
		{[]int{}, x},
		{[]int{0}, number(1)},
		{[]int{1}, words("b")},
		{[]int{2}, list(number(2), list(words("c")), list())},
		{[]int{2, 0}, number(2)},
		{[]int{2, 1}, list(words("c"))},
		{[]int{2, 1, 0}, words("c")},
		{[]int{2, 2}, list()},
	} {
		if y, e := At(x, c.path...); e != api.OK || !Same(y, c.want) {
			t.Errorf("At(%v) = %v, %d", c.path, y, e)
		}
	}
	for _, c := range []struct {
		path []int
		want api.Errno
	}{
		{[]int{3}, api.ErrNone}, {[]int{-1}, api.ErrNone}, {[]int{math.MinInt}, api.ErrNone}, {[]int{math.MaxInt}, api.ErrNone},
		{[]int{2, 3}, api.ErrNone}, {[]int{2, -1}, api.ErrNone}, {[]int{2, 1, 1}, api.ErrNone}, {[]int{2, 2, 0}, api.ErrNone},
		{[]int{0, 0}, api.ErrKind}, {[]int{1, 0}, api.ErrKind}, {[]int{2, 0, 0}, api.ErrKind}, {[]int{2, 1, 0, 0}, api.ErrKind},
		{[]int{0, -1}, api.ErrKind}, {[]int{1, 5}, api.ErrKind}, // not a list comes before no such index
		{[]int{0, 0, 9}, api.ErrKind}, {[]int{3, 0}, api.ErrNone}, {[]int{-1, 0, 0}, api.ErrNone}, // the first one that fails
		{[]int{2, 2, 0, 0, 0}, api.ErrNone},
	} {
		if y, e := At(x, c.path...); e != c.want || !isZero(y) {
			t.Errorf("At(%v) = %v, %d", c.path, y, e)
		}
	}
}

func TestAtTheEdges(t *testing.T) {
	for _, x := range []api.Item{number(5), words("a"), words("")} {
		if y, e := At(x); e != api.OK || !Same(y, x) {
			t.Errorf("At(%v) = %v, %d", x, y, e)
		}
		for _, i := range []int{-1, 0, 1} {
			if y, e := At(x, i); e != api.ErrKind || !isZero(y) {
				t.Errorf("At(%v, %d) = %v, %d", x, i, y, e)
			}
		}
	}
	for _, x := range []api.Item{list(), {Kind: api.List, L: []api.Item{}}} {
		if y, e := At(x); e != api.OK || !Same(y, x) {
			t.Errorf("At(%v) = %v, %d", x, y, e)
		}
		if y, e := At(x, 0); e != api.ErrNone || !isZero(y) {
			t.Errorf("At(%v, 0) = %v, %d", x, y, e)
		}
	}
	const last = api.MaxItems - 2
	long := flat(last + 1)
	long.L[last] = words("last")
	if y, e := At(long, last); e != api.OK || !Same(y, words("last")) {
		t.Errorf("the last index: %v, %d", y, e)
	}
	if y, e := At(long, last+1); e != api.ErrNone || !isZero(y) {
		t.Errorf("one beyond: %v, %d", y, e)
	}
	deep := within(number(9), api.MaxDeep-1)
	for n := range api.MaxDeep {
		if y, e := At(deep, make([]int, n)...); e != api.OK || !Same(y, within(number(9), api.MaxDeep-1-n)) {
			t.Errorf("%d steps: %v, %d", n, y, e)
		}
	}
	if y, e := At(deep, make([]int, 1<<20)...); e != api.ErrKind || !isZero(y) {
		t.Errorf("a path that is longer than the value is deep: %v, %d", y, e)
	}
}

func TestSame(t *testing.T) {
	all := []api.Item{
		{}, {N: 1}, {S: "a"}, {L: []api.Item{{}}}, number(0), number(1), number(-1), words(""), words("a"), words("A"), words("a\x00"), words("\xff"), words("\ufffd"),
		list(), list(number(1)), list(number(2)), list(number(1), number(2)), list(number(2), number(1)), list(words("a")), list(list()), list(list(), list()), list(list(list())),
		list(number(1), list(number(2), words("x"))), list(number(1), list(number(2), words("y"))), list(number(1), list(number(2), words("x"), list())),
		{Kind: 4}, {Kind: -1}, {Kind: api.Number, S: "a"}, {Kind: api.Number, N: 1, S: "a"}, {Kind: api.Text, N: 1}, {Kind: api.List, N: 1}, {Kind: api.List, S: "a"},
		{Kind: api.Number, L: []api.Item{number(1)}}, {Kind: api.Text, L: []api.Item{number(1)}}, list(api.Item{Kind: 7}), list(api.Item{Kind: 8}),
		within(number(1), 1000), within(number(2), 1000), within(number(1), 1001), flat(api.MaxItems), flat(api.MaxItems + 1),
	}
	for i, a := range all {
		for j, b := range all {
			if got := Same(a, b); got != (i == j) {
				t.Errorf("values %d and %d: %v", i, j, got)
			}
			if i == j && !Same(a, Copy(b)) {
				t.Errorf("value %d is not the same as its copy", i)
			}
		}
	}
}

// A nil list and an empty one are equivalent.
func TestSameOfEmptyLists(t *testing.T) {
	for _, kind := range []int{0, api.Number, api.Text, api.List, 9} {
		a, b := api.Item{Kind: kind}, api.Item{Kind: kind, L: make([]api.Item, 0, 5)}
		if !Same(a, b) || !Same(b, a) || !Same(list(a), list(b)) {
			t.Errorf("kind %d: a nil list is not an empty one", kind)
		}
	}
}

// scribble changes everything in x that can be changed, the spare room of its lists too.
func scribble(x api.Item) {
	for i := range x.L {
		scribble(x.L[i])
		x.L[i] = api.Item{Kind: 77, N: 77, S: "scribbled"}
	}
	if rest := x.L[len(x.L):cap(x.L)]; len(rest) > 0 {
		rest[0] = api.Item{Kind: 78}
	}
}

func TestCopy(t *testing.T) {
	l := append(misshapen(), list(misshapen()...), flat(api.MaxItems), within(number(9), 1000))
	for i, x := range append(l, allowed()...) {
		y := Copy(x)
		if !Same(x, y) {
			t.Errorf("value %d: another copy", i)
		}
		kept := Copy(x)
		scribble(y)
		if !Same(x, kept) {
			t.Errorf("value %d is changed by its copy", i)
		}
		z := Copy(x)
		scribble(x)
		if !Same(z, kept) {
			t.Errorf("value %d changes its copy", i)
		}
	}
}

// A list that is there twice is there in two copies.
func TestCopySharesNothingWithinItself(t *testing.T) {
	inner := list(number(1))
	x := list(inner, inner)
	for name, y := range map[string]api.Item{"Copy": Copy(x), "Lst": Lst(inner, inner)} {
		y.L[0].L[0] = number(2)
		if !Same(y.L[1], list(number(1))) || !Same(inner, list(number(1))) {
			t.Errorf("%s: %v of %v", name, y, x)
		}
	}
}

// A value may be deeper than Check accepts.
func TestDeepValues(t *testing.T) {
	x := within(number(1), 1<<16-1)
	y := Copy(x)
	if !Same(x, y) {
		t.Error("another copy")
	}
	if Same(x, within(number(2), 1<<16-1)) {
		t.Error("another number, deep within, is the same")
	}
}

// deepDouble is a value with lists at several depths, for the tests of whose memory is whose.
func deepDouble() api.Item {
	return list(number(1), words("a"), list(number(2), list(words("b"), list(number(3)))), list())
}

func TestLstAndAtAreNewMemory(t *testing.T) {
	x := deepDouble()
	made := Lst(x, x)
	scribble(made)
	if !Same(x, deepDouble()) {
		t.Errorf("Lst: the argument became %v", x)
	}
	made = Lst(x)
	scribble(x)
	if !Same(made, list(deepDouble())) {
		t.Errorf("Lst keeps its argument: %v", made)
	}
	spread := []api.Item{number(1), list(number(2))}
	made = Lst(spread...)
	spread[0] = number(9)
	if !Same(made, list(number(1), list(number(2)))) {
		t.Errorf("Lst keeps its arguments: %v", made)
	}
	for _, path := range [][]int{nil, {2}, {2, 1}, {2, 1, 1}} {
		x := deepDouble()
		y, _ := At(x, path...)
		kept, _ := At(x, path...)
		scribble(y)
		if z, _ := At(x, path...); !Same(x, deepDouble()) || !Same(z, kept) {
			t.Errorf("At(%v): the argument became %v", path, x)
		}
		scribble(x)
		if z, _ := At(deepDouble(), path...); !Same(kept, z) {
			t.Errorf("At(%v) shares memory with its argument: %v", path, kept)
		}
	}
}

func TestIntsAndTextsAreNewMemory(t *testing.T) {
	x := list(number(1), number(2), number(3))
	n, _ := Ints(x)
	again, _ := Ints(x)
	n = append(n, 4)
	n[0] = 9
	if !slices.Equal(again, []int{1, 2, 3}) || !Same(x, list(number(1), number(2), number(3))) {
		t.Errorf("Ints: %v, %v", again, x)
	}
	y := list(words("a"), words("b"))
	s, _ := Texts(y)
	more, _ := Texts(y)
	s = append(s, "c")
	s[0] = "z"
	if !slices.Equal(more, []string{"a", "b"}) || !Same(y, list(words("a"), words("b"))) {
		t.Errorf("Texts: %q, %v", more, y)
	}
}

// No call changes what it is given, whether it refuses it or not.
func TestArgumentsStay(t *testing.T) {
	l := append(misshapen(), list(misshapen()...), deepDouble(), within(number(1), api.MaxDeep), flat(api.MaxItems), list(list(number(1)), list(words("a"))))
	for i, x := range append(l, allowed()...) {
		kept := Copy(x)
		path := []int{2, 1, 0}
		Check(x)
		Any(x)
		Encode(x)
		Ints(x)
		Texts(x)
		At(x, path...)
		Lst(x, x)
		Same(x, x)
		Copy(x)
		if !Same(x, kept) || !slices.Equal(path, []int{2, 1, 0}) {
			t.Errorf("value %d is changed", i)
		}
	}
}
