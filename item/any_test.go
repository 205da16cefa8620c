package item

import (
	"errors"
	"math"
	"reflect"
	"slices"
	"testing"

	"timekeeper/api"
)

type (
	ownInt  int
	ownText string
	ownList []any
)

// others holds values of types that are none of the three.
func others() []any {
	n, s, l := 1, "a", []any{1}
	var noList *[]any
	return []any{
		nil, true, false, int8(1), int16(1), int32(1), int64(1), uint(1), uint8(1), uint16(1), uint32(1), uint64(1), uintptr(1),
		float32(1), 1.0, math.NaN(), complex64(1), 1i, 'a',
		[]byte("a"), []rune{97}, []int{1}, []string{"a"}, []api.Item{}, [][]any{{1}}, []error{nil}, [1]any{1}, [0]any{},
		map[string]any{}, map[int]int{1: 1}, struct{}{}, struct{ N int }{1}, api.Item{Kind: api.Number}, Num(1), api.OK, api.ErrKind, api.ErrArg,
		&n, &s, &l, noList, func() {}, make(chan int), errors.New("a"),
		ownInt(1), ownText("a"), ownList{1}, ownList(nil),
	}
}

// anyWithin puts v into so many lists, one within the other.
func anyWithin(v any, lists int) any {
	for range lists {
		v = []any{v}
	}
	return v
}

// anyItself is a list that contains itself so many times, and then what else is given.
func anyItself(times int, more ...any) []any {
	l := make([]any, times+len(more))
	copy(l[times:], more)
	for i := range times {
		l[i] = l
	}
	return l
}

// anyMany stands for far more values than it takes memory.
func anyMany(inner any, lists int) any {
	for range lists {
		inner = []any{inner, inner}
	}
	return inner
}

// equal holds empty lists for equal, as all calls do.
func equal(v any, w any) bool {
	l, ok := v.([]any)
	m, too := w.([]any)
	if ok && too {
		return slices.EqualFunc(l, m, equal)
	}
	return !ok && !too && reflect.DeepEqual(v, w)
}

func TestAnyAndOf(t *testing.T) {
	for _, c := range []struct {
		x api.Item
		v any
	}{
		{number(0), 0},
		{number(-7), -7},
		{number(math.MaxInt), math.MaxInt},
		{number(math.MinInt), math.MinInt},
		{words(""), ""},
		{words("é\xff"), "é\xff"},
		{list(), []any{}},
		{list(), []any(nil)},
		{list(number(5)), []any{5}},
		{list(list(), words("a"), list(number(1), list(words("")))), []any{[]any{}, "a", []any{1, []any{""}}}},
		{within(number(9), api.MaxDeep-1), anyWithin(9, api.MaxDeep-1)},
		{flat(api.MaxItems - 1), slices.Repeat([]any{7}, api.MaxItems-1)},
	} {
		if v, e := Any(c.x); e != api.OK || !equal(v, c.v) {
			t.Errorf("Any(%.80v) = %.80v, %d", c.x, v, e)
		}
		if x, e := Of(c.v); e != api.OK || !Same(x, c.x) {
			t.Errorf("Of(%.80v) = %.80v, %d", c.v, x, e)
		}
	}
}

// An empty list is an empty []any, not nothing.
func TestAnyOfEmptyList(t *testing.T) {
	for _, x := range []api.Item{list(), {Kind: api.List, L: []api.Item{}}} {
		v, e := Any(x)
		if l, ok := v.([]any); !ok || len(l) != 0 || e != api.OK {
			t.Errorf("Any(%v) = %#v, %d", x, v, e)
		}
	}
}

func TestOfReturnsWhatAnyWasGiven(t *testing.T) {
	for i, x := range allowed() {
		v, e := Any(x)
		if e != api.OK {
			t.Errorf("value %d: Any: %d", i, e)
			continue
		}
		if y, e := Of(v); e != api.OK || !Same(x, y) {
			t.Errorf("value %d: Of: %d", i, e)
		}
	}
}

func checkOf(t *testing.T, name string, v any, want api.Errno) {
	t.Helper()
	if x, e := Of(v); e != want || e != api.OK && !isZero(x) {
		t.Errorf("%s: %.60v, %d", name, x, e)
	}
}

func TestOfOtherTypes(t *testing.T) {
	for i, v := range others() {
		if _, e := Of(v); e != api.ErrKind {
			t.Errorf("other %d (%T): %d", i, v, e)
		}
		checkOf(t, "in a list", []any{v}, api.ErrKind)
		checkOf(t, "first", []any{v, 1, "a"}, api.ErrKind)
		checkOf(t, "last", []any{1, "a", []any{}, v}, api.ErrKind)
		checkOf(t, "deeper", []any{1, []any{"a", []any{v}}, 2}, api.ErrKind)
	}
}

// A value of another type is found down to the depth of 200, where v itself is at depth 1; what is deeper is too deep in any case.
func TestOfOtherTypesAtAnyDepth(t *testing.T) {
	for _, bad := range []any{nil, true, int64(1), ownList{}, api.ErrArg} {
		for deep := 1; deep <= 205; deep++ {
			want := api.ErrKind
			if deep > 200 {
				want = api.ErrArg
			}
			v := anyWithin(bad, deep-1)
			if x, e := Of(v); e != want || !isZero(x) {
				t.Errorf("%T at depth %d: %d", bad, deep, e)
			}
			if x, e := Of([]any{anyWithin(1, 300), v, "a"}); deep < 200 && (e != api.ErrKind || !isZero(x)) {
				t.Errorf("%T at depth %d, among others: %d", bad, deep+1, e)
			}
		}
		checkOf(t, "very deep", anyWithin(bad, 1<<16-1), api.ErrArg)
	}
}

func TestOfUpToMaxDeep(t *testing.T) {
	for _, v := range []any{1, "a", []any{}} {
		for deep := 1; deep <= 300; deep++ {
			want := api.OK
			if deep > api.MaxDeep {
				want = api.ErrArg
			}
			checkOf(t, "deep", anyWithin(v, deep-1), want)
		}
		checkOf(t, "very deep", anyWithin(v, 1<<16-1), api.ErrArg)
	}
}

func TestOfUpToMaxItems(t *testing.T) {
	sevens := func(n int) []any { return slices.Repeat([]any{7}, n) }
	checkOf(t, "MaxItems", sevens(api.MaxItems-1), api.OK)
	checkOf(t, "one more", sevens(api.MaxItems), api.ErrArg)
	checkOf(t, "many more", sevens(100*api.MaxItems), api.ErrArg)
	checkOf(t, "MaxItems in two lists", []any{sevens(9000), sevens(api.MaxItems - 9003)}, api.OK)
	checkOf(t, "one more in two lists", []any{sevens(9000), sevens(api.MaxItems - 9002)}, api.ErrArg)
	checkOf(t, "empty lists", slices.Repeat([]any{[]any{}}, api.MaxItems-1), api.OK)
	checkOf(t, "one more empty list", slices.Repeat([]any{[]any{}}, api.MaxItems), api.ErrArg)
}

// A wrong type is named first, even behind too many values, and beside one that is too deep.
func TestOfTellsTypesFirst(t *testing.T) {
	for _, bad := range []any{nil, 1.5, []int{1}} {
		long := slices.Repeat([]any{7}, 3*api.MaxItems)
		checkOf(t, "behind too many", append(long, bad), api.ErrKind)
		checkOf(t, "within the last of too many", append(long, []any{[]any{bad}}), api.ErrKind)
		checkOf(t, "behind a deep one", []any{anyWithin(1, 1000), bad}, api.ErrKind)
		checkOf(t, "before a deep one", []any{bad, anyWithin(1, 1000)}, api.ErrKind)
		checkOf(t, "deeper than MaxDeep", anyWithin([]any{bad}, api.MaxDeep+5), api.ErrKind)
	}
}

// Lists that contain themselves, or one list so often that nobody could follow all paths.
func TestOfEntangledLists(t *testing.T) {
	for _, times := range []int{1, 2, 3, 50} {
		checkOf(t, "itself", anyItself(times), api.ErrArg)
		checkOf(t, "itself and a number", anyItself(times, 1, "a", []any{}), api.ErrArg)
		checkOf(t, "itself and another type", anyItself(times, nil), api.ErrKind)
		checkOf(t, "itself and another type, deep", anyItself(times, anyWithin(true, 198)), api.ErrKind)
		checkOf(t, "itself and another type, too deep", anyItself(times, anyWithin(true, 199)), api.ErrArg)
	}
	for _, lists := range []int{api.MaxDeep, 100, 199, 500} {
		checkOf(t, "many paths", anyMany(1, lists), api.ErrArg)
	}
	checkOf(t, "many paths to another type", anyMany(true, 199), api.ErrKind)
	checkOf(t, "many paths to another type that is too deep", anyMany(true, 200), api.ErrArg)
	checkOf(t, "few paths", anyMany(1, 13), api.OK)
	checkOf(t, "too many paths", anyMany(1, 14), api.ErrArg)
	a, b := []any{1, nil}, []any{2, nil}
	a[1], b[1] = b, a
	checkOf(t, "two that contain one another", a, api.ErrArg)
}

// A list that is first met too deep to be looked into is still looked into where it is less deep, though deeper than any value may be.
func TestOfListAtTwoDepths(t *testing.T) {
	shared := []any{true}
	inner := []any{[]any{[]any{"x", uint(1)}}}
	for _, lists := range []int{0, 1, api.MaxDeep, 50, 150} {
		checkOf(t, "deep first", []any{anyWithin(shared, 250), anyWithin(shared, lists)}, api.ErrKind)
		checkOf(t, "deep last", []any{anyWithin(shared, lists), anyWithin(shared, 250)}, api.ErrKind)
		checkOf(t, "at the edge first", []any{anyWithin(inner, 197), anyWithin(inner, lists)}, api.ErrKind)
		checkOf(t, "at the edge last", []any{anyWithin(inner, lists), anyWithin(inner, 197)}, api.ErrKind)
	}
}

// Parts of one list are lists of their own.
func TestOfPartsOfOneList(t *testing.T) {
	whole := []any{1, "a", nil}
	for _, lists := range []int{0, 1, api.MaxDeep, 50, 150} {
		checkOf(t, "a part without, and the whole", anyWithin([]any{whole[:2], whole}, lists), api.ErrKind)
		checkOf(t, "parts, one of them with", anyWithin([]any{whole[1:2], whole[:2], whole[:1], whole[1:]}, lists), api.ErrKind)
	}
	x, e := Of([]any{whole[:2], whole[1:2], whole[:0], whole[:1]})
	if e != api.OK || !Same(x, list(list(number(1), words("a")), list(words("a")), list(), list(number(1)))) {
		t.Errorf("parts without: %v, %d", x, e)
	}
}

// The same list at several places is several lists.
func TestOfAndAnyAreNewMemory(t *testing.T) {
	inner := []any{1, "a"}
	v := []any{inner, inner, 2}
	want := list(list(number(1), words("a")), list(number(1), words("a")), number(2))
	x, _ := Of(v)
	again, _ := Of(v)
	x.L[0].L[0] = words("changed")
	if !Same(x.L[1], want.L[1]) || !Same(again, want) || !equal(v, []any{[]any{1, "a"}, []any{1, "a"}, 2}) {
		t.Errorf("Of: %v, %v, %v", x, again, v)
	}
	inner[0] = "changed"
	if !Same(again, want) {
		t.Errorf("Of keeps its argument: %v", again)
	}

	y := list(number(1))
	x = list(y, y, number(2))
	w, _ := Any(x)
	more, _ := Any(x)
	w.([]any)[0].([]any)[0] = "changed"
	w.([]any)[2] = "changed"
	if !equal(w.([]any)[1], []any{1}) || !equal(more, []any{[]any{1}, []any{1}, 2}) || !Same(x, list(list(number(1)), list(number(1)), number(2))) {
		t.Errorf("Any: %v, %v, %v", w, more, x)
	}
}

func TestOfLeavesItsArgument(t *testing.T) {
	for _, last := range []any{2, nil, anyWithin(1, 50)} {
		v := []any{1, []any{"a", []any{}}, last}
		Of(v)
		if !equal(v, []any{1, []any{"a", []any{}}, last}) {
			t.Errorf("the argument became %v", v)
		}
	}
}
