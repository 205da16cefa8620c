package clock

import (
	"math"
	"math/big"
	"slices"
	"strconv"
	"strings"
	"testing"

	"timekeeper/api"
)

// edges holds the numbers at which an answer may change, or an int may wrap around.
func edges() []int {
	return []int{
		math.MinInt, math.MinInt + 1, -api.MaxTime - 1, -api.MaxTime, -2, -1,
		0, 1, 2, 9, 10, 11, 99, 100, 1<<20 - 1, 1 << 20, 1<<20 + 1, 1<<39 - 1, 1 << 39,
		api.MaxTime / 3, api.MaxTime - 1, api.MaxTime, api.MaxTime + 1, api.MaxTime + 2,
		1 << 41, 1 << 62, math.MaxInt - 1, math.MaxInt,
	}
}

func bigIs(x *big.Int) bool {
	return x.Sign() >= 0 && x.Cmp(big.NewInt(api.MaxTime)) <= 0
}

// exact is what is to be answered for a result of arbitrary precision.
func exact(x *big.Int) (int, api.Errno) {
	if !bigIs(x) {
		return 0, api.ErrOver
	}
	return int(x.Int64()), api.OK
}

func wantAdd(l ...int) (int, api.Errno) {
	sum := new(big.Int)
	for _, t := range l {
		x := big.NewInt(int64(t))
		if !bigIs(x) {
			return 0, api.ErrArg
		}
		sum.Add(sum, x)
	}
	return exact(sum)
}

func wantSub(t, u int) (int, api.Errno) {
	x, y := big.NewInt(int64(t)), big.NewInt(int64(u))
	if !bigIs(x) || !bigIs(y) {
		return 0, api.ErrArg
	}
	return exact(x.Sub(x, y))
}

func wantMul(t, n int) (int, api.Errno) {
	x, y := big.NewInt(int64(t)), big.NewInt(int64(n))
	if !bigIs(x) || y.Sign() < 0 {
		return 0, api.ErrArg
	}
	return exact(x.Mul(x, y))
}

func wantClip(l ...int) int {
	sum := new(big.Int)
	for _, t := range l {
		if t > 0 {
			sum.Add(sum, big.NewInt(int64(t)))
		}
	}
	if !bigIs(sum) {
		return api.MaxTime
	}
	return int(sum.Int64())
}

func TestIs(t *testing.T) {
	for _, x := range edges() {
		if got, want := Is(x), bigIs(big.NewInt(int64(x))); got != want {
			t.Errorf("Is(%d) = %v", x, got)
		}
	}
}

func TestAdd(t *testing.T) {
	const m = api.MaxTime
	for _, x := range []struct {
		l []int
		n int
		e api.Errno
	}{
		{[]int{0}, 0, api.OK},
		{[]int{3, 4, 5}, 12, api.OK},
		{[]int{m}, m, api.OK},
		{[]int{m, 0, 0}, m, api.OK},
		{[]int{0, m}, m, api.OK},
		{[]int{m - 1, 1}, m, api.OK},
		{[]int{m, 1}, 0, api.ErrOver},
		{[]int{1, m, 0}, 0, api.ErrOver},
		{[]int{m, m, m}, 0, api.ErrOver},
		{[]int{-1}, 0, api.ErrArg},
		{[]int{m + 1}, 0, api.ErrArg},
		{[]int{m + 1, 0}, 0, api.ErrArg},
		{[]int{0, m + 1}, 0, api.ErrArg},
		{[]int{5, -1}, 0, api.ErrArg},
		{[]int{0, 0, 0, -1}, 0, api.ErrArg},
		{[]int{math.MaxInt, math.MaxInt}, 0, api.ErrArg},
		{[]int{math.MinInt, math.MinInt}, 0, api.ErrArg},
	} {
		if n, e := Add(x.l[0], x.l[1:]...); n != x.n || e != x.e {
			t.Errorf("Add(%v) = %d, %d", x.l, n, e)
		}
	}
}

// A wrong argument is named first, even behind a sum that is too great.
func TestAddTellsArgumentsFirst(t *testing.T) {
	for _, wrong := range []int{-1, api.MaxTime + 1, math.MinInt, math.MaxInt} {
		if n, e := Add(api.MaxTime, 1, 1, wrong); n != 0 || e != api.ErrArg {
			t.Errorf("Add(MaxTime, 1, 1, %d) = %d, %d", wrong, n, e)
		}
	}
}

func TestSub(t *testing.T) {
	for _, x := range []struct {
		t, u, n int
		e       api.Errno
	}{
		{0, 0, 0, api.OK},
		{5, 5, 0, api.OK},
		{7, 5, 2, api.OK},
		{api.MaxTime, 0, api.MaxTime, api.OK},
		{api.MaxTime, api.MaxTime, 0, api.OK},
		{5, 6, 0, api.ErrOver},
		{0, api.MaxTime, 0, api.ErrOver},
		{-1, 0, 0, api.ErrArg},
		{0, -1, 0, api.ErrArg},
		{api.MaxTime + 1, 1, 0, api.ErrArg},
		{0, api.MaxTime + 1, 0, api.ErrArg},
		{5, math.MinInt, 0, api.ErrArg},
	} {
		if n, e := Sub(x.t, x.u); n != x.n || e != x.e {
			t.Errorf("Sub(%d, %d) = %d, %d", x.t, x.u, n, e)
		}
	}
}

func TestMul(t *testing.T) {
	for _, x := range []struct {
		t, n, p int
		e       api.Errno
	}{
		{6, 7, 42, api.OK},
		{0, math.MaxInt, 0, api.OK},
		{api.MaxTime, 0, 0, api.OK},
		{api.MaxTime, 1, api.MaxTime, api.OK},
		{1, api.MaxTime, api.MaxTime, api.OK},
		{1 << 20, 1<<20 - 1, 1<<40 - 1<<20, api.OK},
		{1 << 20, 1 << 20, 0, api.ErrOver},
		{api.MaxTime, 2, 0, api.ErrOver},
		{1, api.MaxTime + 1, 0, api.ErrOver},
		{4, 1 << 62, 0, api.ErrOver},
		{api.MaxTime, math.MaxInt, 0, api.ErrOver},
		{-1, 0, 0, api.ErrArg},
		{0, -1, 0, api.ErrArg},
		{api.MaxTime, -1, 0, api.ErrArg},
		{api.MaxTime + 1, 0, 0, api.ErrArg},
		{api.MaxTime + 1, math.MaxInt, 0, api.ErrArg},
		{-1, -1, 0, api.ErrArg},
	} {
		if p, e := Mul(x.t, x.n); p != x.p || e != x.e {
			t.Errorf("Mul(%d, %d) = %d, %d", x.t, x.n, p, e)
		}
	}
}

func TestClip(t *testing.T) {
	const m = api.MaxTime
	for _, x := range []struct {
		l []int
		n int
	}{
		{[]int{0}, 0},
		{[]int{3, 4, 5}, 12},
		{[]int{-5}, 0},
		{[]int{-5, 7, -1}, 7},
		{[]int{7, math.MinInt}, 7},
		{[]int{math.MinInt, math.MinInt}, 0},
		{[]int{m}, m},
		{[]int{m, 1}, m},
		{[]int{m - 1, 1}, m},
		{[]int{m - 2, 1}, m - 1},
		{[]int{m + 1}, m},
		{[]int{m + 1, -1}, m},
		{[]int{m, 1, -m}, m},
		{[]int{0, math.MaxInt}, m},
		{[]int{1 << 62, 1 << 62, 1 << 62}, m},
		{[]int{math.MaxInt, math.MaxInt}, m},
	} {
		if n := Clip(x.l[0], x.l[1:]...); n != x.n {
			t.Errorf("Clip(%v) = %d", x.l, n)
		}
	}
}

// Every call on numbers, at all edges, against arithmetic that has no bounds.
func TestAgainstUnboundedNumbers(t *testing.T) {
	for _, a := range edges() {
		for _, b := range edges() {
			n, e := Sub(a, b)
			if wn, we := wantSub(a, b); n != wn || e != we {
				t.Errorf("Sub(%d, %d) = %d, %d", a, b, n, e)
			}
			n, e = Mul(a, b)
			if wn, we := wantMul(a, b); n != wn || e != we {
				t.Errorf("Mul(%d, %d) = %d, %d", a, b, n, e)
			}
			for _, c := range edges() {
				n, e = Add(a, b, c)
				if wn, we := wantAdd(a, b, c); n != wn || e != we {
					t.Errorf("Add(%d, %d, %d) = %d, %d", a, b, c, n, e)
				}
				if n, want := Clip(a, b, c), wantClip(a, b, c); n != want {
					t.Errorf("Clip(%d, %d, %d) = %d", a, b, c, n)
				}
			}
		}
	}
}

// So many times that a plain sum in 64 bits would come round to 5.
func TestManyTimesDoNotWrapAround(t *testing.T) {
	const many = 1 << 24
	l := slices.Repeat([]int{api.MaxTime}, many)
	if n, e := Add(many+5, l...); n != 0 || e != api.ErrOver {
		t.Errorf("Add = %d, %d", n, e)
	}
	if n := Clip(many+5, l...); n != api.MaxTime {
		t.Errorf("Clip = %d", n)
	}
}

func TestArgumentsStay(t *testing.T) {
	l := []int{3, -4, api.MaxTime + 5, math.MinInt}
	kept := slices.Clone(l)
	Add(1, l...)
	Clip(1, l...)
	if !slices.Equal(l, kept) {
		t.Errorf("the arguments became %v", l)
	}
}

func TestText(t *testing.T) {
	for _, x := range edges() {
		want := ""
		if x >= 0 && x <= api.MaxTime {
			want = strconv.Itoa(x)
		}
		if s := Text(x); s != want {
			t.Errorf("Text(%d) = %q", x, s)
		}
	}
}

func TestRead(t *testing.T) {
	for _, x := range []struct {
		s string
		n int
		e api.Errno
	}{
		{"0", 0, api.OK},
		{"7", 7, api.OK},
		{"10", 10, api.OK},
		{"1099511627775", api.MaxTime, api.OK},
		{"1099511627776", 0, api.ErrOver},
		{"1099511627780", 0, api.ErrOver},
		{"10995116277750", 0, api.ErrOver},
		{"9223372036854775807", 0, api.ErrOver},
		{"18446744073709551621", 0, api.ErrOver},
		{strings.Repeat("9", 100000), 0, api.ErrOver},
		{"", 0, api.ErrForm},
		{"00", 0, api.ErrForm},
		{"007", 0, api.ErrForm},
		{"01099511627776", 0, api.ErrForm},
		{"-1", 0, api.ErrForm},
		{"+1", 0, api.ErrForm},
		{"-0", 0, api.ErrForm},
		{" 1", 0, api.ErrForm},
		{"1 ", 0, api.ErrForm},
		{"1\n", 0, api.ErrForm},
		{"1_0", 0, api.ErrForm},
		{"1.0", 0, api.ErrForm},
		{"1e3", 0, api.ErrForm},
		{"0x1", 0, api.ErrForm},
		{"/", 0, api.ErrForm},
		{":", 0, api.ErrForm},
		{"\x00", 0, api.ErrForm},
		{"1\x00", 0, api.ErrForm},
		{"\xff", 0, api.ErrForm},
		{"12\xff", 0, api.ErrForm},
		{"\xc0\xb1", 0, api.ErrForm}, // '1' in more bytes than UTF-8 allows
		{"٣", 0, api.ErrForm},
		{"1٣", 0, api.ErrForm},
		{"１", 0, api.ErrForm},
		{"ı", 0, api.ErrForm}, // U+0131, whose last byte is that of '1'
	} {
		if n, e := Read(x.s); n != x.n || e != x.e {
			t.Errorf("Read(%.40q) = %d, %d", x.s, n, e)
		}
	}
}

// A wrong form is named first, even behind digits of a number that is too great.
func TestReadTellsFormFirst(t *testing.T) {
	const great = "99999999999999999999999"
	for _, s := range []string{great + "x", "x" + great, "0" + great, great + "\xff", great + "٣", great + " "} {
		if n, e := Read(s); n != 0 || e != api.ErrForm {
			t.Errorf("Read(%q) = %d, %d", s, n, e)
		}
	}
}

func checkRoundTrip(t *testing.T, x int) {
	t.Helper()
	if n, e := Read(Text(x)); n != x || e != api.OK {
		t.Errorf("Read(Text(%d)) = %d, %d", x, n, e)
	}
}

func TestPrintedTimesAreReadBack(t *testing.T) {
	for x := range 20000 {
		checkRoundTrip(t, x)
		checkRoundTrip(t, api.MaxTime-x)
		checkRoundTrip(t, (x*54881123457+17)%(api.MaxTime+1))
	}
	for p := 1; p <= api.MaxTime; p *= 10 {
		checkRoundTrip(t, p-1)
		checkRoundTrip(t, p)
		checkRoundTrip(t, p+1)
	}
}

// checkOneText holds Read against what only Text's own output may be.
func checkOneText(t *testing.T, s string) {
	t.Helper()
	n, e := Read(s)
	switch e {
	case api.OK:
		if !Is(n) || Text(n) != s {
			t.Errorf("Read(%q) = %d, whose text is %q", s, n, Text(n))
		}
	case api.ErrForm, api.ErrOver:
		if n != 0 {
			t.Errorf("Read(%q) = %d beside the error %d", s, n, e)
		}
	default:
		t.Errorf("Read(%q) answers the error %d", s, e)
	}
}

// No time has a second text: all texts of up to four of these bytes.
func TestTimesHaveOneText(t *testing.T) {
	bytes := []byte("0129+-. x/:\xd9\xa3\xff")
	texts := []string{""}
	for range 4 {
		var longer []string
		for _, s := range texts {
			for _, c := range bytes {
				longer = append(longer, s+string([]byte{c}))
			}
		}
		for _, s := range longer {
			checkOneText(t, s)
		}
		texts = longer
	}
}

func FuzzRead(f *testing.F) {
	for _, s := range []string{"", "0", "007", "1099511627775", "1099511627776", "٣", "1\xff"} {
		f.Add(s)
	}
	f.Fuzz(func(t *testing.T, s string) {
		checkOneText(t, s)
	})
}

func FuzzNumbers(f *testing.F) {
	f.Add(3, 4, 5)
	f.Add(api.MaxTime, 1, -1)
	f.Fuzz(func(t *testing.T, a, b, c int) {
		n, e := Add(a, b, c)
		if wn, we := wantAdd(a, b, c); n != wn || e != we {
			t.Errorf("Add(%d, %d, %d) = %d, %d", a, b, c, n, e)
		}
		n, e = Sub(a, b)
		if wn, we := wantSub(a, b); n != wn || e != we {
			t.Errorf("Sub(%d, %d) = %d, %d", a, b, n, e)
		}
		n, e = Mul(a, b)
		if wn, we := wantMul(a, b); n != wn || e != we {
			t.Errorf("Mul(%d, %d) = %d, %d", a, b, n, e)
		}
		if n, want := Clip(a, b, c), wantClip(a, b, c); n != want {
			t.Errorf("Clip(%d, %d, %d) = %d", a, b, c, n)
		}
	})
}
