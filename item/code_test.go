package item

import (
	"bytes"
	"encoding/binary"
	"encoding/hex"
	"math"
	"slices"
	"strings"
	"testing"

	"timekeeper/api"
)

// wantBytes is the encoding by the library's own means.
func wantBytes(x api.Item) []byte {
	b := []byte{byte(x.Kind)}
	switch x.Kind {
	case api.Number:
		return binary.BigEndian.AppendUint64(b, uint64(x.N))
	case api.Text:
		return append(binary.BigEndian.AppendUint32(b, uint32(len(x.S))), x.S...)
	}
	b = binary.BigEndian.AppendUint32(b, uint32(len(x.L)))
	for _, y := range x.L {
		b = append(b, wantBytes(y)...)
	}
	return b
}

func TestEncode(t *testing.T) {
	for _, c := range []struct {
		x api.Item
		b string
	}{
		{list(number(5)), "0300000001" + "010000000000000005"},
		{number(0), "010000000000000000"},
		{number(1), "010000000000000001"},
		{number(-1), "01ffffffffffffffff"},
		{number(math.MaxInt), "017fffffffffffffff"},
		{number(math.MinInt), "018000000000000000"},
		{number(0x0123456789abcdef), "010123456789abcdef"},
		{words(""), "0200000000"},
		{words("a"), "020000000161"},
		{words("é\xff\x00"), "0200000004c3a9ff00"},
		{list(), "0300000000"},
		{api.Item{Kind: api.List, L: []api.Item{}}, "0300000000"},
		{list(list(), words("")), "0300000002" + "0300000000" + "0200000000"},
		{list(words("ab"), list(number(2)), number(3)), "0300000003" + "02000000026162" + "0300000001010000000000000002" + "010000000000000003"},
	} {
		b, e := Encode(c.x)
		if e != api.OK || hex.EncodeToString(b) != c.b {
			t.Errorf("Encode(%v) = %x, %d", c.x, b, e)
		}
		want, _ := hex.DecodeString(c.b)
		if x, e := Decode(want); e != api.OK || !Same(x, c.x) {
			t.Errorf("Decode(%s) = %v, %d", c.b, x, e)
		}
	}
	for _, n := range []int{255, 256, 65535, 65536, 1 << 24} {
		b, e := Encode(words(strings.Repeat("a", n)))
		if e != api.OK || len(b) != 5+n || int(binary.BigEndian.Uint32(b[1:])) != n {
			t.Errorf("a text of %d bytes: %d bytes, %d", n, len(b), e)
		}
	}
}

func TestEncodedValuesAreDecoded(t *testing.T) {
	for i, x := range allowed() {
		b, e := Encode(x)
		if e != api.OK || !bytes.Equal(b, wantBytes(x)) {
			t.Errorf("value %d: %d bytes, %d", i, len(b), e)
		}
		if y, e := Decode(b); e != api.OK || !Same(x, y) {
			t.Errorf("value %d is not decoded: %d", i, e)
		}
	}
}

// Different values have different encodings.
func TestEncodingsDiffer(t *testing.T) {
	seen := map[string]int{}
	for i, x := range allowed() {
		b, _ := Encode(x)
		if j, ok := seen[string(b)]; ok && !Same(x, allowed()[j]) {
			t.Errorf("values %d and %d have one encoding", i, j)
		}
		seen[string(b)] = i
	}
}

func checkRefused(t *testing.T, b []byte, want api.Errno) {
	t.Helper()
	if x, e := Decode(b); e != want || !isZero(x) {
		t.Errorf("Decode of %d bytes (%.40x) = %.60v, %d", len(b), b, x, e)
	}
}

func TestDecodeUpToMaxBytes(t *testing.T) {
	x := words(strings.Repeat("a", api.MaxBytes-5))
	b, _ := Encode(x)
	if len(b) != api.MaxBytes {
		t.Fatalf("%d bytes", len(b))
	}
	if y, e := Decode(b); e != api.OK || !Same(x, y) {
		t.Errorf("MaxBytes bytes: %d", e)
	}
	// What is longer is encoded, but not decoded.
	more := words(x.S + "a")
	b, e := Encode(more)
	if e != api.OK || len(b) != api.MaxBytes+1 {
		t.Errorf("Encode: %d bytes, %d", len(b), e)
	}
	checkRefused(t, b, api.ErrLong)
}

// Too many bytes are named first, whatever they are.
func TestDecodeTellsLengthFirst(t *testing.T) {
	for _, c := range []byte{0, 1, 2, 3, 4, 0xff} {
		checkRefused(t, bytes.Repeat([]byte{c}, api.MaxBytes), api.ErrForm)
		checkRefused(t, bytes.Repeat([]byte{c}, api.MaxBytes+1), api.ErrLong)
		checkRefused(t, bytes.Repeat([]byte{c}, 3*api.MaxBytes), api.ErrLong)
	}
	b, _ := Encode(number(1))
	checkRefused(t, append(b, make([]byte, api.MaxBytes)...), api.ErrLong)
}

func TestDecodeOfCutBytes(t *testing.T) {
	checkRefused(t, nil, api.ErrForm)
	checkRefused(t, []byte{}, api.ErrForm)
	for _, x := range []api.Item{
		number(5), number(-1), words("abc"), list(), list(number(5)), list(words("ab"), list(number(2), list()), number(3)), within(words("x"), api.MaxDeep-1), flat(100),
	} {
		b, _ := Encode(x)
		for n := range len(b) {
			checkRefused(t, b[:n], api.ErrForm)
		}
		for _, more := range [][]byte{{0}, {1}, {0xff}, b} {
			checkRefused(t, append(slices.Clone(b), more...), api.ErrForm)
		}
	}
}

func TestDecodeOfOtherKinds(t *testing.T) {
	for kind := range 0x100 {
		if kind == api.Number || kind == api.Text || kind == api.List {
			continue
		}
		for _, rest := range []int{0, 4, 8, 20} {
			b := append([]byte{byte(kind)}, make([]byte, rest)...)
			checkRefused(t, b, api.ErrForm)
			checkRefused(t, append([]byte{api.List, 0, 0, 0, 1}, b...), api.ErrForm)
		}
	}
}

// Lengths that promise more than there is, or less.
func TestDecodeOfOtherLengths(t *testing.T) {
	for _, n := range []uint32{0, 1, 2, 4, 5, 6, 100, api.MaxItems - 1, api.MaxItems, 1<<16 - 1, 1 << 16, 1 << 24, 1<<31 - 1, 1 << 31, 1<<32 - 3, 1<<32 - 1} {
		b := binary.BigEndian.AppendUint32([]byte{api.Text}, n)
		checkRefused(t, append(b, "abc"...), api.ErrForm)
		b = binary.BigEndian.AppendUint32([]byte{api.List}, n)
		threeValues := append(wantBytes(number(1)), append(wantBytes(words("a")), wantBytes(list())...)...)
		checkRefused(t, append(b, threeValues...), api.ErrForm)
		// Also within a list, where others follow.
		outer := []byte{api.List, 0, 0, 0, 2}
		text := append(slices.Clone(outer), api.Text)
		text = binary.BigEndian.AppendUint32(text, n)
		text = append(append(text, "abc"...), wantBytes(number(1))...)
		checkOneEncoding(t, text)
	}
}

func TestDecodeUpToMaxDeep(t *testing.T) {
	for _, x := range []api.Item{number(1), words("a"), list()} {
		for _, deep := range []int{1, 2, api.MaxDeep - 1, api.MaxDeep, api.MaxDeep + 1, api.MaxDeep + 2, 1000} {
			y := within(x, deep-1)
			if deep > api.MaxDeep {
				checkRefused(t, wantBytes(y), api.ErrForm)
			} else if z, e := Decode(wantBytes(y)); e != api.OK || !Same(y, z) {
				t.Errorf("%v at depth %d: %d", x, deep, e)
			}
		}
	}
	deepest := bytes.Repeat([]byte{api.List, 0, 0, 0, 1}, api.MaxBytes/5)
	checkRefused(t, deepest, api.ErrForm)
	deepest[len(deepest)-1] = 0
	checkRefused(t, deepest, api.ErrForm)
}

func TestDecodeUpToMaxItems(t *testing.T) {
	for _, x := range []api.Item{flat(api.MaxItems - 1), list(slices.Repeat([]api.Item{list()}, api.MaxItems-1)...), list(flat(9000), flat(api.MaxItems-9003))} {
		if y, e := Decode(wantBytes(x)); e != api.OK || !Same(x, y) {
			t.Errorf("MaxItems values: %d", e)
		}
	}
	for _, x := range []api.Item{flat(api.MaxItems), list(slices.Repeat([]api.Item{list()}, api.MaxItems)...), list(flat(9000), flat(api.MaxItems-9002)), list(slices.Repeat([]api.Item{words("")}, 800000)...)} {
		checkRefused(t, wantBytes(x), api.ErrForm)
	}
}

// checkOneEncoding holds Decode against Encode: b is refused, or it is the encoding of what is decoded.
func checkOneEncoding(t *testing.T, b []byte) {
	t.Helper()
	x, e := Decode(b)
	switch e {
	case api.OK:
		if again, e := Encode(x); e != api.OK || !bytes.Equal(again, b) {
			t.Errorf("%x is decoded as %v, whose encoding is %x, %d", b, x, again, e)
		}
	case api.ErrForm:
		if !isZero(x) {
			t.Errorf("Decode(%x) = %v beside the error", b, x)
		}
	default:
		t.Errorf("Decode(%.40x) answers the error %d", b, e)
	}
}

// Each byte of some encodings, changed to each other one: a value has no second encoding.
func TestValuesHaveOneEncoding(t *testing.T) {
	for _, x := range []api.Item{number(5), words("abc"), list(), list(number(5)), list(words("ab"), list(number(2), list(), words("")), number(3)), list(list(list()), list())} {
		b, _ := Encode(x)
		for i := range b {
			for c := range 0x100 {
				changed := slices.Clone(b)
				changed[i] = byte(c)
				checkOneEncoding(t, changed)
				if y, e := Decode(changed); e == api.OK && Same(x, y) != bytes.Equal(b, changed) {
					t.Errorf("%x and %x are both encodings of %v", b, changed, x)
				}
			}
			checkOneEncoding(t, slices.Delete(slices.Clone(b), i, i+1))
			checkOneEncoding(t, slices.Insert(slices.Clone(b), i, 0))
			checkOneEncoding(t, slices.Insert(slices.Clone(b), i, 3, 0, 0, 0, 0))
		}
	}
}

// All short strings of some pieces, among them whole values.
func TestDecodeOfAnyPieces(t *testing.T) {
	pieces := [][]byte{{0}, {1}, {2}, {3}, {4}, {0, 0, 0, 1}, {0, 0, 0, 2}, {3, 0, 0, 0, 2}, {2, 0, 0, 0, 0}, {1, 0, 0, 0, 0, 0, 0, 0, 9}}
	level := [][]byte{nil}
	for range 4 {
		var longer [][]byte
		for _, b := range level {
			for _, p := range pieces {
				longer = append(longer, append(slices.Clone(b), p...))
			}
		}
		for _, b := range longer {
			checkOneEncoding(t, b)
		}
		level = longer
	}
}

func TestEncodeAndDecodeAreNewMemory(t *testing.T) {
	x := deepDouble()
	b, _ := Encode(x)
	kept := slices.Clone(b)
	other, _ := Encode(x)
	for i := range other {
		other[i] = 0xee
	}
	y, _ := Decode(b)
	z, _ := Decode(b)
	if !bytes.Equal(b, kept) {
		t.Errorf("the bytes became %x", b)
	}
	for i := range b {
		b[i] = 0xff
	}
	if !Same(y, deepDouble()) {
		t.Errorf("Decode keeps its argument: %v", y)
	}
	scribble(y)
	if !Same(z, deepDouble()) || !Same(x, deepDouble()) {
		t.Errorf("two values share memory: %v, %v", z, x)
	}
	again, _ := Encode(x)
	if !bytes.Equal(again, kept) {
		t.Errorf("another encoding: %x", again)
	}
}

func FuzzDecode(f *testing.F) {
	for _, x := range []api.Item{number(5), words("abc"), list(), deepDouble(), within(list(), api.MaxDeep-1)} {
		f.Add(wantBytes(x))
	}
	f.Fuzz(func(t *testing.T, b []byte) {
		checkOneEncoding(t, b)
		x, e := Decode(b)
		if e != api.OK {
			return
		}
		v, _ := Any(x)
		if y, e := Of(v); e != api.OK || !Same(x, y) {
			t.Errorf("Of(Any(%v)) = %v, %d", x, y, e)
		}
	})
}
