package journal

import (
	"bytes"
	"encoding/binary"
	"encoding/hex"
	"hash/adler32"
	"slices"
	"testing"

	"timekeeper/api"
)

// wantFrame is the frame of b by the library's own means. It knows no limit, so that it makes what Frame refuses, too.
func wantFrame(b []byte) []byte {
	length := binary.BigEndian.AppendUint32(nil, uint32(len(b)))
	sum := adler32.Checksum(slices.Concat(length, b))
	return slices.Concat(length, binary.BigEndian.AppendUint32(nil, sum), b)
}

// wantFrames are the frames of all records, one behind the other.
func wantFrames(records ...[]byte) []byte {
	var all []byte
	for _, b := range records {
		all = append(all, wantFrame(b)...)
	}
	return all
}

// wantScan finds the frames by another way than Scan: it writes what a frame would have to be, and looks for it.
func wantScan(b []byte) ([][]byte, int, api.Errno) {
	var records [][]byte
	size := 0
	for size < len(b) {
		rest := b[size:]
		if len(rest) < 8 {
			return records, size, api.ErrShort
		}
		n := int64(binary.BigEndian.Uint32(rest))
		if n > api.MaxFrame {
			return records, size, api.ErrLong
		}
		if int64(len(rest)) < 8+n {
			return records, size, api.ErrShort
		}
		if !bytes.HasPrefix(rest, wantFrame(rest[8:8+n])) {
			return records, size, api.ErrSum
		}
		records = append(records, rest[8:8+n])
		size += 8 + int(n)
	}
	return records, size, api.OK
}

// sameRecords holds nil and empty records for equal, as all calls do.
func sameRecords(a [][]byte, b [][]byte) bool {
	return slices.EqualFunc(a, b, bytes.Equal)
}

// pattern is a record of n bytes that are not all alike.
func pattern(n int) []byte {
	b := make([]byte, n)
	for i := range b {
		b[i] = byte(i*7 + i/256)
	}
	return b
}

// someRecords are of several lengths, two of them equal and two empty.
func someRecords() [][]byte {
	return [][]byte{[]byte("first"), {}, []byte("a"), {0}, {0xff, 0xff}, pattern(300), nil, []byte("a"), []byte("the last one")}
}

func checkScan(t *testing.T, name string, b []byte, records [][]byte, size int, e api.Errno) {
	t.Helper()
	gotRecords, gotSize, gotError := Scan(b)
	if !sameRecords(gotRecords, records) || gotSize != size || gotError != e {
		t.Errorf("%s: Scan = %.60q, %d, %d; asked for: %.60q, %d, %d", name, gotRecords, gotSize, gotError, records, size, e)
	}
}

func TestSum(t *testing.T) {
	for _, c := range []struct {
		l   [][]byte
		sum uint32
	}{
		{nil, 1},
		{[][]byte{nil}, 1},
		{[][]byte{{}, nil, {}}, 1},
		{[][]byte{[]byte("abc")}, 0x024d0127},
		{[][]byte{[]byte("a"), []byte("bc")}, 0x024d0127},
		{[][]byte{nil, []byte("ab"), {}, []byte("c"), nil}, 0x024d0127},
		{[][]byte{[]byte("cba")}, 0x02510127},
		{[][]byte{{0}}, 0x00010001},
		{[][]byte{{0xff}}, 0x01000100},
		{[][]byte{[]byte("Wikipedia")}, 0x11e60398},
	} {
		if sum := Sum(c.l...); sum != c.sum {
			t.Errorf("Sum(%q) = %08x", c.l, sum)
		}
	}
	if sum := Sum(); sum != 1 {
		t.Errorf("Sum() = %08x", sum)
	}
}

// Both halves come to their modulus, and just below it, and beyond it many times.
func TestSumOfManyBytes(t *testing.T) {
	for _, c := range []byte{0, 1, 0x7f, 0x80, 0xff} {
		b := bytes.Repeat([]byte{c}, 70000)
		for _, n := range []int{1, 22, 23, 256, 257, 258, 361, 362, 363, 5551, 5552, 5553, 65519, 65520, 65521, 65522, 70000} {
			if sum := Sum(b[:n]); sum != adler32.Checksum(b[:n]) {
				t.Errorf("%d bytes %02x: %08x", n, c, sum)
			}
		}
	}
	for last := range 0x100 {
		b := append(bytes.Repeat([]byte{0xff}, 256), byte(last))
		if sum := Sum(b); sum != adler32.Checksum(b) {
			t.Errorf("256 bytes ff, and %02x: %08x", last, sum)
		}
	}
	long := bytes.Repeat([]byte{0xff}, 3*api.MaxBytes)
	if sum := Sum(long); sum != adler32.Checksum(long) {
		t.Errorf("%d bytes: %08x", len(long), sum)
	}
}

func TestSumOfSeveralIsThatOfAllBytes(t *testing.T) {
	b := pattern(1000)
	want := adler32.Checksum(b)
	for i := 0; i <= len(b); i += 37 {
		for k := i; k <= len(b); k += 53 {
			if sum := Sum(b[:i], b[i:k], b[k:]); sum != want {
				t.Errorf("cut at %d and %d: %08x", i, k, sum)
			}
		}
	}
	var single [][]byte
	for i := range b {
		single = append(single, b[i:i+1])
	}
	if sum := Sum(single...); sum != want {
		t.Errorf("byte by byte: %08x", sum)
	}
	if sum := Sum([]byte("b"), []byte("a")); sum == Sum([]byte("a"), []byte("b")) {
		t.Errorf("the order does not count: %08x", sum)
	}
}

func TestFrame(t *testing.T) {
	for _, c := range []struct {
		b     []byte
		frame string
	}{
		{nil, "00000000" + "00040001"},
		{[]byte{}, "00000000" + "00040001"},
		{[]byte("abc"), "00000003" + "025d012a" + "616263"},
		{[]byte{0}, "00000001" + "00070002" + "00"},
	} {
		if b, e := Frame(c.b); e != api.OK || hex.EncodeToString(b) != c.frame {
			t.Errorf("Frame(%q) = %x, %d", c.b, b, e)
		}
	}
	for _, n := range []int{1, 255, 256, 257, 65535, api.MaxFrame - 1, api.MaxFrame} {
		if b, e := Frame(pattern(n)); e != api.OK || !bytes.Equal(b, wantFrame(pattern(n))) {
			t.Errorf("Frame of %d bytes: %d bytes, %d", n, len(b), e)
		}
	}
}

func TestFrameOfTooMuch(t *testing.T) {
	for _, n := range []int{api.MaxFrame + 1, api.MaxFrame + 2, 2 * api.MaxFrame, api.MaxBytes, 3 * api.MaxBytes} {
		if b, e := Frame(make([]byte, n)); len(b) != 0 || e != api.ErrLong {
			t.Errorf("Frame of %d bytes: %d bytes, %d", n, len(b), e)
		}
	}
}

// What Frame has written, Scan reads: P2.
func TestScanReadsFrames(t *testing.T) {
	for _, records := range [][][]byte{
		nil, {nil}, {{}}, {{}, {}, {}}, {[]byte("abc")}, {pattern(api.MaxFrame)}, {{}, pattern(api.MaxFrame), {1}, pattern(api.MaxFrame - 1), {}}, someRecords(),
	} {
		var b []byte
		for _, r := range records {
			frame, e := Frame(r)
			if e != api.OK {
				t.Errorf("Frame of %d bytes: %d", len(r), e)
			}
			b = append(b, frame...)
		}
		checkScan(t, "frames", b, records, len(b), api.OK)
	}
	checkScan(t, "nothing", nil, nil, 0, api.OK)
	checkScan(t, "no bytes", []byte{}, nil, 0, api.OK)
}

// The limit on the bytes of a journal is not one of Scan.
func TestScanOfMoreThanMaxBytes(t *testing.T) {
	records := slices.Repeat([][]byte{pattern(api.MaxFrame)}, 2+api.MaxBytes/api.MaxFrame)
	b := wantFrames(records...)
	checkScan(t, "many long records", b, records, len(b), api.OK)
	checkScan(t, "many long records and a byte", append(b, 0), records, len(b), api.ErrShort)
	empty := slices.Repeat([][]byte{nil}, 1+api.MaxBytes/8)
	b = wantFrames(empty...)
	checkScan(t, "many empty records", b, empty, len(b), api.OK)
}

// Each error is that of the bytes behind the frames, wherever they stand.
func TestScanErrors(t *testing.T) {
	word := func(n uint32) []byte { return binary.BigEndian.AppendUint32(nil, n) }
	wrong := func(b []byte, i int) []byte { c := slices.Clone(b); c[i]++; return c }
	abc := wantFrame([]byte("abc"))
	longest := wantFrame(pattern(api.MaxFrame))
	for _, c := range []struct {
		name string
		tail []byte
		e    api.Errno
	}{
		{"nothing", nil, api.OK},
		{"one byte", []byte{0}, api.ErrShort},
		{"seven bytes", make([]byte, 7), api.ErrShort},
		{"seven bytes that a length too great begins", append(word(1<<32-1), 1, 2, 3), api.ErrShort},
		{"seven bytes of a frame without bytes", wantFrame(nil)[:7], api.ErrShort},
		{"no length and no sum", make([]byte, 8), api.ErrSum},
		{"a length just too great", append(word(api.MaxFrame+1), 0, 0, 0, 0), api.ErrLong},
		{"a length too great, with all bytes and the right sum", wantFrame(pattern(api.MaxFrame + 1)), api.ErrLong},
		{"a length too great, with all bytes and a wrong sum", wrong(wantFrame(pattern(api.MaxFrame+1)), 5), api.ErrLong},
		{"a length of 1<<31", append(word(1<<31), 0, 0, 0, 0), api.ErrLong},
		{"a length of 1<<31 and three", append(append(word(1<<31+3), abc[4:8]...), "abc"...), api.ErrLong},
		{"the greatest length", append(word(1<<32-1), 0, 0, 0, 0), api.ErrLong},
		{"the length of an error", append(word(1<<32-8), 0, 0, 0, 0), api.ErrLong},
		{"the greatest length that may be, without bytes", longest[:8], api.ErrShort},
		{"the greatest length that may be, but for a byte", longest[:len(longest)-1], api.ErrShort},
		{"a head alone", abc[:8], api.ErrShort},
		{"a byte less", abc[:10], api.ErrShort},
		{"a byte less and a wrong sum", wrong(abc[:10], 7), api.ErrShort},
		{"a wrong sum", wrong(abc, 7), api.ErrSum},
		{"a wrong sum in front", wrong(abc, 4), api.ErrSum},
		{"a wrong byte", wrong(abc, 10), api.ErrSum},
		{"a sum without the length", slices.Concat(word(3), word(0x024d0127), []byte("abc")), api.ErrSum},
		{"a sum with its halves exchanged", slices.Concat(word(3), word(0x012a025d), []byte("abc")), api.ErrSum},
		{"a sum with the last byte first", slices.Concat(word(3), word(0x2a015d02), []byte("abc")), api.ErrSum},
		{"a length with the last byte first", slices.Concat([]byte{3, 0, 0, 0}, word(0x025d012a), []byte("abc")), api.ErrLong},
		{"a wrong sum and a whole frame behind", append(wrong(abc, 7), abc...), api.ErrSum},
		{"a length too great and a whole frame behind", append(append(word(1<<20), 0, 0, 0, 0), abc...), api.ErrLong},
	} {
		for _, records := range [][][]byte{nil, {nil}, {[]byte("x")}, {pattern(api.MaxFrame)}, someRecords()} {
			front := wantFrames(records...)
			checkScan(t, c.name, append(slices.Clone(front), c.tail...), records, len(front), c.e)
		}
	}
}

// Bytes that end at any place: just behind a frame all is well.
func TestScanOfCutFrames(t *testing.T) {
	records := someRecords()
	b := wantFrames(records...)
	end, whole := 0, 0
	for n := range len(b) + 1 {
		if whole < len(records) && n == end+len(wantFrame(records[whole])) {
			end, whole = n, whole+1
		}
		want := api.ErrShort
		if n == end {
			want = api.OK
		}
		checkScan(t, "cut", b[:n], records[:whole], end, want)
	}
	if whole != len(records) {
		t.Errorf("%d whole records", whole)
	}
}

// Each byte of a frame, changed to each other one: the frame is never read, nor what is behind it.
func TestScanOfChangedFrames(t *testing.T) {
	front, behind := []byte("front"), []byte("behind")
	for _, record := range [][]byte{nil, []byte("abc"), {0, 0, 0}, pattern(20)} {
		size := len(wantFrame(front))
		frame := wantFrame(record)
		b := slices.Concat(wantFrame(front), frame, wantFrame(behind))
		for i := range frame {
			for c := range 0x100 {
				if byte(c) == frame[i] {
					continue
				}
				changed := slices.Clone(b)
				changed[size+i] = byte(c)
				_, _, want := wantScan(changed)
				if want == api.OK || i >= 4 && want != api.ErrSum {
					t.Errorf("byte %d is %02x: %d is asked for", i, c, want)
				}
				checkScan(t, "changed", changed, [][]byte{front}, size, want)
			}
		}
	}
}

// checkAgainstFrames holds Scan against Frame: the frames of the records are the bytes that they were read from.
func checkAgainstFrames(t *testing.T, b []byte) {
	t.Helper()
	records, size, e := wantScan(b)
	checkScan(t, "bytes", b, records, size, e)
	got, size, _ := Scan(b)
	if again := wantFrames(got...); !bytes.Equal(again, b[:size]) {
		t.Errorf("%.60x is read from %.60x", again, b)
	}
}

// All short strings of some pieces, among them whole frames.
func TestScanOfAnyPieces(t *testing.T) {
	pieces := [][]byte{{0}, {1}, {0xff}, {0, 0, 0, 0}, {0, 0, 0, 1}, {0, 1, 0, 0}, {0, 1, 0, 1}, {0, 4, 0, 1}, wantFrame(nil), wantFrame([]byte{1}), wantFrame([]byte("abc"))}
	level := [][]byte{nil}
	for range 4 {
		var longer [][]byte
		for _, b := range level {
			for _, p := range pieces {
				longer = append(longer, append(slices.Clone(b), p...))
			}
		}
		for _, b := range longer {
			checkAgainstFrames(t, b)
		}
		level = longer
	}
}

// spoil changes all bytes of b, its spare room too.
func spoil(b []byte) {
	b = b[:cap(b)]
	for i := range b {
		b[i] ^= 0x5a
	}
}

func TestFrameAndScanAreNewMemory(t *testing.T) {
	b := pattern(40)
	frame, _ := Frame(b[:20])
	other, _ := Frame(b[:20])
	if !bytes.Equal(b, pattern(40)) {
		t.Errorf("the record became %x", b)
	}
	spoil(b)
	if !bytes.Equal(frame, wantFrame(pattern(20))) {
		t.Errorf("Frame keeps its argument: %x", frame)
	}
	spoil(frame)
	spoil(b)
	if !bytes.Equal(other, wantFrame(pattern(20))) || !bytes.Equal(b, pattern(40)) {
		t.Errorf("a frame shares memory: %x, %x", other, b)
	}

	b = append(wantFrames(someRecords()...), 9)
	kept := slices.Clone(b)
	records, _, _ := Scan(b)
	again, _, _ := Scan(b)
	if !bytes.Equal(b, kept) {
		t.Errorf("the bytes became %x", b)
	}
	spoil(b)
	if !sameRecords(records, someRecords()) {
		t.Errorf("Scan keeps its argument: %q", records)
	}
	copy(b, kept)
	for i := range records {
		spoil(records[i])
		if !sameRecords(records[i+1:], someRecords()[i+1:]) || !sameRecords(again, someRecords()) || !bytes.Equal(b, kept) {
			t.Errorf("record %d shares memory: %q, %q, %x", i, records, again, b)
		}
	}
}

func TestSumLeavesItsArguments(t *testing.T) {
	l := [][]byte{[]byte("abc"), nil, pattern(30)}
	Sum(l...)
	if !sameRecords(l, [][]byte{[]byte("abc"), nil, pattern(30)}) {
		t.Errorf("the arguments became %q", l)
	}
}

func FuzzScan(f *testing.F) {
	f.Add([]byte{})
	f.Add(wantFrame(nil))
	f.Add(wantFrames(someRecords()...))
	f.Add(append(wantFrames([]byte("abc"), []byte("d")), 0, 0, 0, 1, 0))
	f.Fuzz(func(t *testing.T, b []byte) {
		checkAgainstFrames(t, b)
		checkAgainstFrames(t, wantFrame(b[:min(len(b), api.MaxFrame)]))
		checkAgainstFrames(t, slices.Concat(wantFrames(someRecords()...), b))
		checkOpen(t, b)
	})
}
