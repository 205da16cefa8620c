package journal

import (
	"bytes"
	"math"
	"slices"
	"testing"

	"timekeeper/api"
)

// checkHolds asks all that a journal tells.
func checkHolds(t *testing.T, name string, j *Journal, records ...[]byte) {
	t.Helper()
	if j == nil {
		t.Errorf("%s: no journal", name)
		return
	}
	if b := j.Bytes(); !bytes.Equal(b, wantFrames(records...)) {
		t.Errorf("%s: %d bytes: %.60x", name, len(b), b)
	}
	if l := j.Records(); !sameRecords(l, records) {
		t.Errorf("%s: %d records: %.60q", name, len(l), l)
	}
	if n := j.Len(); n != len(records) {
		t.Errorf("%s: Len = %d of %d", name, n, len(records))
	}
}

// checkOpen holds Open against what is to be read from b.
func checkOpen(t *testing.T, b []byte) {
	t.Helper()
	records, size, want := wantScan(b)
	j, left, e := Open(b)
	if left != len(b)-size || e != want {
		t.Errorf("Open of %d bytes (%.40x) = %d, %d; asked for: %d, %d", len(b), b, left, e, len(b)-size, want)
	}
	checkHolds(t, "opened", j, records...)
}

// added is a journal of these records.
func added(t *testing.T, records ...[]byte) *Journal {
	t.Helper()
	j := New()
	if e := j.Add(records...); e != api.OK {
		t.Fatalf("%d records are not added: %d", len(records), e)
	}
	return j
}

// fullRecords have frames of MaxBytes bytes together: all but the last one are as long as may be.
func fullRecords() [][]byte {
	const long = api.MaxBytes / (8 + api.MaxFrame)
	records := slices.Repeat([][]byte{pattern(api.MaxFrame)}, long)
	return append(records, pattern(api.MaxBytes-long*(8+api.MaxFrame)-8))
}

func TestNew(t *testing.T) {
	checkHolds(t, "new", New())
	a, b := New(), New()
	a.Add([]byte("a"))
	checkHolds(t, "another one", b)
	checkHolds(t, "the one", a, []byte("a"))
}

// A nil *Journal has nothing, and its error comes before all others.
func TestNilJournal(t *testing.T) {
	var j *Journal
	if b := j.Bytes(); len(b) != 0 {
		t.Errorf("Bytes = %x", b)
	}
	if l := j.Records(); len(l) != 0 {
		t.Errorf("Records = %q", l)
	}
	if n := j.Len(); n != 0 {
		t.Errorf("Len = %d", n)
	}
	for i, l := range [][][]byte{nil, {}, {nil}, {[]byte("a")}, {make([]byte, api.MaxFrame+1)}, {nil, make([]byte, api.MaxBytes)}, append(fullRecords(), nil)} {
		if e := j.Add(l...); e != api.ErrNil {
			t.Errorf("Add of list %d: %d", i, e)
		}
	}
	for _, n := range []int{math.MinInt, -1, 0, 1, math.MaxInt} {
		if e := j.Tear(n); e != api.ErrNil {
			t.Errorf("Tear(%d): %d", n, e)
		}
	}
}

func TestAdd(t *testing.T) {
	j := New()
	var all [][]byte
	for _, l := range [][][]byte{nil, {[]byte("abc")}, {}, {nil}, {{}}, {[]byte("abc")}, someRecords(), {pattern(api.MaxFrame), {1}, pattern(api.MaxFrame)}, nil, {[]byte("end")}} {
		if e := j.Add(l...); e != api.OK {
			t.Errorf("%d records more: %d", len(l), e)
		}
		all = append(all, l...)
		checkHolds(t, "added", j, all...)
	}
	if e := j.Add(); e != api.OK {
		t.Errorf("nothing more: %d", e)
	}
	checkHolds(t, "nothing added", j, all...)
}

// However the records are grouped, the journal is the same.
func TestAddOneByOne(t *testing.T) {
	records := someRecords()
	for cut := range len(records) + 1 {
		j := added(t, records[:cut]...)
		for _, b := range records[cut:] {
			j.Add(b)
		}
		checkHolds(t, "one by one", j, records...)
	}
	j := New()
	for i := range 20000 {
		if e := j.Add([]byte{byte(i), byte(i >> 8)}); e != api.OK || j.Len() != i+1 {
			t.Fatalf("record %d: %d", i, e)
		}
	}
	if l := j.Records(); len(l) != 20000 || !bytes.Equal(l[1000], []byte{0xe8, 3}) {
		t.Errorf("%d records", len(l))
	}
}

// What is refused changes nothing, even if only a later one of several records is too long.
func TestAddOfTooLongRecords(t *testing.T) {
	long, longer := make([]byte, api.MaxFrame+1), make([]byte, api.MaxBytes+1)
	for _, records := range [][][]byte{nil, {nil}, someRecords()} {
		j := added(t, records...)
		for i, l := range [][][]byte{
			{long}, {longer}, {long, []byte("a")}, {[]byte("a"), long}, {[]byte("a"), nil, []byte("b"), long}, {[]byte("a"), long, []byte("b")}, {pattern(api.MaxFrame), longer}, {long, longer},
			append(fullRecords(), long), append(fullRecords(), nil, long),
		} {
			if e := j.Add(l...); e != api.ErrLong {
				t.Errorf("list %d: %d", i, e)
			}
			checkHolds(t, "refused", j, records...)
		}
		more := []byte("more")
		if e := j.Add(more); e != api.OK {
			t.Errorf("afterwards: %d", e)
		}
		checkHolds(t, "afterwards", j, append(records, more)...)
	}
}

func TestAddUpToMaxBytes(t *testing.T) {
	full := fullRecords()
	last := len(full) - 1
	for _, first := range []int{0, 1, last / 2, last, last + 1} {
		j := added(t, full[:first]...)
		if e := j.Add(full[first:]...); e != api.OK || len(j.Bytes()) != api.MaxBytes {
			t.Errorf("MaxBytes bytes: %d, %d", len(j.Bytes()), e)
		}
		checkHolds(t, "full", j, full...)
		for i, l := range [][][]byte{{nil}, {{}}, {{1}}, {nil, nil}, full, {pattern(api.MaxFrame)}} {
			if e := j.Add(l...); e != api.ErrLong {
				t.Errorf("full, and list %d: %d", i, e)
			}
		}
		if e := j.Add(); e != api.OK {
			t.Errorf("full, and nothing more: %d", e)
		}
		checkHolds(t, "still full", j, full...)
	}
	for _, first := range []int{0, 1, last / 2, last} {
		j := added(t, full[:first]...)
		more := append(slices.Clone(full[first:last]), append(slices.Clone(full[last]), 1))
		if e := j.Add(more...); e != api.ErrLong {
			t.Errorf("one byte more than MaxBytes: %d", e)
		}
		checkHolds(t, "not more", j, full[:first]...)
	}
}

// Bytes that are left at the end, up to a whole frame.
func TestAddIntoTheLastBytes(t *testing.T) {
	full := fullRecords()
	last := len(full) - 1
	for _, left := range []int{0, 1, 7, 8, 9, 11} {
		records := append(slices.Clone(full[:last]), full[last][:len(full[last])-left])
		j := added(t, records...)
		for n := range 4 {
			want := api.ErrLong
			if 8+n <= left {
				want = api.OK
			}
			k, _, _ := Open(j.Bytes())
			if e := k.Add(pattern(n)); e != want {
				t.Errorf("%d bytes left, a record of %d: %d", left, n, e)
			}
			if want == api.OK {
				checkHolds(t, "into the last bytes", k, append(slices.Clone(records), pattern(n))...)
			} else {
				checkHolds(t, "no room", k, records...)
			}
		}
	}
}

// As many records as a journal has room for, one by one.
func TestAddManyEmptyRecords(t *testing.T) {
	const most = api.MaxBytes / 8
	j := New()
	for i := range most {
		if e := j.Add(nil); e != api.OK {
			t.Fatalf("record %d: %d", i, e)
		}
	}
	if e := j.Add(nil); e != api.ErrLong || j.Len() != most || len(j.Bytes()) != api.MaxBytes || len(j.Records()) != most {
		t.Errorf("one more: %d, %d records", e, j.Len())
	}
	if e := j.Add(slices.Repeat([][]byte{nil}, most)...); e != api.ErrLong || j.Len() != most {
		t.Errorf("twice as many: %d, %d records", e, j.Len())
	}
}

// A list may name one record more often than there is memory for: what has no room is not made first.
func TestAddFarTooMany(t *testing.T) {
	j := added(t, []byte("a"))
	if e := j.Add(slices.Repeat([][]byte{pattern(api.MaxFrame)}, 1<<22)...); e != api.ErrLong {
		t.Errorf("far too many: %d", e)
	}
	checkHolds(t, "far too many", j, []byte("a"))
}

func TestOpen(t *testing.T) {
	for _, b := range [][]byte{
		nil, {}, {0}, make([]byte, 7), make([]byte, 8), {0, 1, 0, 1, 0, 0, 0, 0}, {0xff, 0xff, 0xff, 0xff, 0xff, 0xff, 0xff, 0xff},
		wantFrame(nil), wantFrames(someRecords()...), append(wantFrames(someRecords()...), 0), append(wantFrames(someRecords()...), make([]byte, 100)...),
		append(wantFrames(someRecords()...), 0, 1, 0, 1, 0, 0, 0, 0), append(wantFrames(someRecords()...), 0, 1, 0, 0, 0, 0, 0, 0, 0),
	} {
		checkOpen(t, b)
	}
}

func TestOpenUpToMaxBytes(t *testing.T) {
	full := wantFrames(fullRecords()...)
	if len(full) != api.MaxBytes {
		t.Fatalf("%d bytes", len(full))
	}
	checkOpen(t, full)
	checkOpen(t, full[:api.MaxBytes-1])
	checkOpen(t, make([]byte, api.MaxBytes))
	checkOpen(t, append(full[:1000:1000], full[:api.MaxBytes-1000]...))
	for i, b := range [][]byte{append(full, 0), append(full, full...), make([]byte, api.MaxBytes+1), bytes.Repeat([]byte{0xff}, 2*api.MaxBytes), append(full[1:len(full):len(full)], 0, 0)} {
		if j, left, e := Open(b); j != nil || left != 0 || e != api.ErrLong {
			t.Errorf("bytes %d, which are %d: %v, %d, %d", i, len(b), j != nil, left, e)
		}
	}
}

// The three errors behind some records: the records are there, and others are added in the place of what was wrong.
func TestOpenWithAnError(t *testing.T) {
	front := wantFrames(someRecords()...)
	for _, c := range []struct {
		tail []byte
		e    api.Errno
	}{
		{nil, api.OK},
		{[]byte{0, 0, 0}, api.ErrShort},
		{wantFrame([]byte("abc"))[:10], api.ErrShort},
		{wantFrame(make([]byte, api.MaxFrame+1)), api.ErrLong},
		{append([]byte{0, 0, 0, 3, 2, 0x5d, 1, 0x2a}, "abd"...), api.ErrSum},
		{append([]byte{0, 0, 0, 3, 2, 0x5d, 1, 0x2b}, wantFrame(nil)...), api.ErrSum},
	} {
		j, left, e := Open(slices.Concat(front, c.tail))
		if left != len(c.tail) || e != c.e {
			t.Errorf("%.20x behind: %d, %d", c.tail, left, e)
		}
		checkHolds(t, "opened", j, someRecords()...)
		if e := j.Add([]byte("new")); e != api.OK {
			t.Errorf("a record more: %d", e)
		}
		checkHolds(t, "added", j, append(someRecords(), []byte("new"))...)
	}
}

// What was added is read back from the bytes: P2 and P9.
func TestBytesAreOpened(t *testing.T) {
	for _, records := range [][][]byte{nil, {nil}, someRecords(), fullRecords(), slices.Repeat([][]byte{nil, {1}}, 1000)} {
		j := added(t, records...)
		k, left, e := Open(j.Bytes())
		if left != 0 || e != api.OK {
			t.Errorf("%d bytes left, %d", left, e)
		}
		checkHolds(t, "opened", k, records...)
	}
}

// wholeIn is how many of the records have their frames within n bytes.
func wholeIn(records [][]byte, n int) int {
	for i, b := range records {
		n -= 8 + len(b)
		if n < 0 {
			return i
		}
	}
	return len(records)
}

// Torn anywhere, a journal keeps a prefix of its records, exactly those whose frames are whole: P9.
func TestTearAnywhere(t *testing.T) {
	for _, records := range [][][]byte{nil, {nil}, {nil, nil, nil}, {[]byte("abc")}, someRecords()} {
		size := len(wantFrames(records...))
		for n := range size + 1 {
			j := added(t, records...)
			k, _, _ := Open(j.Bytes()[:size-n])
			if e := j.Tear(n); e != api.OK {
				t.Errorf("%d of %d bytes: %d", n, size, e)
			}
			kept := records[:wholeIn(records, size-n)]
			checkHolds(t, "torn", j, kept...)
			checkHolds(t, "opened without the last bytes", k, kept...)
			// What is added then stands behind the records that were kept.
			j.Add([]byte("new"), nil)
			checkHolds(t, "added", j, append(slices.Clone(kept), []byte("new"), nil)...)
		}
	}
}

// Torn several times, each time from what was left.
func TestTearAgain(t *testing.T) {
	records := someRecords()
	for _, n := range []int{0, 1, 7, 8, 9, 20} {
		j := added(t, records...)
		kept := len(records)
		for range 2 * len(records) {
			size := len(wantFrames(records[:kept]...))
			e := j.Tear(n)
			if (e == api.OK) != (n <= size) {
				t.Errorf("%d of %d bytes: %d", n, size, e)
			}
			if n <= size {
				kept = wholeIn(records, size-n)
			}
			checkHolds(t, "torn again", j, records[:kept]...)
		}
	}
	j := added(t, fullRecords()...)
	if e := j.Tear(1); e != api.OK {
		t.Errorf("a full journal: %d", e)
	}
	full := fullRecords()
	checkHolds(t, "a full journal, torn", j, full[:len(full)-1]...)
	if e := j.Add(full[len(full)-1]); e != api.OK {
		t.Errorf("filled again: %d", e)
	}
	checkHolds(t, "filled again", j, full...)
}

func TestTearOfOtherNumbers(t *testing.T) {
	for _, records := range [][][]byte{nil, {nil}, {[]byte("abc")}, someRecords(), fullRecords()} {
		size := len(wantFrames(records...))
		j := added(t, records...)
		for _, n := range []int{-1, -2, -size, -size - 1, math.MinInt, size + 1, size + 2, size + 8, 2*size + 1, math.MaxInt} {
			if n == 0 {
				continue
			}
			if e := j.Tear(n); e != api.ErrArg {
				t.Errorf("Tear(%d) of %d bytes: %d", n, size, e)
			}
		}
		checkHolds(t, "not torn", j, records...)
		if e := j.Tear(0); e != api.OK {
			t.Errorf("Tear(0) of %d bytes: %d", size, e)
		}
		checkHolds(t, "torn by nothing", j, records...)
		if e := j.Tear(size); e != api.OK {
			t.Errorf("Tear of all %d bytes: %d", size, e)
		}
		checkHolds(t, "torn whole", j)
		if e := j.Tear(0); e != api.OK {
			t.Errorf("Tear(0) of nothing: %d", e)
		}
		if e := j.Tear(1); e != api.ErrArg {
			t.Errorf("Tear(1) of nothing: %d", e)
		}
	}
}

// Long series of calls, against a plain list of records.
func TestAnySeries(t *testing.T) {
	state := uint32(7)
	next := func(n int) int {
		state = state*1664525 + 1013904223
		return int(state>>8) % n
	}
	for range 40 {
		j := New()
		var records [][]byte
		for range 60 {
			size := len(wantFrames(records...))
			switch next(4) {
			case 0:
				n := next(size+3) - 1
				if e := j.Tear(n); (e == api.OK) != (n >= 0 && n <= size) {
					t.Errorf("Tear(%d) of %d bytes: %d", n, size, e)
				} else if e == api.OK {
					records = records[:wholeIn(records, size-n)]
				}
			case 1:
				if e := j.Add(pattern(next(5)), make([]byte, api.MaxFrame+next(2)+1)); e != api.ErrLong {
					t.Errorf("a record too long: %d", e)
				}
			default:
				for range next(4) {
					b := pattern(next(30))
					records = append(records, b)
					if e := j.Add(b); e != api.OK {
						t.Errorf("Add of %d bytes: %d", len(b), e)
					}
				}
			}
			checkHolds(t, "in a series", j, records...)
		}
	}
}

// No call keeps what it is given, or changes it.
func TestJournalKeepsNoArgument(t *testing.T) {
	records := someRecords()
	j := added(t, records...)
	if !sameRecords(records, someRecords()) {
		t.Errorf("the arguments became %q", records)
	}
	for i := range records {
		spoil(records[i])
		records[i] = []byte("another")
	}
	checkHolds(t, "Add", j, someRecords()...)

	for _, tail := range []int{0, 1, 20} {
		b := append(wantFrames(someRecords()...), make([]byte, tail)...)
		given := slices.Clone(b)
		j, _, _ = Open(b)
		k, _, _ := Open(b)
		j.Add([]byte("more"))
		k.Tear(3)
		if !bytes.Equal(b, given) {
			t.Errorf("the bytes became %x", b)
		}
		spoil(b)
		checkHolds(t, "Open", j, append(someRecords(), []byte("more"))...)
		checkHolds(t, "Open and Tear", k, someRecords()[:8]...)
	}
	list := [][]byte{[]byte("a"), make([]byte, api.MaxFrame+1)}
	if New().Add(list...); len(list) != 2 || string(list[0]) != "a" || !bytes.Equal(list[1], make([]byte, api.MaxFrame+1)) {
		t.Error("a refused record is changed")
	}
}

// spoilAll changes a list of records, and all bytes of each.
func spoilAll(l [][]byte) {
	for i := range l {
		spoil(l[i])
		l[i] = nil
	}
	l = l[:cap(l)]
	for i := range l {
		l[i] = []byte("spoilt")
	}
}

// No result shares memory with the journal or with another result, not in its spare room either.
func TestJournalResultsAreNewMemory(t *testing.T) {
	j := New()
	for _, b := range someRecords() {
		j.Add(b)
		bytesNow, again, records, more := j.Bytes(), j.Bytes(), j.Records(), j.Records()
		wantedBytes, wanted := slices.Clone(bytesNow), slices.Clone(records)
		for i := range wanted {
			wanted[i] = slices.Clone(wanted[i])
		}
		spoil(bytesNow)
		if !bytes.Equal(again, wantedBytes) || !sameRecords(records, wanted) {
			t.Errorf("Bytes share memory: %x, %q", again, records)
		}
		spoilAll(records)
		if !bytes.Equal(again, wantedBytes) || !sameRecords(more, wanted) {
			t.Errorf("Records share memory: %x, %q", again, more)
		}
		for i := range more {
			spoil(more[i])
			if !sameRecords(more[i+1:], wanted[i+1:]) {
				t.Errorf("record %d shares memory: %q", i, more)
			}
		}
		checkHolds(t, "spoilt results", j, wanted...)
	}
	checkHolds(t, "all", j, someRecords()...)
}

// What the journal does later does not show in results that were given out.
func TestResultsStay(t *testing.T) {
	j := added(t, someRecords()...)
	b, records := j.Bytes(), j.Records()
	j.Add(pattern(100))
	j.Tear(150)
	j.Add(pattern(50), pattern(60))
	if !bytes.Equal(b, wantFrames(someRecords()...)) || !sameRecords(records, someRecords()) {
		t.Errorf("results became %x, %q", b, records)
	}
}

// Journals that were made from one another's bytes are independent.
func TestJournalsAreIndependent(t *testing.T) {
	j := added(t, someRecords()...)
	b := j.Bytes()
	k, _, _ := Open(b)
	l, _, _ := Open(b)
	j.Add([]byte("j"))
	k.Add([]byte("k"))
	l.Tear(len(b))
	l.Add([]byte("l"))
	checkHolds(t, "j", j, append(someRecords(), []byte("j"))...)
	checkHolds(t, "k", k, append(someRecords(), []byte("k"))...)
	checkHolds(t, "l", l, []byte("l"))
}
