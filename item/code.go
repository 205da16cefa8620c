package item

import (
	"timekeeper/api"
)

// The bytes of a Number, and of the length of a Text or a List.
const (
	numberSize = 8
	lengthSize = 4
)

// Encode returns x as bytes.
func Encode(x api.Item) ([]byte, api.Errno) {
	if e := Check(x); e != api.OK {
		return nil, e
	}
	return appendItem(nil, x), api.OK
}

// appendItem expects a value that Check has accepted.
func appendItem(b []byte, x api.Item) []byte {
	b = append(b, byte(x.Kind))
	switch x.Kind {
	case api.Number:
		return appendBits(b, uint64(x.N), numberSize)
	case api.Text:
		b = appendBits(b, uint64(len(x.S)), lengthSize)
		return append(b, x.S...)
	default:
		b = appendBits(b, uint64(len(x.L)), lengthSize)
		for _, y := range x.L {
			b = appendItem(b, y)
		}
		return b
	}
}

// appendBits appends the last size bytes of n, the most significant one first.
func appendBits(b []byte, n uint64, size int) []byte {
	for i := range size {
		b = append(b, byte(n>>(8*(size-1-i))))
	}
	return b
}

// Decode returns the value whose encoding is b.
func Decode(b []byte) (api.Item, api.Errno) {
	if len(b) > api.MaxBytes {
		return api.Item{}, api.ErrLong
	}
	r := reader{room{api.MaxItems}, b}
	x, ok := r.item(1)
	if !ok || len(r.rest) > 0 {
		return api.Item{}, api.ErrForm
	}
	return x, api.OK
}

// reader keeps to the limits of Check while it reads: there is no encoding of a value beyond them.
type reader struct {
	room
	rest []byte
}

// item reads one value.
func (r *reader) item(deep int) (api.Item, bool) {
	kind, ok := r.bits(1)
	if !ok {
		return api.Item{}, false
	}
	switch kind {
	case api.Number:
		n, ok := r.bits(numberSize)
		return Num(int(n)), ok && r.take(deep, 0)
	case api.Text:
		s, ok := r.text()
		return Str(s), ok && r.take(deep, 0)
	case api.List:
		l, ok := r.list(deep)
		return api.Item{Kind: api.List, L: l}, ok
	default:
		return api.Item{}, false
	}
}

// bits reads an unsigned number of size bytes.
func (r *reader) bits(size int) (uint64, bool) {
	if size > len(r.rest) {
		return 0, false
	}
	n := uint64(0)
	for _, c := range r.rest[:size] {
		n = n<<8 | uint64(c)
	}
	r.rest = r.rest[size:]
	return n, true
}

// text reads what stands behind the kind of a Text.
func (r *reader) text() (string, bool) {
	n, ok := r.bits(lengthSize)
	if !ok || n > uint64(len(r.rest)) {
		return "", false
	}
	s := string(r.rest[:n])
	r.rest = r.rest[n:]
	return s, true
}

// list reads what stands behind the kind of a List.
func (r *reader) list(deep int) ([]api.Item, bool) {
	n, ok := r.bits(lengthSize)
	if !ok || !r.take(deep, int(n)) {
		return nil, false
	}
	l := make([]api.Item, n)
	for i := range l {
		if l[i], ok = r.item(deep + 1); !ok {
			return nil, false
		}
	}
	return l, true
}
