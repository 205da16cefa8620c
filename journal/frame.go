package journal

import (
	"bytes"

	"timekeeper/api"
)

// The bytes of a length or a checksum, and of both, which stand before each record.
const (
	wordSize = 4
	headSize = 2 * wordSize
)

// sumBase is the greatest prime below 1<<16, as Adler-32 has it.
const sumBase = 65521

// Sum returns the Adler-32 checksum of all bytes in order.
func Sum(l ...[]byte) uint32 {
	low, high := uint32(1), uint32(0)
	for _, b := range l {
		for _, c := range b {
			low = (low + uint32(c)) % sumBase
			high = (high + low) % sumBase
		}
	}
	return high<<16 | low
}

// Frame returns the record b with its length and checksum before it.
func Frame(b []byte) ([]byte, api.Errno) {
	if len(b) > api.MaxFrame {
		return nil, api.ErrLong
	}
	length := appendWord(make([]byte, 0, headSize+len(b)), uint32(len(b)))
	head := appendWord(length, Sum(length, b))
	return append(head, b...), api.OK
}

// appendWord appends n, the most significant byte first.
func appendWord(b []byte, n uint32) []byte {
	return append(b, byte(n>>24), byte(n>>16), byte(n>>8), byte(n))
}

// word returns the number that appendWord has written as b.
func word(b []byte) uint32 {
	n := uint32(0)
	for _, c := range b {
		n = n<<8 | uint32(c)
	}
	return n
}

// Scan returns the records of the frames that b begins with, the size of these frames, and what is wrong behind them.
func Scan(b []byte) ([][]byte, int, api.Errno) {
	var records [][]byte
	rest, e := b, api.OK
frames:
	for len(rest) > 0 {
		if len(rest) < headSize {
			e = api.ErrShort
			break frames
		}
		length, sum, body := rest[:wordSize], rest[wordSize:headSize], rest[headSize:]
		switch n := word(length); {
		case n > api.MaxFrame:
			e = api.ErrLong
			break frames
		case int(n) > len(body):
			e = api.ErrShort
			break frames
		case Sum(length, body[:n]) != word(sum):
			e = api.ErrSum
			break frames
		default:
			records = append(records, bytes.Clone(body[:n]))
			rest = body[n:]
		}
	}
	return records, len(b) - len(rest), e
}
