package dag

import "math/bits"

const wordBits = 64

// set is vertices, a bit each, so that many are joined at once.
type set []uint64

// newSet returns an empty set that has room for n vertices.
func newSet(n int) set {
	return make(set, (n+wordBits-1)/wordBits)
}

func (s set) add(v int) {
	s[v/wordBits] |= 1 << (v % wordBits)
}

func (s set) remove(v int) {
	s[v/wordBits] &^= 1 << (v % wordBits)
}

func (s set) has(v int) bool {
	return s[v/wordBits]&(1<<(v%wordBits)) != 0
}

// join adds all of other, which has room for as many vertices.
func (s set) join(other set) {
	for i, word := range other {
		s[i] |= word
	}
}

// all goes through the set in ascending order.
func (s set) all(yield func(int) bool) {
	for i, word := range s {
		for ; word != 0; word &= word - 1 {
			if !yield(i*wordBits + bits.TrailingZeros64(word)) {
				return
			}
		}
	}
}
