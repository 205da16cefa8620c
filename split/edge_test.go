package split

import (
	"fmt"
	"math"
	"math/big"
	"testing"

	"timekeeper/api"
)

// Now plus the length is just a time, and then none any more.
func TestEarliestAtTheLimit(t *testing.T) {
	f := example()
	check(t, "just a time", f, most-7, most, answers{
		earliest: most, windows: windows(most-7, most-2, most-7, most-2, most-2, most), shares: windows(most-7, most-4, most-7, most-2, most-2, most), slack: []int{2, 0, 0},
	})
	check(t, "one below it", f, most-7, most-1, late(most))
	check(t, "none any more", f, most-6, most, refused(api.ErrOver))
	check(t, "none at the end of times", f, most, most, refused(api.ErrOver))
	check(t, "one ahead", f, most-8, most-1, answers{
		earliest: most - 1, windows: windows(most-8, most-3, most-8, most-3, most-3, most-1), shares: windows(most-8, most-5, most-8, most-3, most-3, most-1), slack: []int{2, 0, 0},
	})
	check(t, "one ahead, with one more", f, most-8, most, answers{
		earliest: most - 1, windows: windows(most-8, most-2, most-8, most-2, most-3, most), shares: windows(most-8, most-5, most-8, most-3, most-3, most), slack: []int{3, 1, 1},
	})
	f.Tasks[1].Wall++
	check(t, "a longer task", f, most-7, most, refused(api.ErrOver))
	f.Tasks[1].Done = true
	check(t, "a longer task, done", f, most-5, most, answers{
		earliest: most, windows: windows(most-5, most-2, most-5, most-2, most-2, most), shares: windows(most-5, most-2, most-5, most-5, most-2, most), slack: []int{0, 3, 0},
	})
}

// ErrOver rather than ErrLate: what is done by no time is not done by any one.
func TestOverIsToldAheadOfLate(t *testing.T) {
	for _, by := range []int{0, 1, most - 1, most} {
		check(t, "after now", example(), most-6, by, refused(api.ErrOver))
		check(t, "by the length", flowOf(task("a", most), task("b", 1, 0)), 0, by, refused(api.ErrOver))
		check(t, "by both", flowOf(task("a", most), task("b", most, 0)), most, by, refused(api.ErrOver))
		check(t, "one Wall", flowOf(task("a", most)), 1, by, refused(api.ErrOver))
	}
}

func TestGreatestWall(t *testing.T) {
	f := flowOf(task("a", most))
	check(t, "alone", f, 0, most, answers{earliest: most, windows: windows(0, most), shares: windows(0, most), slack: []int{0}})
	check(t, "alone, one below", f, 0, most-1, late(most))
	check(t, "alone, by nothing", f, 0, 0, late(most))
	check(t, "one after now", f, 1, most, refused(api.ErrOver))
	check(t, "a row with a done one", flowOf(done(task("a", most)), task("b", most, 0), done(task("c", most, 1))), 0, most, answers{
		earliest: most, windows: windows(0, 0, 0, most, most, most), shares: windows(0, 0, 0, most, most, most), slack: []int{0, 0, 0},
	})
	check(t, "beside a short one", flowOf(task("a", most), task("b", 1)), 0, most, answers{
		earliest: most, windows: windows(0, most, 0, most), shares: windows(0, most, 0, 1), slack: []int{0, most - 1},
	})
	check(t, "all in one row", flowOf(task("a", 1), task("b", most-2, 0), task("c", 1, 1)), 0, most, answers{
		earliest: most, windows: windows(0, 1, 1, most-1, most-1, most), shares: windows(0, 1, 1, most-1, most-1, most), slack: []int{0, 0, 0},
	})
}

func TestAllTimes(t *testing.T) {
	f := flowOf(task("a", 1), task("b", 1, 0))
	check(t, "two of the same", f, 0, most, answers{
		earliest: 2, windows: windows(0, most-1, 1, most), shares: windows(0, most/2, most/2, most), slack: []int{most - 2, most - 2},
	})
	check(t, "by nothing", f, 0, 0, late(2))
	check(t, "from the end", f, most, 0, refused(api.ErrOver))
	check(t, "from just ahead of the end", f, most-2, 0, late(most))
	check(t, "just ahead of the end", f, most-2, most, answers{
		earliest: most, windows: windows(most-2, most-1, most-1, most), shares: windows(most-2, most-1, most-1, most), slack: []int{0, 0},
	})
}

// Here 2^39-1 of 2^39 are shared out over 2^40-1, a product of 79 bits.
func TestProductsBeyond64Bits(t *testing.T) {
	const half = 1 << 39
	check(t, "almost all of it", flowOf(task("a", half-1), task("b", 1, 0)), 0, most, answers{
		earliest: half, windows: windows(0, most-1, half-1, most), shares: windows(0, most-2, most-2, most), slack: []int{half - 1, half - 1},
	})
	check(t, "the other way round", flowOf(task("a", 1), task("b", half-1, 0)), 0, most, answers{
		earliest: half, windows: windows(0, half, 1, most), shares: windows(0, 1, 1, most), slack: []int{half - 1, half - 1},
	})
	check(t, "in the middle", flowOf(task("a", half-1), task("b", half-1, 0)), 0, most, answers{
		earliest: most - 1, windows: windows(0, half, half-1, most), shares: windows(0, half-1, half-1, most), slack: []int{1, 1},
	})
}

// The shares of two tasks in a row, for numbers around those that a product is decomposed by.
func TestSharesAreExact(t *testing.T) {
	var numbers []int
	for _, n := range []int{1, 2, 3, 7, 10, 1 << 19, 1 << 20, 1 << 21, 1<<20 + 1<<10, 1 << 30, 1 << 32, 1 << 39, most / 3, most - 1<<20} {
		numbers = append(numbers, n-1, n, n+1)
	}
	numbers = append(numbers, most-2, most-1, most)
	asked := 0
	for _, before := range numbers {
		for _, wall := range numbers {
			for _, span := range numbers {
				length := before + wall
				if before < 1 || wall < 1 || span < length {
					continue
				}
				asked++
				n := new(big.Int).Mul(big.NewInt(int64(before)), big.NewInt(int64(span)))
				middle := int(n.Div(n, big.NewInt(int64(length))).Int64())
				now := most - span
				l, e := Shares(flowOf(task("a", before), task("b", wall, 0)), now, most)
				if e != api.OK || len(l) != 2 || l[0] != (api.Window{From: now, By: now + middle}) || l[1] != (api.Window{From: now + middle, By: most}) {
					t.Errorf("%d and %d over %d: %v, %d; asked for: up to %d", before, wall, span, l, e, now+middle)
				}
			}
		}
	}
	if asked < 20000 {
		t.Errorf("only %d were asked for", asked)
	}
}

func TestNotTimes(t *testing.T) {
	for _, f := range []api.Flow{example(), flowOf(), flowOf(done(task("a", 1))), flowOf(task("a", most)), flowOf(task("a", most), task("b", most, 0)), {}, flowOf(task("a", 0)), flowOf(task("a", 1, 0))} {
		for _, wrong := range []int{-1, -2, most + 1, most + 2, -most, 1 << 41, math.MinInt, math.MaxInt, math.MinInt + 1, math.MaxInt - 1} {
			for _, other := range []int{0, 10, most, wrong, -1, most + 1} {
				check(t, fmt.Sprint("now is ", wrong), f, wrong, other, refused(api.ErrArg))
			}
			// Earliest does not know of by.
			for _, now := range []int{0, 10, most} {
				earliest, e := Earliest(f, now)
				want := onlyEarliest(earliest, api.ErrArg)
				want.errors[0] = e
				check(t, fmt.Sprint("by is ", wrong), f, now, wrong, want)
			}
		}
	}
}
