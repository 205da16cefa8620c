// Package clock is layer 1: arithmetic of times that never wraps around.
package clock

import (
	"timekeeper/api"
)

// Is reports whether t is a time.
func Is(t int) bool {
	return 0 <= t && t <= api.MaxTime
}

// Add returns the sum of its arguments, which have to be times, as well as the sum.
func Add(t int, l ...int) (int, api.Errno) {
	if !Is(t) || !areTimes(l) {
		return 0, api.ErrArg
	}
	sum := t
	for _, u := range l {
		// Held against the room that is left: so many times may come that a plain sum would wrap around.
		if u > api.MaxTime-sum {
			return 0, api.ErrOver
		}
		sum += u
	}
	return sum, api.OK
}

// areTimes looks at all of l ahead of any sum, because a wrong argument is told rather than a sum that is too great.
func areTimes(l []int) bool {
	for _, t := range l {
		if !Is(t) {
			return false
		}
	}
	return true
}

// Sub returns t - u.
func Sub(t int, u int) (int, api.Errno) {
	if !Is(t) || !Is(u) {
		return 0, api.ErrArg
	}
	if u > t {
		return 0, api.ErrOver
	}
	return t - u, api.OK
}

// Mul returns n times t; n need not be a time itself.
func Mul(t int, n int) (int, api.Errno) {
	if !Is(t) || n < 0 {
		return 0, api.ErrArg
	}
	if t > 0 && n > api.MaxTime/t {
		return 0, api.ErrOver
	}
	return n * t, api.OK
}

// Clip returns the sum of its arguments, each of them and the sum limited to 0 to MaxTime.
func Clip(t int, l ...int) int {
	sum := min(max(t, 0), api.MaxTime)
terms:
	for _, u := range l {
		switch room := api.MaxTime - sum; {
		case u <= 0:
			continue terms
		case u >= room:
			// No term takes anything away, so the limit stays reached.
			sum = api.MaxTime
			break terms
		default:
			sum += u
		}
	}
	return sum
}

// Text returns the decimal digits of t, or the empty string if t is not a time.
func Text(t int) string {
	if !Is(t) {
		return ""
	}
	n := width(t)
	digits := make([]byte, n)
	for i := range n {
		digits[n-1-i] = byte('0' + t%10)
		t /= 10
	}
	return string(digits)
}

// width counts the decimal digits of t; 0 has one.
func width(t int) int {
	n := 1
	for t >= 10 {
		t /= 10
		n++
	}
	return n
}

// Read returns the time whose Text is s.
func Read(s string) (int, api.Errno) {
	if !isNumber(s) {
		return 0, api.ErrForm
	}
	t := 0
	for _, r := range s {
		digit := int(r - '0')
		if t > (api.MaxTime-digit)/10 {
			return 0, api.ErrOver
		}
		t = 10*t + digit
	}
	return t, api.OK
}

// isNumber looks at all of s ahead of its value, because a wrong form is told rather than a number that is too great.
func isNumber(s string) bool {
	for _, r := range s {
		if r < '0' || r > '9' {
			return false
		}
	}
	return s == "0" || s != "" && s[0] != '0'
}
