package accum

import (
	"math/bits"

	"caisson/api"
)

// longest is how many bytes a sum's text has at most: those of -2^127.
const longest = 40

// Add is a sum with a number more.
func Add(a api.Sum, n int64) api.Sum {
	return Plus(a, api.Sum{Hi: n >> 63, Lo: uint64(n)})
}

// Plus is two sums together.
func Plus(a, b api.Sum) api.Sum {
	lo, carry := bits.Add64(a.Lo, b.Lo, 0)
	return api.Sum{Hi: a.Hi + b.Hi + int64(carry), Lo: lo}
}

// Minus is a sum negated.
func Minus(a api.Sum) api.Sum {
	return Add(api.Sum{Hi: ^a.Hi, Lo: ^a.Lo}, 1)
}

// Value is a sum as an int64, if it is one.
func Value(a api.Sum) (int64, bool) {
	n := int64(a.Lo)
	if n>>63 != a.Hi {
		return 0, false
	}
	return n, true
}

// Text is a sum in decimal digits.
func Text(a api.Sum) string {
	var digits [longest]byte
	hi, lo := size(a)
	at := len(digits)
	for {
		var digit uint64
		hi, lo, digit = tenth(hi, lo)
		at--
		digits[at] = '0' + byte(digit)
		if hi == 0 && lo == 0 {
			break
		}
	}
	if a.Hi < 0 {
		at--
		digits[at] = '-'
	}
	return string(digits[at:])
}

// size is a sum without its sign. The least sum is its own negation, but as a number without a sign that is 2^127, as it should be.
func size(a api.Sum) (hi, lo uint64) {
	if a.Hi < 0 {
		a = Minus(a)
	}
	return uint64(a.Hi), a.Lo
}

// tenth divides a number of two halves by ten, and tells the rest.
func tenth(hi, lo uint64) (uint64, uint64, uint64) {
	quotient, rest := bits.Div64(hi%10, lo, 10)
	return hi / 10, quotient, rest
}
