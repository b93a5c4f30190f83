package ratio

import (
	"cmp"
	"math/bits"

	"fretsaw/api"
)

// magnitude returns the absolute value of a number. That of the least int is no int.
func magnitude(n int) uint64 {
	if n < 0 {
		return -uint64(n)
	}
	return uint64(n)
}

// gcd returns the greatest common divisor of two numbers of which one is not 0.
func gcd(a, b uint64) uint64 {
	for b != 0 {
		a, b = b, a%b
	}
	return a
}

// lowest returns the ratio with parts that are in lowest terms, or ErrRange.
func lowest(isNegative bool, num, den uint64) (api.Ratio, api.Errno) {
	if num > MaxPart || den > MaxPart {
		return api.Ratio{}, api.ErrRange
	}
	r := api.Ratio{Num: int(num), Den: int(den)}
	if isNegative {
		r.Num = -r.Num
	}
	return r, api.OK
}

// compareMagnitudes compares the absolute values of two valid ratios.
func compareMagnitudes(a, b api.Ratio) int {
	aHigh, aLow := bits.Mul64(magnitude(a.Num), uint64(b.Den))
	bHigh, bLow := bits.Mul64(magnitude(b.Num), uint64(a.Den))
	return cmp.Or(cmp.Compare(aHigh, bHigh), cmp.Compare(aLow, bLow))
}
